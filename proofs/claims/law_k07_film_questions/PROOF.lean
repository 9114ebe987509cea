import PyProof.Rows.All
import Wide.All
import OpenK.AllK
import Wide.FinOn
import HandS.ForMost
import HandS.ForExc
import HandS.HotCalls
import HandS.Star
import HandS.CallSlots
import HandS.Wide
import HandS.IsInst
import HandS.RaiseMore
import HandS.ClsMeth
import HandS.SlotsOwn
import HandS.TupLe
import HandS.FStr
import HandS.Text
import KE.KExcSuper
import HandS.Nested
import HandS.ExcInit
import HandS.ExcCtx
import HandS.ExcField
import KE.KExcIs
import HandS.Flow
import HandS.MakeKwOnly
import HandS.TupAny
import KE.KEqNest
import HandS.BoundList
import KE.KFmtOwn
import PyProof.StrLawsRepr
import HandS.Property
import HandS.Defaults
import HandS.TryMany
import PyProof.Rows.SeqMore
import KE.RegKSuper
import KE.RegKTryMore
import PySem.Challenge.RW_laidink_k07_film_questions
set_option Elab.async false
set_option linter.all false
set_option maxRecDepth 100000
set_option maxHeartbeats 4000000
/-! Data without addresses over the hand layer: D (trees of plain data), EV (data or a store object), the relation to the abstract heap, and its growth. -/
namespace DL
open PySem L2

inductive D where
  | non | bl (b : Bool) | int (i : Int) | str (x : Str)
  | tup (xs : List D) | lst (xs : List D)
  | ins (c : String) (fs : List D)
  | cls (c : String)
  | ty (n : String)
/-- data, or an object of the store -/
inductive EV where
  | d (x : D) | o (i : Nat)
/-- an object of the store: a list that is written -/
inductive GO where
  | lst (xs : List EV)
abbrev GS := List GO
/-- what a frame alone holds and may still change -/
inductive OW where
  | lst (xs : List D) | ins (c : String) (fs : List D)
inductive Sl where
  | no | ev (e : EV) | own (o : OW) | exn (c : String) (fs : List D)
abbrev En := List Sl
inductive Out (α : Type) where
  | ok (a : α) (g : GS) | er (c : String) (fs : List D) (g : GS) | st
def Out.bind {α β : Type} (o : Out α) (f : α → GS → Out β) : Out β := match o with
  | .ok a g => f a g
  | .er c fs g => .er c fs g
  | .st => .st
abbrev EM := En → GS → Out EV

/-- the frame's constants: the written part, where the classes stand, what the callers may still change -/
structure RC where
  K : PySem.W.Frag
  C : String → Addr
  /-- the fields of a class, in the order in which __init__ stores them -/
  N : String → List Str
  B : Addr → Prop
  /-- the instance that __init__ fills -/
  s : Addr := 0
  /-- the dict of the error that an except suite handles (the error at s) -/
  x : Addr := 0

/-- may be read for ever -/
def Zz (c : RC) (M : Addr → Prop) (ρ : List Addr) (a : Addr) : Prop := ¬ c.B a ∧ ¬ M a ∧ a ∉ ρ
/-- a list, a tuple of the module's own top: what is a sequence though the heap tracks nothing -/
def KL (K : PySem.W.Frag) (a : Addr) (xs : List V) : Prop := SqL K (fun _ => Option.none) a xs
def KT (K : PySem.W.Frag) (a : Addr) (xs : List V) : Prop := SqT K (fun _ => Option.none) a xs
theorem KL.up {K : PySem.W.Frag} {a : Addr} {xs : List V} {H : Hp} (h : KL K a xs) : SqL K H a xs := by
  rcases h with h | h
  · rcases h with h | ⟨_, h⟩ <;> cases h
  · exact .inr h
theorem KT.up {K : PySem.W.Frag} {a : Addr} {xs : List V} {H : Hp} (h : KT K a xs) : SqT K H a xs := by
  rcases h with h | h
  · rcases h with h | ⟨_, h⟩ <;> cases h
  · exact .inr h
def ZL (c : RC) (M : Addr → Prop) (ρ : List Addr) (H : Hp) (a : Addr) (xs : List V) : Prop := (Zz c M ρ a ∧ Rd H a (.lst xs)) ∨ KL c.K a xs
def ZT (c : RC) (M : Addr → Prop) (ρ : List Addr) (H : Hp) (a : Addr) (xs : List V) : Prop := (Zz c M ρ a ∧ Rd H a (.tup xs)) ∨ KT c.K a xs
theorem ZL.sq {c : RC} {M : Addr → Prop} {ρ : List Addr} {H : Hp} {a : Addr} {xs : List V} (h : ZL c M ρ H a xs) : SqL c.K H a xs := h.elim (fun z => .inl z.2) KL.up
theorem ZT.sq {c : RC} {M : Addr → Prop} {ρ : List Addr} {H : Hp} {a : Addr} {xs : List V} (h : ZT c M ρ H a xs) : SqT c.K H a xs := h.elim (fun z => .inl z.2) KT.up

inductive All2 {α β : Type} (R : α → β → Prop) : List α → List β → Prop
  | nil : All2 R [] []
  | cons {a b as bs} : R a b → All2 R as bs → All2 R (a :: as) (b :: bs)
theorem All2.imp {α β : Type} {R S : α → β → Prop} (h : ∀ a b, R a b → S a b) : ∀ {as : List α} {bs : List β}, All2 R as bs → All2 S as bs
  | _, _, .nil => .nil
  | _, _, .cons r t => .cons (h _ _ r) (All2.imp h t)
theorem All2.length {α β : Type} {R : α → β → Prop} : ∀ {as : List α} {bs : List β}, All2 R as bs → as.length = bs.length
  | _, _, .nil => rfl
  | _, _, .cons _ t => by simp [All2.length t]
theorem All2.append {α β : Type} {R : α → β → Prop} : ∀ {as as' : List α} {bs bs' : List β}, All2 R as bs → All2 R as' bs' → All2 R (as ++ as') (bs ++ bs')
  | _, _, _, _, .nil, s => s
  | _, _, _, _, .cons r t, s => .cons r (All2.append t s)
theorem All2.get {α β : Type} {R : α → β → Prop} : ∀ {as : List α} {bs : List β} {i : Nat} {a : α}, All2 R as bs → as[i]? = some a → ∃ b, bs[i]? = some b ∧ R a b
  | _, _, _, _, .nil, e => by simp at e
  | _, _, 0, _, .cons r _, e => by simp at e; subst e; exact ⟨_, rfl, r⟩
  | _, _, i + 1, a, .cons _ t, e => by
    obtain ⟨b, h1, h2⟩ := All2.get (i := i) (a := a) t (by simpa using e)
    exact ⟨b, by simpa using h1, h2⟩
theorem All2.get' {α β : Type} {R : α → β → Prop} : ∀ {as : List α} {bs : List β} {i : Nat} {b : β}, All2 R as bs → bs[i]? = some b → ∃ a, as[i]? = some a ∧ R a b
  | _, _, _, _, .nil, e => by simp at e
  | _, _, 0, _, .cons r _, e => by simp at e; subst e; exact ⟨_, rfl, r⟩
  | _, _, i + 1, b, .cons _ t, e => by
    obtain ⟨a, h1, h2⟩ := All2.get' (i := i) (b := b) t (by simpa using e)
    exact ⟨a, by simpa using h1, h2⟩
theorem All2.set {α β : Type} {R : α → β → Prop} {a : α} {b : β} (r : R a b) : ∀ {as : List α} {bs : List β} (i : Nat), All2 R as bs → All2 R (as.set i a) (bs.set i b)
  | _, _, _, .nil => .nil
  | _, _, 0, .cons _ t => .cons r t
  | _, _, i + 1, .cons q t => .cons q (All2.set r i t)

/-- d stands for v, to the depth n -/
def RepN (c : RC) (M : Addr → Prop) (ρ : List Addr) (H : Hp) : Nat → D → V → Prop
  | _, .non, v => v = .non
  | _, .bl b, v => v = .bl b
  | _, .int i, v => v = .int i
  | _, .str x, v => v = .str x
  | _, .cls k, v => v = .ref (c.C k)
  | _, .ty k, v => v = .ty k
  | n + 1, .tup xs, v => ∃ a vs, v = .ref a ∧ ZT c M ρ H a vs ∧ All2 (RepN c M ρ H n) xs vs
  | n + 1, .lst xs, v => ∃ a vs, v = .ref a ∧ ZL c M ρ H a vs ∧ All2 (RepN c M ρ H n) xs vs
  | n + 1, .ins k fs, v => ∃ a dx gs, v = .ref a ∧ Zz c M ρ a ∧ H a = some (.ins (c.C k) dx gs) ∧ gs.map (·.1) = (c.N k).take gs.length ∧ All2 (fun (p : D) (q : Str × V) => RepN c M ρ H n p q.2) fs gs
  | 0, _, _ => False
theorem RepN.up {c : RC} {M : Addr → Prop} {ρ : List Addr} {H : Hp} : ∀ {n : Nat} {d : D} {v : V}, RepN c M ρ H n d v → RepN c M ρ H (n + 1) d v := by
  intro n
  induction n with
  | zero =>
    intro d v h
    cases d <;> first | exact h | (exact absurd h (by simp [RepN]))
  | succ n ih =>
    intro d v h
    cases d with
    | tup xs => obtain ⟨a, vs, e, z, r⟩ := h; exact ⟨a, vs, e, z, r.imp fun _ _ q => ih q⟩
    | lst xs => obtain ⟨a, vs, e, z, r⟩ := h; exact ⟨a, vs, e, z, r.imp fun _ _ q => ih q⟩
    | ins k fs => obtain ⟨a, dx, gs, e, z, e2, nm, r⟩ := h; exact ⟨a, dx, gs, e, z, e2, nm, r.imp fun _ _ q => ih q⟩
    | _ => exact h
theorem RepN.mono {c : RC} {M : Addr → Prop} {ρ : List Addr} {H : Hp} {n m : Nat} {d : D} {v : V} (h : RepN c M ρ H n d v) (hn : n ≤ m) : RepN c M ρ H m d v := by
  induction hn with
  | refl => exact h
  | step _ ih => exact ih.up
def Rep (c : RC) (M : Addr → Prop) (ρ : List Addr) (H : Hp) (d : D) (v : V) : Prop := ∃ n, RepN c M ρ H n d v
theorem reps_n {c : RC} {M : Addr → Prop} {ρ : List Addr} {H : Hp} : ∀ {xs : List D} {vs : List V}, All2 (Rep c M ρ H) xs vs → ∃ n, All2 (RepN c M ρ H n) xs vs
  | _, _, .nil => ⟨0, .nil⟩
  | _, _, .cons ⟨n, r⟩ t => by
    obtain ⟨m, q⟩ := reps_n t
    exact ⟨max n m, .cons (r.mono (Nat.le_max_left n m)) (q.imp fun _ _ z => z.mono (Nat.le_max_right n m))⟩
structure Flds (c : RC) (M : Addr → Prop) (ρ : List Addr) (H : Hp) (k : String) (fs : List D) (gs : List (Str × V)) : Prop where
  nm : gs.map (·.1) = (c.N k).take gs.length
  r : All2 (fun (p : D) (q : Str × V) => Rep c M ρ H p q.2) fs gs
theorem flds_n {c : RC} {M : Addr → Prop} {ρ : List Addr} {H : Hp} : ∀ {fs : List D} {gs : List (Str × V)}, All2 (fun (p : D) (q : Str × V) => Rep c M ρ H p q.2) fs gs → ∃ n, All2 (fun (p : D) (q : Str × V) => RepN c M ρ H n p q.2) fs gs
  | _, _, .nil => ⟨0, .nil⟩
  | _, _, .cons ⟨n, r⟩ t => by
    obtain ⟨m, q⟩ := flds_n t
    exact ⟨max n m, .cons (r.mono (Nat.le_max_left n m)) (q.imp fun _ _ z => z.mono (Nat.le_max_right n m))⟩
section
variable {c : RC} {M : Addr → Prop} {ρ : List Addr} {H : Hp} {v : V}
theorem Rep.non : Rep c M ρ H .non .non := ⟨0, rfl⟩
theorem Rep.bl {b} : Rep c M ρ H (.bl b) (.bl b) := ⟨0, rfl⟩
theorem Rep.int {b} : Rep c M ρ H (.int b) (.int b) := ⟨0, rfl⟩
theorem Rep.str {b} : Rep c M ρ H (.str b) (.str b) := ⟨0, rfl⟩
theorem Rep.ty {k} : Rep c M ρ H (.ty k) (.ty k) := ⟨0, rfl⟩
theorem Rep.of_ty {b} (h : Rep c M ρ H (.ty b) v) : v = .ty b := by obtain ⟨n, h⟩ := h; cases n <;> exact h
theorem Rep.cls {k} : Rep c M ρ H (.cls k) (.ref (c.C k)) := ⟨0, rfl⟩
theorem Rep.tup {xs a vs} (z : ZT c M ρ H a vs) (r : All2 (Rep c M ρ H) xs vs) : Rep c M ρ H (.tup xs) (.ref a) := let ⟨n, q⟩ := reps_n r; ⟨n + 1, a, vs, rfl, z, q⟩
theorem Rep.lst {xs a vs} (z : ZL c M ρ H a vs) (r : All2 (Rep c M ρ H) xs vs) : Rep c M ρ H (.lst xs) (.ref a) := let ⟨n, q⟩ := reps_n r; ⟨n + 1, a, vs, rfl, z, q⟩
theorem Rep.ins {k fs a dx gs} (z : Zz c M ρ a) (e : H a = some (.ins (c.C k) dx gs)) (r : Flds c M ρ H k fs gs) : Rep c M ρ H (.ins k fs) (.ref a) := let ⟨n, q⟩ := flds_n r.r; ⟨n + 1, a, dx, gs, rfl, z, e, r.nm, q⟩
theorem Rep.of_non (h : Rep c M ρ H .non v) : v = .non := by obtain ⟨n, h⟩ := h; cases n <;> exact h
theorem Rep.of_bl {b} (h : Rep c M ρ H (.bl b) v) : v = .bl b := by obtain ⟨n, h⟩ := h; cases n <;> exact h
theorem Rep.of_int {b} (h : Rep c M ρ H (.int b) v) : v = .int b := by obtain ⟨n, h⟩ := h; cases n <;> exact h
theorem Rep.of_str {b} (h : Rep c M ρ H (.str b) v) : v = .str b := by obtain ⟨n, h⟩ := h; cases n <;> exact h
theorem Rep.of_cls {b} (h : Rep c M ρ H (.cls b) v) : v = .ref (c.C b) := by obtain ⟨n, h⟩ := h; cases n <;> exact h
theorem Rep.of_tup {xs} (h : Rep c M ρ H (.tup xs) v) : ∃ a vs, v = .ref a ∧ ZT c M ρ H a vs ∧ All2 (Rep c M ρ H) xs vs := by
  obtain ⟨n, h⟩ := h
  cases n with
  | zero => exact h.elim
  | succ n => obtain ⟨a, vs, e, z, r⟩ := h; exact ⟨a, vs, e, z, r.imp fun _ _ q => ⟨n, q⟩⟩
theorem Rep.of_lst {xs} (h : Rep c M ρ H (.lst xs) v) : ∃ a vs, v = .ref a ∧ ZL c M ρ H a vs ∧ All2 (Rep c M ρ H) xs vs := by
  obtain ⟨n, h⟩ := h
  cases n with
  | zero => exact h.elim
  | succ n => obtain ⟨a, vs, e, z, r⟩ := h; exact ⟨a, vs, e, z, r.imp fun _ _ q => ⟨n, q⟩⟩
theorem Rep.of_ins {k fs} (h : Rep c M ρ H (.ins k fs) v) : ∃ a dx gs, v = .ref a ∧ Zz c M ρ a ∧ H a = some (.ins (c.C k) dx gs) ∧ Flds c M ρ H k fs gs := by
  obtain ⟨n, h⟩ := h
  cases n with
  | zero => exact h.elim
  | succ n => obtain ⟨a, dx, gs, e, z, e2, nm, r⟩ := h; exact ⟨a, dx, gs, e, z, e2, nm, r.imp fun _ _ q => ⟨n, q⟩⟩
end

/-- what an evaluation leaves: all that was tracked stands, but the store's objects and the frame's own -/
structure Gr (M : Addr → Prop) (ρ : List Addr) (H : Hp) (M' : Addr → Prop) (ρ' : List Addr) (H' : Hp) : Prop where
  keep : ∀ a o, H a = some o → a ∉ ρ → ¬ M a → H' a = some o
  there : ∀ a o, H a = some o → ∃ o', H' a = some o'
  grow : ∃ ext, ρ' = ρ ++ ext ∧ ∀ a ∈ ext, H a = none
  mine : ∀ a, M' a → M a ∨ H a = none
section
variable {M M1 M' : Addr → Prop} {ρ ρ1 ρ' : List Addr} {H H1 H' : Hp}
theorem Gr.refl : Gr M ρ H M ρ H := ⟨fun _ _ e _ _ => e, fun _ o e => ⟨o, e⟩, ⟨[], by simp, by simp⟩, fun _ h => .inl h⟩
theorem Gr.free (g : Gr M ρ H M' ρ' H') {a : Addr} (h : H' a = none) : H a = none := by
  cases e : H a with
  | none => rfl
  | some o => obtain ⟨o', q⟩ := g.there a o e; rw [h] at q; cases q
theorem Gr.trans (g : Gr M ρ H M1 ρ1 H1) (k : Gr M1 ρ1 H1 M' ρ' H') : Gr M ρ H M' ρ' H' := by
  obtain ⟨e1, h1, f1⟩ := g.grow
  obtain ⟨e2, h2, f2⟩ := k.grow
  refine ⟨fun a o e n m => ?_, fun a o e => ?_, ⟨e1 ++ e2, by rw [h2, h1, List.append_assoc], fun a ha => ?_⟩, fun a h => ?_⟩
  · refine k.keep a o (g.keep a o e n m) ?_ fun q => ?_
    · rw [h1]; intro z
      rcases List.mem_append.mp z with z | z
      · exact n z
      · rw [f1 a z] at e; cases e
    · rcases g.mine a q with q | q
      · exact m q
      · rw [q] at e; cases e
  · obtain ⟨o', q⟩ := g.there a o e
    exact k.there a o' q
  · rcases List.mem_append.mp ha with z | z
    · exact f1 a z
    · exact g.free (f2 a z)
  · rcases k.mine a h with q | q
    · exact g.mine a q
    · exact .inr (g.free q)
theorem Gr.same (s : Same H H') : Gr M ρ H M ρ H' := ⟨fun a o e _ _ => s a o e, fun a o e => ⟨o, s a o e⟩, ⟨[], by simp, by simp⟩, fun _ h => .inl h⟩
variable {c : RC} {a : Addr} {xs : List V} {u : HO}
theorem Zz.grow (h : Zz c M ρ a) (g : Gr M ρ H M' ρ' H') (e : H a ≠ none) : Zz c M' ρ' a := by
  obtain ⟨e1, h1, f1⟩ := g.grow
  refine ⟨h.1, fun q => ?_, ?_⟩
  · rcases g.mine a q with q | q
    · exact h.2.1 q
    · exact e q
  · rw [h1]; intro z
    rcases List.mem_append.mp z with z | z
    · exact h.2.2 z
    · exact e (f1 a z)
theorem rd_keep (r : Rd H a u) (g : Gr M ρ H M' ρ' H') (h : Zz c M ρ a) : Rd H' a u := by
  rcases r with r | ⟨o, r⟩
  · exact .inl (g.keep a _ r h.2.2 h.2.1)
  · exact .inr ⟨o, g.keep a _ r h.2.2 h.2.1⟩
theorem rd_ne {H : Hp} {a : Addr} {u : HO} (r : Rd H a u) : H a ≠ none := by
  rcases r with r | ⟨o, r⟩ <;> rw [r] <;> simp
theorem ZL.grow (h : ZL c M ρ H a xs) (g : Gr M ρ H M' ρ' H') : ZL c M' ρ' H' a xs := h.elim (fun z => .inl ⟨z.1.grow g (rd_ne z.2), rd_keep z.2 g z.1⟩) .inr
theorem ZT.grow (h : ZT c M ρ H a xs) (g : Gr M ρ H M' ρ' H') : ZT c M' ρ' H' a xs := h.elim (fun z => .inl ⟨z.1.grow g (rd_ne z.2), rd_keep z.2 g z.1⟩) .inr
theorem RepN.grow (g : Gr M ρ H M' ρ' H') : ∀ {n : Nat} {d : D} {v : V}, RepN c M ρ H n d v → RepN c M' ρ' H' n d v := by
  intro n
  induction n with
  | zero => intro d v h; cases d <;> exact h
  | succ n ih =>
    intro d v h
    cases d with
    | tup xs => obtain ⟨a, vs, e, z, r⟩ := h; exact ⟨a, vs, e, z.grow g, r.imp fun _ _ q => ih q⟩
    | lst xs => obtain ⟨a, vs, e, z, r⟩ := h; exact ⟨a, vs, e, z.grow g, r.imp fun _ _ q => ih q⟩
    | ins k fs => obtain ⟨a, dx, gs, e, z, e2, nm, r⟩ := h; exact ⟨a, dx, gs, e, z.grow g (by rw [e2]; simp), g.keep a _ e2 z.2.2 z.2.1, nm, r.imp fun _ _ q => ih q⟩
    | _ => exact h
theorem Rep.grow {d : D} {v : V} (h : Rep c M ρ H d v) (g : Gr M ρ H M' ρ' H') : Rep c M' ρ' H' d v := let ⟨n, q⟩ := h; ⟨n, q.grow g⟩
theorem reps_grow {ds : List D} {vs : List V} (h : All2 (Rep c M ρ H) ds vs) (g : Gr M ρ H M' ρ' H') : All2 (Rep c M' ρ' H') ds vs := h.imp fun _ _ r => r.grow g
theorem flds_grow {k : String} {fs : List D} {gs : List (Str × V)} (h : Flds c M ρ H k fs gs) (g : Gr M ρ H M' ρ' H') : Flds c M' ρ' H' k fs gs := ⟨h.nm, h.r.imp fun _ _ r => r.grow g⟩
end

/-! ### values of an evaluation, the store, the frame -/
def RepE (c : RC) (M : Addr → Prop) (ρ : List Addr) (H : Hp) : EV → V → Prop
  | .d x, v => Rep c M ρ H x v
  | .o i, v => ∃ a, ρ[i]? = some a ∧ v = .ref a
section
variable {c : RC} {M M1 M' : Addr → Prop} {ρ ρ1 ρ' : List Addr} {H H1 H' : Hp}
theorem RepE.grow {e : EV} {v : V} (h : RepE c M ρ H e v) (g : Gr M ρ H M' ρ' H') : RepE c M' ρ' H' e v := by
  cases e with
  | d x => exact Rep.grow h g
  | o i =>
    obtain ⟨a, h1, h2⟩ := h
    obtain ⟨ex, e1, _⟩ := g.grow
    exact ⟨a, by rw [e1, List.getElem?_append_left (List.getElem?_eq_some_iff.mp h1).1]; exact h1, h2⟩
theorem repEs_grow {es : List EV} {vs : List V} (h : All2 (RepE c M ρ H) es vs) (g : Gr M ρ H M' ρ' H') : All2 (RepE c M' ρ' H') es vs := h.imp fun _ _ r => r.grow g
end
/-- the store stands at ρ -/
structure SR (c : RC) (M : Addr → Prop) (ρ : List Addr) (G : GS) (H : Hp) : Prop where
  len : ρ.length = G.length
  nd : ρ.Nodup
  sep : ∀ a ∈ ρ, ¬ c.B a ∧ ¬ M a
  at_ : ∀ (i : Nat) (xs : List EV), G[i]? = some (GO.lst xs) → ∃ a vs, ρ[i]? = some a ∧ H a = some (.lst vs) ∧ All2 (RepE c M ρ H) xs vs
  /-- the classes are written, what is the callers' or the frame's own is tracked -/
  mt : ∀ a, M a → H a ≠ none
  bt : ∀ a, c.B a → H a ≠ none
/-- the error that is handled -/
def XnR (c : RC) (M : Addr → Prop) (ρ : List Addr) (H : Hp) (k : String) (fs : List D) : Prop := (¬ M c.x ∧ c.x ∉ ρ) ∧ ∃ gs, H c.x = some (.xd gs) ∧ Flds c M ρ H k fs gs
theorem XnR.grow {c : RC} {M M' : Addr → Prop} {ρ ρ' : List Addr} {H H' : Hp} {k : String} {fs : List D} (h : XnR c M ρ H k fs) (g : Gr M ρ H M' ρ' H') : XnR c M' ρ' H' k fs := by
  obtain ⟨⟨hm, hr⟩, gs, e, f⟩ := h
  obtain ⟨e1, h1, f1⟩ := g.grow
  refine ⟨⟨fun q => ?_, ?_⟩, gs, g.keep _ _ e hr hm, flds_grow f g⟩
  · rcases g.mine _ q with q | q
    · exact hm q
    · rw [e] at q; cases q
  · rw [h1]; intro z
    rcases List.mem_append.mp z with z | z
    · exact hr z
    · rw [f1 _ z] at e; cases e
/-- a slot -/
def SlR (c : RC) (M : Addr → Prop) (ρ : List Addr) (H : Hp) (oa : Nat → Addr) (σ : L2.St) (i : Nat) : Sl → Prop
  | .no => True
  | .ev e => ∃ v, σ[i]? = some (some v) ∧ RepE c M ρ H e v
  | .own (.lst xs) => σ[i]? = some (some (.ref (oa i))) ∧ (M (oa i) ∧ ¬ c.B (oa i)) ∧ ∃ vs, H (oa i) = some (.lst vs) ∧ All2 (Rep c M ρ H) xs vs
  | .own (.ins k fs) => σ[i]? = some (some (.ref c.s)) ∧ oa i = c.s ∧ M c.s ∧ ∃ dx gs, H c.s = some (.ins (c.C k) dx gs) ∧ Flds c M ρ H k fs gs
  | .exn k fs => σ[i]? = some (some (.ref c.s)) ∧ XnR c M ρ H k fs
structure Rl (c : RC) (M : Addr → Prop) (ρ : List Addr) (G : GS) (env : En) (σ : L2.St) (H : Hp) : Prop where
  s : SR c M ρ G H
  len : env.length ≤ σ.length
  e : ∃ oa : Nat → Addr, (∀ (i : Nat) (sl : Sl), env[i]? = some sl → SlR c M ρ H oa σ i sl) ∧ ∀ (i j : Nat) (o u : OW), env[i]? = some (.own o) → env[j]? = some (.own u) → oa i = oa j → i = j
section
variable {c : RC} {M M1 M' : Addr → Prop} {ρ ρ1 ρ' : List Addr} {H H1 H' : Hp} {G G' : GS} {env : En} {σ : L2.St}
/-- behind an evaluation that touches nothing of the frame's own -/
structure Ge (M : Addr → Prop) (ρ : List Addr) (H : Hp) (ρ' : List Addr) (H' : Hp) : Prop where
  keep : ∀ a o, H a = some o → a ∉ ρ → H' a = some o
  there : ∀ a o, H a = some o → ∃ o', H' a = some o'
  grow : ∃ ext, ρ' = ρ ++ ext ∧ ∀ a ∈ ext, H a = none
theorem Ge.gr (g : Ge M ρ H ρ' H') : Gr M ρ H M ρ' H' := ⟨fun a o e n _ => g.keep a o e n, g.there, g.grow, fun _ h => .inl h⟩
theorem Ge.refl : Ge M ρ H ρ H := ⟨fun _ _ e _ => e, fun _ o e => ⟨o, e⟩, ⟨[], by simp, by simp⟩⟩
theorem Ge.same (s : Same H H') : Ge M ρ H ρ H' := ⟨fun a o e _ => s a o e, fun a o e => ⟨o, s a o e⟩, ⟨[], by simp, by simp⟩⟩
theorem Ge.trans (g : Ge M ρ H ρ1 H1) (k : Ge M ρ1 H1 ρ' H') : Ge M ρ H ρ' H' := by
  have z := g.gr.trans k.gr
  obtain ⟨e1, h1, f1⟩ := g.grow
  refine ⟨fun a o e n => k.keep a o (g.keep a o e n) ?_, z.there, z.grow⟩
  rw [h1]; intro q
  rcases List.mem_append.mp q with q | q
  · exact n q
  · rw [f1 a q] at e; cases e
theorem Rl.ge (r : Rl c M ρ G env σ H) (g : Ge M ρ H ρ' H') (s : SR c M ρ' G' H') : Rl c M ρ' G' env σ H' := by
  obtain ⟨oa, h1, h2⟩ := r.e
  refine ⟨s, r.len, oa, fun i sl e => ?_, h2⟩
  have h := h1 i sl e
  have nr : ∀ a, M a → a ∉ ρ := fun a hm hr => (r.s.sep a hr).2 hm
  match sl, h with
  | .no, _ => trivial
  | .ev e, ⟨v, a, b⟩ => exact ⟨v, a, b.grow g.gr⟩
  | .own (.lst xs), ⟨a, b, vs, d, f⟩ => exact ⟨a, b, vs, g.keep _ _ d (nr _ b.1), reps_grow f g.gr⟩
  | .own (.ins k fs), ⟨a, o, b, dx, gs, d, f⟩ => exact ⟨a, o, b, dx, gs, g.keep _ _ d (nr _ b), flds_grow f g.gr⟩
  | .exn k fs, ⟨a, b⟩ => exact ⟨a, b.grow g.gr⟩
/-- the store behind what leaves it alone -/
theorem same_ne (h : Same H H') {a : Addr} (m : H a ≠ none) : H' a ≠ none := fun z => by
  cases e : H a with
  | none => exact m e
  | some o => rw [h a o e] at z; cases z
theorem SR.same (s : SR c M ρ G H) (h : Same H H') : SR c M ρ G H' :=
  ⟨s.len, s.nd, s.sep, fun i xs e => let ⟨a, vs, p, q, r⟩ := s.at_ i xs e; ⟨a, vs, p, h _ _ q, repEs_grow r (Gr.same h)⟩, fun a m => same_ne h (s.mt a m), fun a m => same_ne h (s.bt a m)⟩
theorem Rl.same (r : Rl c M ρ G env σ H) (h : Same H H') : Rl c M ρ G env σ H' := r.ge (Ge.same h) (r.s.same h)
/-- a new address may be read for ever -/
theorem SR.fresh (s : SR c M ρ G H) {a : Addr} (h : H a = none) : Zz c M ρ a := by
  refine ⟨fun z => s.bt a z h, fun z => s.mt a z h, fun z => ?_⟩
  obtain ⟨i, e⟩ := List.getElem?_of_mem z
  have hi : i < G.length := by rw [← s.len]; exact (List.getElem?_eq_some_iff.mp e).1
  have hg : G[i]? = some G[i] := List.getElem?_eq_getElem hi
  cases q : G[i] with
  | lst xs =>
    rw [q] at hg
    obtain ⟨b, vs, p, hb, _⟩ := s.at_ i xs hg
    rw [e] at p; cases p
    rw [h] at hb; cases hb
theorem same_upd {H : Hp} {p : Addr} {o : HO} (h : H p = none) : Same H (upd H p o) := fun b u e => by rw [upd_ne (ne_of_none e h)]; exact e
end
end DL

set_option Elab.async false
set_option linter.all false
set_option maxRecDepth 100000
set_option maxHeartbeats 4000000
namespace DL
open PySem L2 PyProof.Rows

/-- what is wanted of an outcome, at ρ and H -/
def TQ {α β : Type} (R : (Addr → Prop) → List Addr → Hp → α → β → Prop) (c : RC) (W : WX) (M : Addr → Prop) (ρ : List Addr) (σ : L2.St) (H : Hp) (o : Out α) (Q : β → Hp → Prop) : Prop := match o with
  | .ok e G' => ∀ v ρ' H', Ge M ρ H ρ' H' → SR c M ρ' G' H' → R M ρ' H' e v → Q v H'
  | .er cl fs G' => ∀ dd gs ρ' H', Ge M ρ H ρ' H' → SR c M ρ' G' H' → H' dd = some (.xd gs) → Flds c M ρ' H' cl fs gs → W (.ref (c.C cl)) (some dd) σ H'
  | .st => False
section
variable {α α' β β' : Type} {R : (Addr → Prop) → List Addr → Hp → α → β → Prop} {R' : (Addr → Prop) → List Addr → Hp → α' → β' → Prop} {c : RC} {W : WX} {M : Addr → Prop} {ρ ρ' : List Addr} {σ : L2.St} {H H' : Hp} {o : Out α} {Q Q2 : β → Hp → Prop}
theorem TQ.grow (h : TQ R c W M ρ σ H o Q) (g : Ge M ρ H ρ' H') : TQ R c W M ρ' σ H' o Q := by
  cases o with
  | ok e G => exact fun v ρ2 H2 g2 s r => h v ρ2 H2 (g.trans g2) s r
  | er cl fs G => exact fun dd gs ρ2 H2 g2 s r z => h dd gs ρ2 H2 (g.trans g2) s r z
  | st => exact h
theorem TQ.imp (h : TQ R c W M ρ σ H o Q) (k : ∀ v H', Q v H' → Q2 v H') : TQ R c W M ρ σ H o Q2 := by
  cases o with
  | ok e G => exact fun v ρ2 H2 g2 s r => k _ _ (h v ρ2 H2 g2 s r)
  | er cl fs G => exact h
  | st => exact h
theorem TQ.bind {f : α → GS → Out α'} {Q' : β' → Hp → Prop} (h : TQ R' c W M ρ σ H (o.bind f) Q') :
    TQ R c W M ρ σ H o (fun v H1 => ∃ ρ1 G1 e, Ge M ρ H ρ1 H1 ∧ SR c M ρ1 G1 H1 ∧ R M ρ1 H1 e v ∧ TQ R' c W M ρ1 σ H1 (f e G1) Q') := by
  cases o with
  | ok e G => exact fun v ρ1 H1 g s r => ⟨ρ1, G, e, g, s, r, TQ.grow h g⟩
  | er cl fs G => exact h
  | st => exact h
theorem TQ.ok {e : α} {G : GS} {v : β} (h : TQ R c W M ρ σ H (.ok e G) Q) (s : SR c M ρ G H) (r : R M ρ H e v) : Q v H := h v ρ H Ge.refl s r
theorem TQ.okS {e : α} {G : GS} {v : β} (h : TQ R c W M ρ σ H (.ok e G) Q) (s : SR c M ρ G H) (g : Same H H') (r : R M ρ H' e v) : Q v H' := h v ρ H' (Ge.same g) (s.same g) r
end
abbrev RE (c : RC) : (Addr → Prop) → List Addr → Hp → EV → V → Prop := RepE c
abbrev RA (c : RC) : (Addr → Prop) → List Addr → Hp → List EV → List V → Prop := fun M ρ H es vs => All2 (RepE c M ρ H) es vs
abbrev RB : (Addr → Prop) → List Addr → Hp → Bool → Bool → Prop := fun _ _ _ a b => a = b
abbrev BM := En → GS → Out Bool
abbrev AM := En → GS → Out (List EV)

def tD (c : RC) (W : WX) (m : EM) : TE := fun σ H Q => ∃ M ρ G env, Rl c M ρ G env σ H ∧ TQ (RE c) c W M ρ σ H (m env G) Q
def tDA (c : RC) (W : WX) (m : AM) : TA := fun σ H Q => ∃ M ρ G env, Rl c M ρ G env σ H ∧ TQ (RA c) c W M ρ σ H (m env G) Q
def tDB (c : RC) (W : WX) (m : BM) : TT := fun σ H Q => ∃ M ρ G env, Rl c M ρ G env σ H ∧ TQ RB c W M ρ σ H (m env G) Q
def DE (X : Cx) (c : RC) (W : WX) (e : Expr) (m : EM) : Prop := PE X e (tD c W m)
def DA (X : Cx) (c : RC) (W : WX) (es : List Expr) (m : AM) : Prop := PA X es (tDA c W m)
def DB (X : Cx) (c : RC) (W : WX) (e : Expr) (m : BM) : Prop := PT X e (tDB c W m)
def DW (X : Cx) (c : RC) (W : WX) (e : Expr) (m : BM) : Prop := PW X e (tDB c W m)
theorem pe_imp {X : Cx} {e : Expr} {t t' : TE} (h : PE X e t) (k : ∀ σ H Q, t' σ H Q → t σ H Q) : PE X e t' := ⟨fun pins s σ H Q I q => h.run pins s σ H Q I (k σ H Q q)⟩
theorem pa_imp {X : Cx} {e : List Expr} {t t' : TA} (h : PA X e t) (k : ∀ σ H Q, t' σ H Q → t σ H Q) : PA X e t' := ⟨fun pos pins s σ H Q I q => h.run pos pins s σ H Q I (k σ H Q q)⟩
theorem pt_imp {X : Cx} {e : Expr} {t t' : TT} (h : PT X e t) (k : ∀ σ H Q, t' σ H Q → t σ H Q) : PT X e t' := ⟨fun pins s σ H Q I q => h.run pins s σ H Q I (k σ H Q q)⟩
theorem pw_imp {X : Cx} {e : Expr} {t t' : TT} (h : PW X e t) (k : ∀ σ H Q, t' σ H Q → t σ H Q) : PW X e t' := ⟨fun wh pins s σ H Q I q => h.run wh pins s σ H Q I (k σ H Q q)⟩

/-! ### the meanings -/
def eVar (i : Nat) : EM := fun env G => match env[i]? with
  | some (.ev e) => .ok e G
  | _ => .st
def eC (x : D) : EM := fun _ G => .ok (.d x) G
/-- two values and a rule that raises nothing -/
abbrev F2 := EV → EV → GS → Option (EV × GS)
abbrev F1 := EV → GS → Option (EV × GS)
abbrev FN := List EV → GS → Option (EV × GS)
def lift {α : Type} : Option (α × GS) → Out α
  | some (e, G) => .ok e G
  | none => .st
def eOp (f : F2) (a b : EM) : EM := fun env G => (a env G).bind fun x G1 => (b env G1).bind fun y G2 => lift (f x y G2)
def eUn (f : F1) (a : EM) : EM := fun env G => (a env G).bind fun x G1 => lift (f x G1)
def aNil : AM := fun _ G => .ok [] G
def aCons (a : EM) (r : AM) : AM := fun env G => (a env G).bind fun x G1 => (r env G1).bind fun xs G2 => .ok (x :: xs) G2
def eFN (f : FN) (r : AM) : EM := fun env G => (r env G).bind fun xs G1 => lift (f xs G1)
/-- on plain data alone -/
def pure2 (g : D → D → Option D) : F2 := fun x y G => match x, y with
  | .d a, .d b => (g a b).map fun z => (.d z, G)
  | _, _ => none
def pure1 (g : D → Option D) : F1 := fun x G => match x with
  | .d a => (g a).map fun z => (.d z, G)
  | _ => none
def datas : List EV → Option (List D)
  | [] => some []
  | .d x :: r => (datas r).map (x :: ·)
  | _ :: _ => none
def pureN (g : List D → Option D) : FN := fun xs G => (datas xs).bind fun ds => (g ds).map fun z => (.d z, G)

/-! ### rules by values -/
/-- what a rule that raises nothing asks -/
def VQ (c : RC) (M : Addr → Prop) (ρ : List Addr) (H : Hp) (o : Option (EV × GS)) (Q : VK) : Prop := match o with
  | some (e, G') => ∀ v ρ' H', Ge M ρ H ρ' H' → SR c M ρ' G' H' → RepE c M ρ' H' e v → Q v H'
  | none => False
def V2 (c : RC) (f : F2) : R2 := fun x y H Q => ∃ M ρ G a b, SR c M ρ G H ∧ RepE c M ρ H a x ∧ RepE c M ρ H b y ∧ VQ c M ρ H (f a b G) Q
def V1 (c : RC) (f : F1) : V → Hp → VK → Prop := fun x H Q => ∃ M ρ G a, SR c M ρ G H ∧ RepE c M ρ H a x ∧ VQ c M ρ H (f a G) Q
def VN (c : RC) (f : FN) : List V → Hp → VK → Prop := fun xs H Q => ∃ M ρ G es, SR c M ρ G H ∧ All2 (RepE c M ρ H) es xs ∧ VQ c M ρ H (f es G) Q
section
variable {X : Cx} {c : RC} {W : WX} {e a b : Expr} {es : List Expr} {ma mb : EM} {mr : AM} {pos : Pos} {M : Addr → Prop} {ρ : List Addr} {σ : L2.St} {H : Hp}
theorem VQ.of {o : Option (EV × GS)} {Q : VK} (h : TQ (RE c) c W M ρ σ H (lift o) Q) : VQ c M ρ H o Q := by
  cases o with
  | none => exact h
  | some p => exact h
theorem de_var {i : Nat} {x : Str} (h : PE X (.Name x pos) (tVar i)) : DE X c W (.Name x pos) (eVar i) := by
  refine pe_imp h fun σ H Q q => ?_
  obtain ⟨M, ρ, G, env, R, q⟩ := q
  unfold eVar at q
  obtain ⟨oa, h1, _⟩ := R.e
  split at q
  · rename_i e he
    obtain ⟨v, hv, r⟩ := h1 i _ he
    exact ⟨v, hv, q.ok R.s r⟩
  · exact q.elim
theorem de_c {x : D} {v : V} (h : PE X e (tC v)) (r : ∀ M ρ H, Rep c M ρ H x v) : DE X c W e (eC x) := by
  refine pe_imp h fun σ H Q q => ?_
  obtain ⟨M, ρ, G, env, R, q⟩ := q
  exact q.ok R.s (r M ρ H)
theorem de_int {i j} : DE X c W (.Constant (.int i) j pos) (eC (.int i)) := de_c pe_int fun _ _ _ => .int
theorem de_bl {i j} : DE X c W (.Constant (.bool i) j pos) (eC (.bl i)) := de_c pe_bl fun _ _ _ => .bl
theorem de_non {j} : DE X c W (.Constant .none j pos) (eC .non) := de_c pe_non fun _ _ _ => .non
theorem de_str {i j} : DE X c W (.Constant (.str i) j pos) (eC (.str i)) := de_c pe_str fun _ _ _ => .str

theorem de_op {op : Operator} {f : F2} (ho : OpR X (binaryOp op) (V2 c f)) (ha : DE X c W a ma) (hb : DE X c W b mb) : DE X c W (.BinOp a op b pos) (eOp f ma mb) := by
  refine pe_imp (pe_op ho ha hb) fun σ H Q q => ?_
  obtain ⟨M, ρ, G, env, R, q⟩ := q
  refine ⟨M, ρ, G, env, R, (TQ.bind (R := RE c) q).imp fun v H1 ⟨ρ1, G1, e1, g1, s1, r1, q1⟩ => ?_⟩
  refine ⟨M, ρ1, G1, env, R.ge g1 s1, (TQ.bind (R := RE c) q1).imp fun u H2 ⟨ρ2, G2, e2, g2, s2, r2, q2⟩ => ?_⟩
  exact ⟨M, ρ2, G2, e1, e2, s2, r1.grow g2.gr, r2, VQ.of q2⟩
theorem de_cmp {op : CmpOp} {f : F2} (ho : OpR X (compareOp op) (V2 c f)) (ha : DE X c W a ma) (hb : DE X c W b mb) (hm : behindInMarks op b = false) : DE X c W (.Compare a [op] [b] pos) (eOp f ma mb) := by
  refine pe_imp (pe_cmpR ho ha hb hm) fun σ H Q q => ?_
  obtain ⟨M, ρ, G, env, R, q⟩ := q
  refine ⟨M, ρ, G, env, R, (TQ.bind (R := RE c) q).imp fun v H1 ⟨ρ1, G1, e1, g1, s1, r1, q1⟩ => ?_⟩
  refine ⟨M, ρ1, G1, env, R.ge g1 s1, (TQ.bind (R := RE c) q1).imp fun u H2 ⟨ρ2, G2, e2, g2, s2, r2, q2⟩ => ?_⟩
  exact ⟨M, ρ2, G2, e1, e2, s2, r1.grow g2.gr, r2, VQ.of q2⟩
theorem de_un {op : UnaryOp} {f : F1} (ho : UnR X (unaryOp op) (V1 c f)) (ha : DE X c W a ma) : DE X c W (.UnaryOp op a pos) (eUn f ma) := by
  refine pe_imp (pe_un ho ha) fun σ H Q q => ?_
  obtain ⟨M, ρ, G, env, R, q⟩ := q
  refine ⟨M, ρ, G, env, R, (TQ.bind (R := RE c) q).imp fun v H1 ⟨ρ1, G1, e1, g1, s1, r1, q1⟩ => ?_⟩
  exact ⟨M, ρ1, G1, e1, s1, r1, VQ.of q1⟩
theorem da_nil : DA X c W [] aNil := pa_imp pa_nil fun σ H Q ⟨M, ρ, G, env, R, q⟩ => q.ok R.s .nil
theorem da_cons (ha : DE X c W e ma) (hr : DA X c W es mr) (hs : starEach (e :: es) X.env = (false, eval e X.env) :: starEach es X.env := by rfl) : DA X c W (e :: es) (aCons ma mr) := by
  refine pa_imp (pa_cons ha hr hs) fun σ H Q q => ?_
  obtain ⟨M, ρ, G, env, R, q⟩ := q
  refine ⟨M, ρ, G, env, R, (TQ.bind (R := RE c) q).imp fun v H1 ⟨ρ1, G1, e1, g1, s1, r1, q1⟩ => ?_⟩
  refine ⟨M, ρ1, G1, env, R.ge g1 s1, (TQ.bind (R := RA c) q1).imp fun u H2 ⟨ρ2, G2, e2, g2, s2, r2, q2⟩ => ?_⟩
  exact q2.ok s2 (.cons (r1.grow g2.gr) r2)
/-- a call of a built-in by its name -/
theorem de_callB {x : Str} {p : Pos} {id : String} {f : FN} (hc : CallR X (.builtin id) (VN c f)) (hg : Gl X x) (hm : X.mg x = none) (hv : bootBuiltins x = some (.builtin id)) (ha : DA X c W (e :: es) mr) (hn : x ≠ "__name__" := by decide) (hdb : (x == ("__debug__" : Str)) = false := by decide)
    (he : starEach (e :: es) X.env = (false, eval e X.env) :: starEach es X.env := by rfl) (hpl : (backTo pos (starEach es X.env)).any (·.1) = false := by rfl) : DE X c W (.Call (.Name x p) (e :: es) [] pos) (eFN f mr) := by
  refine pe_imp (pe_callB hc hg hm hv ha hn hdb he hpl) fun σ H Q q => ?_
  obtain ⟨M, ρ, G, env, R, q⟩ := q
  refine ⟨M, ρ, G, env, R, (TQ.bind (R := RA c) q).imp fun v H1 ⟨ρ1, G1, e1, g1, s1, r1, q1⟩ => ?_⟩
  exact ⟨M, ρ1, G1, e1, s1, r1, VQ.of q1⟩
theorem de_callT {x : Str} {p : Pos} {T : String} {f : FN} (hc : CallR X (.type T) (VN c f)) (hg : Gl X x) (hm : X.mg x = none) (hv : bootBuiltins x = some (.type T)) (ha : DA X c W (e :: es) mr) (hn : x ≠ "__name__" := by decide) (hdb : (x == ("__debug__" : Str)) = false := by decide)
    (he : starEach (e :: es) X.env = (false, eval e X.env) :: starEach es X.env := by rfl) (hpl : (backTo pos (starEach es X.env)).any (·.1) = false := by rfl) : DE X c W (.Call (.Name x p) (e :: es) [] pos) (eFN f mr) := by
  refine pe_imp (pe_callTy hc hg hm hv ha hn hdb he hpl) fun σ H Q q => ?_
  obtain ⟨M, ρ, G, env, R, q⟩ := q
  refine ⟨M, ρ, G, env, R, (TQ.bind (R := RA c) q).imp fun v H1 ⟨ρ1, G1, e1, g1, s1, r1, q1⟩ => ?_⟩
  exact ⟨M, ρ1, G1, e1, s1, r1, VQ.of q1⟩
end
end DL

set_option Elab.async false
set_option linter.all false
set_option maxRecDepth 100000
set_option maxHeartbeats 4000000
namespace DL
open PySem L2 PyProof.Rows

/-! ### tests -/
/-- truth of plain data -/
def tru : D → Option Bool
  | .non => some false
  | .bl b => some b
  | .int i => some (i != 0)
  | .str x => if x.length ≤ 1000000 then some (x.length != 0) else none
  | .lst xs => some (!xs.isEmpty)
  | .tup xs => some (!xs.isEmpty)
  | _ => none
def bOf (f : EV → GS → Option (Bool × GS)) (m : EM) : BM := fun env G => (m env G).bind fun e G1 => lift (f e G1)
def truE : EV → GS → Option (Bool × GS) := fun e G => match e with
  | .d x => (tru x).map (·, G)
  | _ => none
def isB : EV → GS → Option (Bool × GS) := fun e G => match e with
  | .d (.bl b) => some (b, G)
  | _ => none
def bAnd (a b : BM) : BM := fun env G => (a env G).bind fun k G1 => if k = true then b env G1 else .ok false G1
def bOr (a b : BM) : BM := fun env G => (a env G).bind fun k G1 => if k = true then .ok true G1 else b env G1
def bNot (a : BM) : BM := fun env G => (a env G).bind fun k G1 => .ok (!k) G1
def eAnd (a b : EM) : EM := fun env G => (a env G).bind fun x G1 => match x with
  | .d (.bl true) => b env G1
  | .d (.bl false) => .ok (.d (.bl false)) G1
  | _ => .st
def eOr (a b : EM) : EM := fun env G => (a env G).bind fun x G1 => match x with
  | .d (.bl true) => .ok (.d (.bl true)) G1
  | .d (.bl false) => b env G1
  | _ => .st
def eNot (a : EM) : EM := fun env G => (a env G).bind fun x G1 => match x with
  | .d (.bl k) => .ok (.d (.bl (!k))) G1
  | _ => .st
def eIf (t : BM) (a b : EM) : EM := fun env G => (t env G).bind fun k G1 => if k = true then a env G1 else b env G1
section
variable {X : Cx} {c : RC} {W : WX} {e a b t : Expr} {rest : List Expr} {ma mb : EM} {ta tb : BM} {pos : Pos} {M : Addr → Prop} {ρ : List Addr} {σ : L2.St} {H : Hp}
theorem all2_isEmpty {α β : Type} {R : α → β → Prop} {xs : List α} {ys : List β} (h : All2 R xs ys) : xs.isEmpty = ys.isEmpty := by cases h <;> rfl
theorem tru_of {K : PySem.W.Frag} {x : D} {v : V} {k : Bool} (r : Rep c M ρ H x v) (h : tru x = some k) (hK : c.K = K) : TruV K v H k := by
  cases x with
  | non => cases r.of_non; injection h with h; exact h.symm
  | bl b => cases r.of_bl; injection h with h; exact h.symm
  | int i => cases r.of_int; injection h with h; exact h.symm
  | str z =>
    cases r.of_str
    dsimp only [tru] at h
    split at h
    · rename_i hz
      injection h with h
      refine ⟨Nat.le_trans hz (by decide), ?_⟩
      rw [← h]
      generalize z.length = n
      rcases n with _ | n
      · rfl
      · rfl
    · cases h
  | tup xs => obtain ⟨a, vs, rfl, z, q⟩ := r.of_tup; injection h with h; subst hK; exact .inr (.inl ⟨vs, z.sq, by rw [← h, all2_isEmpty q]⟩)
  | lst xs => obtain ⟨a, vs, rfl, z, q⟩ := r.of_lst; injection h with h; subst hK; exact .inl ⟨vs, z.sq, by rw [← h, all2_isEmpty q]⟩
  | ins k fs => cases h
  | cls k => cases h
  | ty k => cases h
theorem db_tru (hK : c.K = X.K) (ha : DE X c W a ma) (he : ∀ whole, isTrue a X.env whole = (do let v ← whole; standAt a.pos; holding [v] (truthy v)) := by intro _; rfl) : DB X c W a (bOf truE ma) := by
  refine pt_imp (pt_truth ha he) fun σ H Q q => ?_
  obtain ⟨M, ρ, G, env, R, q⟩ := q
  refine ⟨M, ρ, G, env, R, (TQ.bind (R := RE c) q).imp fun v H1 ⟨ρ1, G1, e1, g1, s1, r1, q1⟩ => ?_⟩
  cases e1 with
  | o i => exact q1.elim
  | d x =>
    dsimp only [truE] at q1
    cases hx : tru x with
    | none => rw [hx] at q1; exact q1.elim
    | some k => rw [hx] at q1; exact ⟨k, tru_of r1 hx hK, q1.ok s1 rfl⟩
theorem bl_of {e1 : EV} {v : V} {G1 : GS} {Q : Bool → Hp → Prop} (s1 : SR c M ρ G1 H) (r1 : RepE c M ρ H e1 v) (q1 : TQ RB c W M ρ σ H (lift (isB e1 G1)) Q) : ∃ k, v = .bl k ∧ Q k H := by
  unfold isB at q1
  split at q1
  · rename_i b
    exact ⟨b, Rep.of_bl r1, q1.ok s1 rfl⟩
  · exact q1.elim
theorem db_cmp {op : CmpOp} {f : F2} (ho : OpR X (compareOp op) (V2 c f)) (ha : DE X c W a ma) (hb : DE X c W b mb) (hm : behindInMarks op b = false) : DB X c W (.Compare a [op] [b] pos) (bOf isB (eOp f ma mb)) := by
  refine pt_imp (pt_cmpR ho ha hb hm) fun σ H Q q => ?_
  obtain ⟨M, ρ, G, env, R, q⟩ := q
  refine ⟨M, ρ, G, env, R, ?_⟩
  have q' := TQ.bind (R := RE c) q
  refine (TQ.bind (R := RE c) q').imp fun v H1 ⟨ρ1, G1, e1, g1, s1, r1, q1⟩ => ?_
  refine ⟨M, ρ1, G1, env, R.ge g1 s1, (TQ.bind (R := RE c) q1).imp fun u H2 ⟨ρ2, G2, e2, g2, s2, r2, q2⟩ => ?_⟩
  refine ⟨M, ρ2, G2, e1, e2, s2, r1.grow g2.gr, r2, ?_⟩
  cases hf : f e1 e2 G2 with
  | none => rw [hf] at q2; exact q2.elim
  | some p =>
    rw [hf] at q2
    intro z ρ3 H3 g3 s3 r3
    obtain ⟨ρ4, G4, e4, g4, s4, r4, q4⟩ := q2 z ρ3 H3 g3 s3 r3
    exact bl_of s4 r4 q4
theorem dw_and1 (h : DB X c W a ta) : DW X c W (.BoolOp .And [a] pos) ta := pw_and1 h
theorem dw_or1 (h : DB X c W a ta) : DW X c W (.BoolOp .Or [a] pos) ta := pw_or1 h
theorem DW.db (h : DW X c W e ta) : DB X c W e ta := PW.pt h
theorem dw_and (h : DB X c W a ta) (k : DW X c W (.BoolOp .And (b :: rest) pos) tb) : DW X c W (.BoolOp .And (a :: b :: rest) pos) (bAnd ta tb) := by
  refine pw_imp (pw_and h k) fun σ H Q q => ?_
  obtain ⟨M, ρ, G, env, R, q⟩ := q
  refine ⟨M, ρ, G, env, R, (TQ.bind (R := RB) q).imp fun v H1 ⟨ρ1, G1, e1, g1, s1, r1, q1⟩ => ?_⟩
  obtain rfl : v = e1 := Eq.symm r1
  cases v with
  | true => exact ⟨M, ρ1, G1, env, R.ge g1 s1, q1⟩
  | false => exact q1.ok s1 rfl
theorem dw_or (h : DB X c W a ta) (k : DW X c W (.BoolOp .Or (b :: rest) pos) tb) : DW X c W (.BoolOp .Or (a :: b :: rest) pos) (bOr ta tb) := by
  refine pw_imp (pw_or h k) fun σ H Q q => ?_
  obtain ⟨M, ρ, G, env, R, q⟩ := q
  refine ⟨M, ρ, G, env, R, (TQ.bind (R := RB) q).imp fun v H1 ⟨ρ1, G1, e1, g1, s1, r1, q1⟩ => ?_⟩
  obtain rfl : v = e1 := Eq.symm r1
  cases v with
  | true => exact q1.ok s1 rfl
  | false => exact ⟨M, ρ1, G1, env, R.ge g1 s1, q1⟩
theorem db_not (h : DB X c W a ta) : DB X c W (.UnaryOp .Not a pos) (bNot ta) := by
  refine pt_imp (pt_not h) fun σ H Q q => ?_
  obtain ⟨M, ρ, G, env, R, q⟩ := q
  refine ⟨M, ρ, G, env, R, (TQ.bind (R := RB) q).imp fun v H1 ⟨ρ1, G1, e1, g1, s1, r1, q1⟩ => ?_⟩
  obtain rfl : v = e1 := Eq.symm r1
  exact q1.ok s1 rfl
theorem de_one {op} (h : DE X c W a ma) : DE X c W (.BoolOp op [a] pos) ma := pe_one h
theorem de_and (h : DE X c W a ma) (k : DE X c W (.BoolOp .And (b :: rest) pos) mb) : DE X c W (.BoolOp .And (a :: b :: rest) pos) (eAnd ma mb) := by
  refine pe_imp (pe_and h k) fun σ H Q q => ?_
  obtain ⟨M, ρ, G, env, R, q⟩ := q
  refine ⟨M, ρ, G, env, R, (TQ.bind (R := RE c) q).imp fun v H1 ⟨ρ1, G1, e1, g1, s1, r1, q1⟩ => ?_⟩
  split at q1
  · exact ⟨true, Rep.of_bl r1, M, ρ1, G1, env, R.ge g1 s1, q1⟩
  · exact ⟨false, Rep.of_bl r1, q1.ok s1 Rep.bl⟩
  · exact q1.elim
theorem de_or (h : DE X c W a ma) (k : DE X c W (.BoolOp .Or (b :: rest) pos) mb) : DE X c W (.BoolOp .Or (a :: b :: rest) pos) (eOr ma mb) := by
  refine pe_imp (pe_or h k) fun σ H Q q => ?_
  obtain ⟨M, ρ, G, env, R, q⟩ := q
  refine ⟨M, ρ, G, env, R, (TQ.bind (R := RE c) q).imp fun v H1 ⟨ρ1, G1, e1, g1, s1, r1, q1⟩ => ?_⟩
  split at q1
  · exact ⟨true, Rep.of_bl r1, q1.ok s1 Rep.bl⟩
  · exact ⟨false, Rep.of_bl r1, M, ρ1, G1, env, R.ge g1 s1, q1⟩
  · exact q1.elim
theorem de_not (h : DE X c W a ma) : DE X c W (.UnaryOp .Not a pos) (eNot ma) := by
  refine pe_imp (pe_not h) fun σ H Q q => ?_
  obtain ⟨M, ρ, G, env, R, q⟩ := q
  refine ⟨M, ρ, G, env, R, (TQ.bind (R := RE c) q).imp fun v H1 ⟨ρ1, G1, e1, g1, s1, r1, q1⟩ => ?_⟩
  split at q1
  · exact ⟨_, Rep.of_bl r1, q1.ok s1 Rep.bl⟩
  · exact q1.elim
theorem de_if (h : DB X c W t ta) (ha : DE X c W a ma) (hb : DE X c W b mb) : DE X c W (.IfExp t a b pos) (eIf ta ma mb) := by
  refine pe_imp (pe_ifExp h ha hb) fun σ H Q q => ?_
  obtain ⟨M, ρ, G, env, R, q⟩ := q
  refine ⟨M, ρ, G, env, R, (TQ.bind (R := RB) q).imp fun v H1 ⟨ρ1, G1, e1, g1, s1, r1, q1⟩ => ?_⟩
  obtain rfl : v = e1 := Eq.symm r1
  cases v with
  | true => rw [if_pos rfl] at q1 ⊢; exact ⟨M, ρ1, G1, env, R.ge g1 s1, q1⟩
  | false => exact ⟨M, ρ1, G1, env, R.ge g1 s1, q1⟩
end

/-! ### statements -/
inductive OutS where
  | nx (env : En) (G : GS) | rt (e : EV) (G : GS) | bk (env : En) (G : GS) | ct (env : En) (G : GS)
  | er (c : String) (fs : List D) (env : En) (G : GS) | st
abbrev SM := En → GS → OutS
def SQ (c : RC) (W : WX) (M : Addr → Prop) (ρ : List Addr) (H : Hp) (o : OutS) (Dn : Ends) : Prop := match o with
  | .nx env' G' => ∀ M' ρ' σ' H', Gr M ρ H M' ρ' H' → Rl c M' ρ' G' env' σ' H' → Dn.nx σ' H'
  | .bk env' G' => ∀ M' ρ' σ' H', Gr M ρ H M' ρ' H' → Rl c M' ρ' G' env' σ' H' → Dn.bk σ' H'
  | .ct env' G' => ∀ M' ρ' σ' H', Gr M ρ H M' ρ' H' → Rl c M' ρ' G' env' σ' H' → Dn.ct σ' H'
  | .rt e G' => ∀ M' ρ' v H', Gr M ρ H M' ρ' H' → SR c M' ρ' G' H' → RepE c M' ρ' H' e v → Dn.rt v H'
  | .er cl fs env' G' => ∀ M' ρ' σ' H' dd gs, Gr M ρ H M' ρ' H' → Rl c M' ρ' G' env' σ' H' → H' dd = some (.xd gs) → Flds c M' ρ' H' cl fs gs → W (.ref (c.C cl)) (some dd) σ' H'
  | .st => False
def tDS (c : RC) (W : WX) (m : SM) : TS := fun Dn σ H => ∃ M ρ G env, Rl c M ρ G env σ H ∧ SQ c W M ρ H (m env G) Dn
def DS (X : Cx) (c : RC) (W : WX) (s : Stmt) (m : SM) : Prop := PS X s (tDS c W m)
def DSs (X : Cx) (c : RC) (W : WX) (s : List Stmt) (m : SM) : Prop := PSs X s (tDS c W m)
theorem ps_imp {X : Cx} {e : Stmt} {t t' : TS} (h : PS X e t) (k : ∀ D σ H, t' D σ H → t D σ H) : PS X e t' := ⟨fun pins s σ H D I q => h.run pins s σ H D I (k D σ H q)⟩
theorem pss_imp {X : Cx} {e : List Stmt} {t t' : TS} (h : PSs X e t) (k : ∀ D σ H, t' D σ H → t D σ H) : PSs X e t' := ⟨fun pins s σ H D I q => h.run pins s σ H D I (k D σ H q)⟩
section
variable {c : RC} {W : WX} {M M' : Addr → Prop} {ρ ρ' : List Addr} {H H' : Hp} {o : OutS} {Dn Dn' : Ends} {σ : L2.St} {G : GS} {env : En}
theorem SQ.grow (h : SQ c W M ρ H o Dn) (g : Gr M ρ H M' ρ' H') : SQ c W M' ρ' H' o Dn := by
  cases o with
  | nx e G => exact fun a b d f g2 r => h a b d f (g.trans g2) r
  | bk e G => exact fun a b d f g2 r => h a b d f (g.trans g2) r
  | ct e G => exact fun a b d f g2 r => h a b d f (g.trans g2) r
  | rt e G => exact fun a b d f g2 r => h a b d f (g.trans g2) r
  | er cl fs e G => exact fun a b d f dd gs g2 r => h a b d f dd gs (g.trans g2) r
  | st => exact h
/-- an expression ahead of the rest of a statement -/
def ofE {α : Type} (o : Out α) (env : En) (k : α → GS → OutS) : OutS := match o with
  | .ok e G => k e G
  | .er c fs G => .er c fs env G
  | .st => .st
theorem SQ.ofE {α β : Type} {R : (Addr → Prop) → List Addr → Hp → α → β → Prop} {m : Out α} {k : α → GS → OutS} (Rr : Rl c M ρ G env σ H) (h : SQ c W M ρ H (ofE m env k) Dn) :
    TQ R c W M ρ σ H m (fun v H1 => ∃ ρ1 G1 e, Ge M ρ H ρ1 H1 ∧ Rl c M ρ1 G1 env σ H1 ∧ R M ρ1 H1 e v ∧ SQ c W M ρ1 H1 (k e G1) Dn) := by
  cases m with
  | ok e G => exact fun v ρ1 H1 g s r => ⟨ρ1, G, e, g, Rr.ge g s, r, SQ.grow h g.gr⟩
  | er cl fs G => exact fun dd gs ρ1 H1 g s e f => h M ρ1 σ H1 dd gs g.gr (Rr.ge g s) e f
  | st => exact h
end
def seqO (o : OutS) (k : En → GS → OutS) : OutS := match o with
  | .nx env G => k env G
  | o => o
def sSeq (a b : SM) : SM := fun env G => seqO (a env G) b
def sNil : SM := fun env G => .nx env G
def sSet (i : Nat) (m : EM) : SM := fun env G => ofE (m env G) env fun e G1 => .nx (env.set i (.ev e)) G1
def sRet (m : EM) : SM := fun env G => ofE (m env G) env fun e G1 => .rt e G1
def sRetN : SM := fun _ G => .rt (.d .non) G
def sDrop (m : EM) : SM := fun env G => ofE (m env G) env fun _ G1 => .nx env G1
def sIf (t : BM) (a b : SM) : SM := fun env G => ofE (t env G) env fun k G1 => if k = true then a env G1 else b env G1
def sSt : SM := fun _ _ => .st
def sBk : SM := fun env G => .bk env G
def sCt : SM := fun env G => .ct env G
section
variable {X : Cx} {c : RC} {W : WX} {e t : Expr} {st : Stmt} {sts as bs : List Stmt} {me : EM} {mt : BM} {ms mr ma mb : SM} {pos : Pos}
theorem dss_nil : DSs X c W [] sNil := by
  refine pss_imp pss_nil fun Dn σ H q => ?_
  obtain ⟨M, ρ, G, env, R, q⟩ := q
  exact q M ρ σ H Gr.refl R
theorem SQ.seq {M : Addr → Prop} {ρ : List Addr} {H : Hp} {o : OutS} {k : SM} {Dn : Ends} (h : SQ c W M ρ H (seqO o k) Dn) : SQ c W M ρ H o { Dn with nx := tDS c W k Dn } := by
  cases o with
  | nx env G => exact fun M' ρ' σ' H' g R => ⟨M', ρ', G, env, R, SQ.grow h g⟩
  | bk e G => exact h
  | ct e G => exact h
  | rt e G => exact h
  | er cl fs e G => exact h
  | st => exact h
theorem dss_cons (h : DS X c W st ms) (k : DSs X c W sts mr) : DSs X c W (st :: sts) (sSeq ms mr) := by
  refine pss_imp (pss_cons h k) fun Dn σ H q => ?_
  obtain ⟨M, ρ, G, env, R, q⟩ := q
  exact ⟨M, ρ, G, env, R, SQ.seq q⟩
theorem dss_one (h : DS X c W st ms) : DSs X c W [st] ms := pss_one h
theorem ds_pass : DS X c W (.Pass pos) sNil := by
  refine ps_imp ps_pass fun Dn σ H q => ?_
  obtain ⟨M, ρ, G, env, R, q⟩ := q
  exact q M ρ σ H Gr.refl R
theorem ds_break : DS X c W (.Break pos) sBk := by
  refine ps_imp ps_break fun Dn σ H q => ?_
  obtain ⟨M, ρ, G, env, R, q⟩ := q
  exact q M ρ σ H Gr.refl R
theorem ds_cont : DS X c W (.Continue pos) sCt := by
  refine ps_imp ps_continue fun Dn σ H q => ?_
  obtain ⟨M, ρ, G, env, R, q⟩ := q
  exact q M ρ σ H Gr.refl R
theorem ds_never : DS X c W st sSt := by
  refine ps_imp ps_never fun Dn σ H q => ?_
  obtain ⟨M, ρ, G, env, R, q⟩ := q
  exact q.elim
theorem dss_never : DSs X c W sts sSt := by
  refine pss_imp pss_never fun Dn σ H q => ?_
  obtain ⟨M, ρ, G, env, R, q⟩ := q
  exact q.elim
theorem Rl.set {M : Addr → Prop} {ρ : List Addr} {G : GS} {env : En} {σ : L2.St} {H : Hp} {i : Nat} {x : EV} {v : V} (R : Rl c M ρ G env σ H) (r : RepE c M ρ H x v) : Rl c M ρ G (env.set i (.ev x)) (σ.set i (some v)) H := by
  obtain ⟨oa, h1, h2⟩ := R.e
  have ne : ∀ (j : Nat) (sl : Sl), (env.set i (.ev x))[j]? = some sl → (j = i ∧ sl = .ev x) ∨ (j ≠ i ∧ env[j]? = some sl) := fun j sl e => by
    by_cases hj : j = i
    · subst hj
      have hl : j < env.length := by
        have := (List.getElem?_eq_some_iff.mp e).1
        rwa [List.length_set] at this
      rw [List.getElem?_set_self hl] at e
      exact .inl ⟨rfl, (Option.some.inj e).symm⟩
    · rw [List.getElem?_set_ne (Ne.symm hj)] at e
      exact .inr ⟨hj, e⟩
  refine ⟨R.s, by simpa using R.len, oa, fun j sl e => ?_, fun j k o u e1 e2 e3 => ?_⟩
  · rcases ne j sl e with ⟨rfl, rfl⟩ | ⟨hj, e'⟩
    · exact ⟨v, List.getElem?_set_self (Nat.lt_of_lt_of_le (by simpa using (List.getElem?_eq_some_iff.mp e).1) R.len), r⟩
    · have h := h1 j sl e'
      have sg : (σ.set i (some v))[j]? = σ[j]? := List.getElem?_set_ne (Ne.symm hj)
      match sl, h with
      | .no, _ => trivial
      | .ev e, ⟨v, a, b⟩ => exact ⟨v, by rw [sg]; exact a, b⟩
      | .own (.lst xs), ⟨a, b⟩ => exact ⟨by rw [sg]; exact a, b⟩
      | .own (.ins k fs), ⟨a, b⟩ => exact ⟨by rw [sg]; exact a, b⟩
      | .exn k fs, ⟨a, b⟩ => exact ⟨by rw [sg]; exact a, b⟩
  · rcases ne j _ e1 with ⟨_, z⟩ | ⟨_, e1⟩
    · cases z
    · rcases ne k _ e2 with ⟨_, z⟩ | ⟨_, e2⟩
      · cases z
      · exact h2 j k o u e1 e2 e3
theorem ds_set {i : Nat} {x : Str} {pos' : Pos} (hN : X.N.Nodup) (hi : X.N[i]? = some x) (hx : Loc X.env.scope x) (he : DE X c W e me) (hs : swapsWith e (some (.Name x pos')) pos.line X.env = pure false := by rfl)
    (hf : X.fn x = true ∨ X.env.scope.names.lookup x = some .local := by first | exact .inl rfl | exact .inr rfl | assumption) : DS X c W (.Assign [.Name x pos'] e pos) (sSet i me) := by
  refine ⟨fun pins s σ H D I q => (ps_set hN hi hx he hs hf).run pins s σ H D I ?_⟩
  obtain ⟨M, ρ, G, env, R, q⟩ := q
  refine ⟨M, ρ, G, env, R, (SQ.ofE (R := RE c) R q).imp fun v H1 ⟨ρ1, G1, e1, g1, R1, r1, q1⟩ => ?_⟩
  exact q1 M ρ1 _ H1 Gr.refl (R1.set r1)
theorem ds_ret (he : DE X c W e me) : DS X c W (.Return (some e) pos) (sRet me) := by
  refine ps_imp (ps_ret he) fun Dn σ H q => ?_
  obtain ⟨M, ρ, G, env, R, q⟩ := q
  refine ⟨M, ρ, G, env, R, (SQ.ofE (R := RE c) R q).imp fun v H1 ⟨ρ1, G1, e1, g1, R1, r1, q1⟩ => ?_⟩
  exact q1 M ρ1 _ H1 Gr.refl R1.s r1
theorem ds_retN : DS X c W (.Return none pos) sRetN := by
  refine ps_imp ps_retN fun Dn σ H q => ?_
  obtain ⟨M, ρ, G, env, R, q⟩ := q
  exact q M ρ _ H Gr.refl R.s Rep.non
theorem ds_expr (he : DE X c W e me) (hs : swapsWith e none pos.line X.env = pure false := by rfl) : DS X c W (.Expr e pos) (sDrop me) := by
  refine ps_imp (ps_expr he hs) fun Dn σ H q => ?_
  obtain ⟨M, ρ, G, env, R, q⟩ := q
  refine ⟨M, ρ, G, env, R, (SQ.ofE (R := RE c) R q).imp fun v H1 ⟨ρ1, G1, e1, g1, R1, r1, q1⟩ => ?_⟩
  exact q1 M ρ1 _ H1 Gr.refl R1
theorem ds_if (ht : DB X c W t mt) (ha : DSs X c W as ma) (hb : DSs X c W bs mb) : DS X c W (.If t as bs pos) (sIf mt ma mb) := by
  refine ps_imp (ps_if ht ha hb) fun Dn σ H q => ?_
  obtain ⟨M, ρ, G, env, R, q⟩ := q
  refine ⟨M, ρ, G, env, R, (SQ.ofE (R := RB) R q).imp fun v H1 ⟨ρ1, G1, e1, g1, R1, r1, q1⟩ => ?_⟩
  obtain rfl : v = e1 := Eq.symm r1
  cases v with
  | true => rw [if_pos rfl] at q1 ⊢; exact ⟨M, ρ1, G1, env, R1, q1⟩
  | false => exact ⟨M, ρ1, G1, env, R1, q1⟩
end
end DL

set_option Elab.async false
set_option linter.all false
set_option maxRecDepth 100000
set_option maxHeartbeats 4000000
namespace DL
open PySem L2 PyProof.Rows

abbrev nM : Addr → Prop := fun _ => False
section
variable {c c' : RC} {M M' : Addr → Prop} {ρ ρ' : List Addr} {H H' : Hp} {G : GS}
/-- the same data under other protections -/
structure Cv (c : RC) (M : Addr → Prop) (c' : RC) (M' : Addr → Prop) (ρ : List Addr) : Prop where
  K : c'.K = c.K
  C : c'.C = c.C
  N : c'.N = c.N
  z : ∀ a, Zz c M ρ a → Zz c' M' ρ a
theorem ZL.cv {a : Addr} {xs : List V} (v : Cv c M c' M' ρ) (h : ZL c M ρ H a xs) : ZL c' M' ρ H a xs := h.elim (fun q => .inl ⟨v.z a q.1, q.2⟩) fun q => .inr (by rw [v.K]; exact q)
theorem ZT.cv {a : Addr} {xs : List V} (v : Cv c M c' M' ρ) (h : ZT c M ρ H a xs) : ZT c' M' ρ H a xs := h.elim (fun q => .inl ⟨v.z a q.1, q.2⟩) fun q => .inr (by rw [v.K]; exact q)
theorem RepN.cv (v : Cv c M c' M' ρ) : ∀ {n : Nat} {d : D} {u : V}, RepN c M ρ H n d u → RepN c' M' ρ H n d u := by
  intro n
  induction n with
  | zero =>
    intro d u h
    cases d with
    | cls k => show u = _; rw [v.C]; exact h
    | _ => exact h
  | succ n ih =>
    intro d u h
    cases d with
    | tup xs => obtain ⟨a, vs, e, z, r⟩ := h; exact ⟨a, vs, e, z.cv v, r.imp fun _ _ q => ih q⟩
    | lst xs => obtain ⟨a, vs, e, z, r⟩ := h; exact ⟨a, vs, e, z.cv v, r.imp fun _ _ q => ih q⟩
    | ins k fs => obtain ⟨a, dx, gs, e, z, e2, nm, r⟩ := h; exact ⟨a, dx, gs, e, v.z a z, by rw [v.C]; exact e2, by rw [v.N]; exact nm, r.imp fun _ _ q => ih q⟩
    | cls k => show u = _; rw [v.C]; exact h
    | _ => exact h
theorem Rep.cv (v : Cv c M c' M' ρ) {d : D} {u : V} (h : Rep c M ρ H d u) : Rep c' M' ρ H d u := let ⟨n, q⟩ := h; ⟨n, q.cv v⟩
theorem RepE.cv (v : Cv c M c' M' ρ) {d : EV} {u : V} (h : RepE c M ρ H d u) : RepE c' M' ρ H d u := by
  cases d with
  | d x => exact Rep.cv v h
  | o i => exact h
theorem repEs_cv (v : Cv c M c' M' ρ) {d : List EV} {u : List V} (h : All2 (RepE c M ρ H) d u) : All2 (RepE c' M' ρ H) d u := h.imp fun _ _ q => q.cv v
theorem flds_cv (v : Cv c M c' M' ρ) {k : String} {fs : List D} {gs : List (Str × V)} (h : Flds c M ρ H k fs gs) : Flds c' M' ρ H k fs gs := ⟨by rw [v.N]; exact h.nm, h.r.imp fun _ _ q => q.cv v⟩
theorem SR.cv (v : Cv c M c' M' ρ) (s : SR c M ρ G H) (h1 : ∀ a ∈ ρ, ¬ c'.B a ∧ ¬ M' a) (h2 : ∀ a, M' a → H a ≠ none) (h3 : ∀ a, c'.B a → H a ≠ none) : SR c' M' ρ G H :=
  ⟨s.len, s.nd, h1, fun i xs e => let ⟨a, vs, p, q, r⟩ := s.at_ i xs e; ⟨a, vs, p, q, repEs_cv v r⟩, h2, h3⟩
/-- the frame forgets what is its own -/
theorem cv_drop : Cv c M c nM ρ := ⟨rfl, rfl, rfl, fun a h => ⟨h.1, fun z => z, h.2.2⟩⟩
theorem SR.drop (s : SR c M ρ G H) : SR c nM ρ G H := s.cv cv_drop (fun a h => ⟨(s.sep a h).1, fun z => z⟩) (fun _ z => z.elim) s.bt
/-- the callee's frame: what is ours is the callers' there -/
def sub (c : RC) (M : Addr → Prop) : RC := ⟨c.K, c.C, c.N, fun a => c.B a ∨ M a, 0, 0⟩
theorem cv_in : Cv c M (sub c M) nM ρ := ⟨rfl, rfl, rfl, fun a h => ⟨fun z => z.elim h.1 h.2.1, fun z => z, h.2.2⟩⟩
theorem cv_out : Cv (sub c M) nM c M ρ := ⟨rfl, rfl, rfl, fun a h => ⟨fun z => h.1 (.inl z), fun z => h.1 (.inr z), h.2.2⟩⟩
theorem SR.in_ (s : SR c M ρ G H) : SR (sub c M) nM ρ G H := s.cv cv_in (fun a h => ⟨fun z => z.elim (s.sep a h).1 (s.sep a h).2, fun z => z⟩) (fun _ z => z.elim) fun a z => z.elim (s.bt a) (s.mt a)
theorem SR.out (s : SR (sub c M) nM ρ G H) : SR c M ρ G H := s.cv cv_out (fun a h => ⟨fun z => (s.sep a h).1 (.inl z), fun z => (s.sep a h).1 (.inr z)⟩) (fun a z => s.bt a (.inr z)) fun a z => s.bt a (.inl z)
theorem TQ.in_ {W : WX} {σ : L2.St} {o : Out EV} {Q : VK} (h : TQ (RE c) c W M ρ σ H o Q) : TQ (RE (sub c M)) (sub c M) W nM ρ σ H o Q := by
  cases o with
  | ok e G => exact fun v ρ' H' g s r => h v ρ' H' ⟨g.keep, g.there, g.grow⟩ s.out (r.cv cv_out)
  | er cl fs G => exact fun dd gs ρ' H' g s e r => h dd gs ρ' H' ⟨g.keep, g.there, g.grow⟩ s.out e (flds_cv cv_out r)
  | st => exact h
end

/-! ### the promise of a def: its meaning g on n values -/
abbrev FM := List EV → GS → Out EV
/-- which numbers of arguments are taken -/
abbrev Ar := Nat → Bool
def arN (n : Nat) : Ar := fun m => m == n
def Spd (K : PySem.W.Frag) (C : String → Addr) (N : String → List Str) (n : Ar) (g : FM) : Sp := fun vs H Q E => n vs.length = true ∧ ∃ (B : Addr → Prop) (ρ : List Addr) (G : GS) (es : List EV), SR ⟨K, C, N, B, 0, 0⟩ nM ρ G H ∧ All2 (RepE ⟨K, C, N, B, 0, 0⟩ nM ρ H) es vs ∧
  TQ (RE ⟨K, C, N, B, 0, 0⟩) ⟨K, C, N, B, 0, 0⟩ (fun cls d _ H => E cls d H) nM ρ [] H (g es G) Q
abbrev FnG (P : Program) (w : World) (K : PySem.W.Frag) (mg : Str → Option Value) (base : Heap) (C : String → Addr) (N : String → List Str) (k : Nat) (f : Addr) (n : Ar) (g : FM) : Prop := FnR P w K mg base (L2N.CX P w) k f (Spd K C N n g)
theorem Spd.imp {K : PySem.W.Frag} {C : String → Addr} {N : String → List Str} {n : Ar} {g g' : FM} (h : ∀ es G, n es.length = true → g' es G ≠ .st → g es G = g' es G) : ∀ vs H Q E, Spd K C N n g' vs H Q E → Spd K C N n g vs H Q E := fun vs H Q E ⟨hl, B, ρ, G, es, s, r, q⟩ => by
  refine ⟨hl, B, ρ, G, es, s, r, ?_⟩
  rw [h es G (by rw [r.length]; exact hl) (fun z => by rw [z] at q; exact q)]
  exact q
/-- another meaning, equal where it is one -/
theorem FnG.imp {P : Program} {w : World} {K : PySem.W.Frag} {mg : Str → Option Value} {base : Heap} {C : String → Addr} {N : String → List Str} {k : Nat} {f : Addr} {n : Ar} {g g' : FM} (F : FnG P w K mg base C N k f n g) (h : ∀ es G, n es.length = true → g' es G ≠ .st → g es G = g' es G) :
    FnG P w K mg base C N k f n g' := FnR.imp F (Spd.imp h)

/-- a body's meaning on its arguments -/
def env0 (n : Nat) (es : List EV) : En := es.map .ev ++ List.replicate (n - es.length) .no
def retO (o : OutS) : Out EV := match o with
  | .nx _ G => .ok (.d .non) G
  | .rt e G => .ok e G
  | .er c fs _ G => .er c fs G
  | _ => .st
def runB (n : Nat) (m : SM) : FM := fun es G => retO (m (env0 n es) G)
theorem rl_start {c : RC} {ρ : List Addr} {G : GS} {es : List EV} {vs : List V} {H : Hp} {N : List Str} (s : SR c nM ρ G H) (r : All2 (RepE c nM ρ H) es vs) (hl : vs.length ≤ N.length) : Rl c nM ρ G (env0 N.length es) (L2.start N vs) H := by
  have hll := r.length
  refine ⟨s, by unfold env0 L2.start; simp; omega, fun _ => 0, fun i sl e => ?_, fun i j o u e1 => ?_⟩
  · unfold env0 at e
    by_cases hi : i < es.length
    · rw [List.getElem?_append_left (by simpa using hi), List.getElem?_map] at e
      cases q : es[i]? with
      | none => rw [q] at e; cases e
      | some x =>
        rw [q] at e
        cases e
        obtain ⟨v, hv, rv⟩ := r.get q
        refine ⟨v, ?_, rv⟩
        unfold L2.start
        rw [List.getElem?_append_left (by simpa using (List.getElem?_eq_some_iff.mp hv).1), List.getElem?_map, hv]
        rfl
    · rw [List.getElem?_append_right (by simpa using hi)] at e
      have := List.mem_of_getElem? e
      rw [List.eq_of_mem_replicate this]
      trivial
  · unfold env0 at e1
    have := List.mem_of_getElem? e1
    rcases List.mem_append.mp this with h | h
    · obtain ⟨_, _, z⟩ := List.mem_map.mp h; cases z
    · cases List.eq_of_mem_replicate h
theorem Gr.ge {M' : Addr → Prop} {ρ ρ' : List Addr} {H H' : Hp} (g : Gr nM ρ H M' ρ' H') : Ge nM ρ H ρ' H' := ⟨fun a o e n => g.keep a o e n fun z => z, g.there, g.grow⟩
theorem sq_of {c : RC} {E : XK} {ρ : List Addr} {H : Hp} {o : OutS} {Q : VK} (h : TQ (RE c) c (fun cls d _ H => E cls d H) nM ρ [] H (retO o) Q) : SQ c (fun cls d _ H => E cls d H) nM ρ H o { nx := fun _ H' => Q .non H', rt := Q } := by
  cases o with
  | nx env G => exact fun M' ρ' σ' H' g R => h .non ρ' H' g.ge R.s.drop Rep.non
  | rt e G => exact fun M' ρ' v H' g s r => h v ρ' H' g.ge s.drop (r.cv cv_drop)
  | er cl fs e G => exact fun M' ρ' σ' H' dd gs g R e f => h dd gs ρ' H' g.ge R.s.drop e (flds_cv cv_drop f)
  | bk e G => exact (show False from h).elim
  | ct e G => exact (show False from h).elim
  | st => exact h
section
variable {P : Program} {w : World} {K : PySem.W.Frag} {mg : Str → Option Value} {base : Heap} {C : String → Addr} {N : String → List Str}
/-- THE RULE for a def without defaults -/
theorem fng_of {x qual : Str} {st : Stmt} {f : Addr} {fd : FuncData} {Nm ps : List Str} {k : Nat} {m : SM} (F : Fun K x qual st f fd) (S : FnScope Nm ps (defScope st)) (bd : Binds K fd ps [])
    (hb : ∀ (cdv : Value) (A : Around) (outer : List Env) (s : Shared) (H : Hp) (E : XK) (B : Addr → Prop), Room k (A.deeper (envOfC qual (defScope st) s.heap.objs.size f cdv)) →
      DSs (cxOf (L2N.CX P w) P w K mg base Nm qual (defScope st) f cdv A outer s H E) ⟨K, C, N, B, 0, 0⟩ (fun cls d _ H => E cls d H) (defBody st) m) : FnG P w K mg base C N (k + 1) f (arN ps.length) (runB Nm.length m) := by
  have hlN : ps.length ≤ Nm.length := by have := congrArg List.length S.pre; rw [List.length_take] at this; omega
  have G : FnOk P w K mg base (L2N.CX P w) (k + 1) f fd ps (Spd K C N (arN ps.length) (runB Nm.length m)) := by
    obtain ⟨oc, od, kV, doc, pm, an, cdv, ct, osl, rfl, lk, hcd⟩ := F.ex
    refine fn_of lk hcd S (fun vs H Q E h => by simpa [arN] using h.1) fun A outer s H vs Q E hr hsp => ?_
    obtain ⟨hl, B, ρ, G, es, s0, r, q⟩ := hsp
    exact ⟨_, hb cdv A outer s H E B hr, nM, ρ, G, _, rl_start s0 r (by rw [show vs.length = ps.length by simpa [arN] using hl]; exact hlN), sq_of q⟩
  exact FnR.imp (G.raw bd .nil) fun vs H Q E h => by rw [List.append_nil]; exact h
end

/-! ### calls -/
def eCall (n : Ar) (g : FM) (r : AM) : EM := fun env G => (r env G).bind fun xs G1 => if n xs.length = true then g xs G1 else .st
section
variable {X : Cx} {c : RC} {W : WX} {e a b : Expr} {es : List Expr} {ma mb : EM} {mr : AM} {pos p : Pos} {M : Addr → Prop} {ρ : List Addr} {σ : L2.St} {H : Hp}
/-- a call of a def, where what it lets out passes at this very state -/
theorem run_fnA {CX : CXT} {k : Nat} {f : Addr} {sp : Sp} {E : XK} {Q : VK} {s : Shared} {pins : List (Addr × Obj)} {vs : List V} {us : List Value}
    (F : FnR X.prog X.w X.K X.mg X.base CX k f sp) (hr : Room k X.A) (hx : PassesAt CX X σ E) (I : Inv X pins σ H s) (r : Vals vs us) (h : sp vs H Q E) :
    codeAny (model X.prog X.w) X.A (.call (.ref f) ⟨us, []⟩)
      (fun res s' => match res with
        | .ok (.ret v) => EP X pins σ Q v s'
        | .ok _ => False
        | .error e => X.xe e s') s :=
  codeAny_mono (F X.A X.stack s H us vs Q E hr I.env0 r h) fun res s' z => match res, z with
    | .error e, z => hx pins H s e s' I z
    | .ok (.ret _), z => I.after z
    | .ok .next, z => z.elim
    | .ok .brk, z => z.elim
    | .ok .cont, z => z.elim
theorem spd_of {n : Ar} {g : FM} {es1 : List EV} {vs : List V} {G1 : GS} {Q : VK} (s1 : SR c M ρ G1 H) (r1 : All2 (RepE c M ρ H) es1 vs) (q1 : TQ (RE c) c W M ρ σ H (if n es1.length = true then g es1 G1 else .st) Q) : Spd c.K c.C c.N n g vs H Q (WE W σ) := by
  split at q1
  · rename_i hl
    have z := q1.in_
    refine ⟨by rw [← r1.length]; exact hl, _, ρ, G1, es1, s1.in_, repEs_cv cv_in r1, ?_⟩
    cases hg : g es1 G1 with
    | ok e G => rw [hg] at z; exact z
    | er cl fs G => rw [hg] at z; exact z
    | st => rw [hg] at z; exact z
  · exact q1.elim
theorem de_call {x : Str} {k : Nat} {n : Ar} {f : Addr} {g : FM} (F : FnG X.prog X.w X.K X.mg X.base c.C c.N k f n g) (hK : c.K = X.K) (hr : Room k X.A) (hg : Gl X x) (hm : X.mg x = some (.ref f)) (hk : PySem.W.keepIn X.K (.ref f) = true) (tk : L2N.Takes X W) (ha : DA X c W (e :: es) mr)
    (hdb : (x == ("__debug__" : Str)) = false := by decide) (he : starEach (e :: es) X.env = (false, eval e X.env) :: starEach es X.env := by rfl) (hpl : (backTo pos (starEach es X.env)).any (·.1) = false := by rfl) :
    DE X c W (.Call (.Name x p) (e :: es) [] pos) (eCall n g mr) := by
  refine ⟨fun pins s σ H Q I h => ?_⟩
  obtain ⟨M, ρ, G, env, R, q⟩ := h
  refine wpAny_Call_Name_kw (ld_glob I hg hm ?_ hdb)
  have h' : tDA c W mr σ H fun vs H1 => Spd c.K c.C c.N n g vs H1 Q (WE W σ) := ⟨M, ρ, G, env, R, (TQ.bind (R := RA c) q).imp fun v H1 ⟨ρ1, G1, e1, g1, s1, r1, q1⟩ => spd_of s1 r1 q1⟩
  refine PySem.W.callWith_K (h₀ := X.base) I.ok.mod.kin hk (thn (PA.run ha pos pins s σ H _ I h') fun us s1 ⟨vs, H1, I1, r, q⟩ => ⟨I1.kIn, ?_⟩) he hpl
  rw [hK] at q
  exact wpAny_call (run_fnA F hr (L2N.passAt tk σ) I1 r q)
end
end DL

set_option Elab.async false
set_option linter.all false
set_option maxRecDepth 100000
set_option maxHeartbeats 4000000
namespace DL
open PySem L2 PyProof.Rows

/-! ### values: arithmetic, comparisons, built-ins -/
def gII (f : Int → Int → D) : D → D → Option D
  | .int i, .int j => some (f i j)
  | _, _ => none
def gIC (p : Int → Int → Bool) (f : Int → Int → D) : D → D → Option D
  | .int i, .int j => if p i j = true then some (f i j) else none
  | _, _ => none
def strMax : Nat := 1000000
def gAdd : D → D → Option D
  | .int i, .int j => some (.int (i + j))
  | .str i, .str j => if i.length + j.length ≤ strMax then some (.str (i ++ j)) else none
  | _, _ => none
def cMul (i j : Int) : Bool := decide (-(2 ^ 64) < i ∧ i < 2 ^ 64) || decide (-(2 ^ 64) < j ∧ j < 2 ^ 64)
def cDiv (i j : Int) : Bool := decide (0 < j) && decide (j < 2 ^ 200)
def cPos (i j : Int) : Bool := decide (0 < j)
def cPow (i j : Int) : Bool := decide (0 ≤ j) && decide (j ≤ 1000000) && decide (i.natAbs < 2 ^ 64)
def cNn (i j : Int) : Bool := decide (0 ≤ j)
def fAdd : F2 := pure2 gAdd
def fSub : F2 := pure2 (gII fun i j => .int (i - j))
def fMul : F2 := pure2 (gIC cMul fun i j => .int (i * j))
def fDiv : F2 := pure2 (gIC cDiv fun i j => .int (i / j))
def fMod : F2 := pure2 (gIC cPos fun i j => .int (i % j))
def fPow : F2 := pure2 (gIC cPow fun i j => .int (i ^ j.toNat))
def fShl : F2 := pure2 (gIC cPow fun i j => .int (i * 2 ^ j.toNat))
def fShr : F2 := pure2 (gIC cNn fun i j => .int (i / 2 ^ j.toNat))
def fAnd : F2 := pure2 (gII fun i j => .int (Builtin.bitAnd i j))
def fOr : F2 := pure2 (gII fun i j => .int (Builtin.bitOr i j))
def fXor : F2 := pure2 (gII fun i j => .int (Builtin.bitXor i j))
def fLt : F2 := pure2 (gII fun i j => .bl (decide (i < j)))
def fLe : F2 := pure2 (gII fun i j => .bl (decide (i ≤ j)))
def fGt : F2 := pure2 (gII fun i j => .bl (decide (j < i)))
def fGe : F2 := pure2 (gII fun i j => .bl (decide (j ≤ i)))
/-! == of what holds no instance -/
mutual
def toPy : D → Option PyData
  | .non => some .none
  | .bl b => some (.bool b)
  | .int i => some (.int i)
  | .str x => some (.str x)
  | .lst xs => (toPys xs).map .list
  | .tup xs => (toPys xs).map .tuple
  | .ins _ _ => none
  | .cls _ => none
  | .ty _ => none
def toPys : List D → Option (List PyData)
  | [] => some []
  | x :: xs => (toPy x).bind fun a => (toPys xs).map (a :: ·)
end
/-- scalars: the answer at once; else by the data -/
def gEq : D → D → Option Bool
  | .int i, .int j => some (decide (i = j))
  | .str i, .str j => some (decide (i = j))
  | .bl i, .bl j => some (decide (i = j))
  | .non, .non => some true
  | .int _, .non => some false
  | .non, .int _ => some false
  | .str _, .non => some false
  | .non, .str _ => some false
  | .int _, .str _ => some false
  | .str _, .int _ => some false
  | a, b => match toPy a, toPy b with
    | some x, some y => if (SeqAt.shaped x && SeqAt.shaped y) = true then some (PyData.eqv x y) else none
    | _, _ => none
def fEq : F2 := pure2 fun a b => (gEq a b).map .bl
def fNe : F2 := pure2 fun a b => (gEq a b).map fun k => .bl (!k)
def isNon : D → Bool
  | .non => true
  | _ => false
def fIs : F2 := fun x y G => match x, y with
  | .d a, .d .non => some (.d (.bl (isNon a)), G)
  | _, _ => none
def fIsNot : F2 := fun x y G => match x, y with
  | .d a, .d .non => some (.d (.bl (!isNon a)), G)
  | _, _ => none
def fNeg : F1 := pure1 fun
  | .int i => some (.int (-i))
  | _ => none
def fInv : F1 := pure1 fun
  | .int i => some (.int (Builtin.bitNot i))
  | _ => none

section
variable {X : Cx} {c : RC} {M : Addr → Prop} {ρ : List Addr} {H : Hp} {x y : V} {Q : VK}
theorem opr_imp {f : Value → Value → Sem Value} {r r' : R2} (h : OpR X f r) (k : ∀ x y H Q, r' x y H Q → r x y H Q) : OpR X f r' := fun pins s σ H x y v u Q I rx ry q => h pins s σ H x y v u Q I rx ry (k _ _ _ _ q)
theorem unr_imp {f : Value → Sem Value} {r r' : V → Hp → VK → Prop} (h : UnR X f r) (k : ∀ x H Q, r' x H Q → r x H Q) : UnR X f r' := fun pins s σ H x v Q I rx q => h pins s σ H x v Q I rx (k _ _ _ q)
theorem callr_imp {f : Value} {r r' : List V → Hp → VK → Prop} (h : CallR X f r) (k : ∀ x H Q, r' x H Q → r x H Q) : CallR X f r' := fun pins s σ H x v Q I rx q => h pins s σ H x v Q I rx (k _ _ _ q)
/-- what is known of two plain operands -/
theorem v2_pure {g : D → D → Option D} (h : V2 c (pure2 g) x y H Q) : ∃ M ρ G a b z, SR c M ρ G H ∧ Rep c M ρ H a x ∧ Rep c M ρ H b y ∧ g a b = some z ∧ ∀ v H', Same H H' → Rep c M ρ H' z v → Q v H' := by
  obtain ⟨M, ρ, G, a, b, s, ra, rb, q⟩ := h
  cases a with
  | o i => exact q.elim
  | d a =>
    cases b with
    | o i => exact q.elim
    | d b =>
      dsimp only [pure2] at q
      cases hz : g a b with
      | none => rw [hz] at q; exact q.elim
      | some z =>
        rw [hz] at q
        exact ⟨M, ρ, G, a, b, z, s, ra, rb, hz, fun v H' sm r => q v ρ H' (Ge.same sm) (s.same sm) r⟩
theorem v1_pure {g : D → Option D} (h : V1 c (pure1 g) x H Q) : ∃ M ρ G a z, SR c M ρ G H ∧ Rep c M ρ H a x ∧ g a = some z ∧ ∀ v H', Same H H' → Rep c M ρ H' z v → Q v H' := by
  obtain ⟨M, ρ, G, a, s, ra, q⟩ := h
  cases a with
  | o i => exact q.elim
  | d a =>
    dsimp only [pure1] at q
    cases hz : g a with
    | none => rw [hz] at q; exact q.elim
    | some z =>
      rw [hz] at q
      exact ⟨M, ρ, G, a, z, s, ra, hz, fun v H' sm r => q v ρ H' (Ge.same sm) (s.same sm) r⟩
theorem datas_rep : ∀ {es : List EV} {vs : List V} {ds : List D}, datas es = some ds → All2 (RepE c M ρ H) es vs → All2 (Rep c M ρ H) ds vs
  | [], _, _, h, .nil => by cases h; exact .nil
  | .d x :: es, _, _, h, .cons r t => by
    dsimp only [datas] at h
    cases q : datas es with
    | none => rw [q] at h; cases h
    | some xs =>
      rw [q] at h
      cases h
      exact .cons r (datas_rep q t)
  | .o i :: es, _, _, h, _ => by cases h
theorem vn_pure {g : List D → Option D} {vs : List V} (h : VN c (pureN g) vs H Q) : ∃ M ρ G ds z, SR c M ρ G H ∧ All2 (Rep c M ρ H) ds vs ∧ g ds = some z ∧ ∀ v H', Same H H' → Rep c M ρ H' z v → Q v H' := by
  obtain ⟨M, ρ, G, es, s, r, q⟩ := h
  dsimp only [pureN] at q
  cases hd : datas es with
  | none => rw [hd] at q; exact q.elim
  | some ds =>
    rw [hd] at q
    dsimp only [Option.bind] at q
    cases hz : g ds with
    | none => rw [hz] at q; exact q.elim
    | some z =>
      rw [hz] at q
      exact ⟨M, ρ, G, ds, z, s, datas_rep hd r, hz, fun v H' sm r => q v ρ H' (Ge.same sm) (s.same sm) r⟩
theorem same_refl : Same H H := fun _ _ h => h
theorem gII_of {f : Int → Int → D} {a b z : D} (h : gII f a b = some z) (ra : Rep c M ρ H a x) (rb : Rep c M ρ H b y) : ∃ i j, x = .int i ∧ y = .int j ∧ z = f i j := by
  cases a <;> cases b <;> first | (cases h; done) | skip
  injection h with h
  exact ⟨_, _, ra.of_int, rb.of_int, h.symm⟩
theorem gIC_of {p : Int → Int → Bool} {f : Int → Int → D} {a b z : D} (h : gIC p f a b = some z) (ra : Rep c M ρ H a x) (rb : Rep c M ρ H b y) : ∃ i j, x = .int i ∧ y = .int j ∧ p i j = true ∧ z = f i j := by
  cases a <;> cases b <;> first | (cases h; done) | skip
  dsimp only [gIC] at h
  split at h
  · rename_i hp
    injection h with h
    exact ⟨_, _, ra.of_int, rb.of_int, hp, h.symm⟩
  · cases h
theorem op2I {f : Value → Value → Sem Value} {g : Int → Int → Int} (h : OpR X f (rI0 fun i j => .int (g i j))) : OpR X f (V2 c (pure2 (gII fun i j => .int (g i j)))) := opr_imp h fun x y H Q q => by
  obtain ⟨M, ρ, G, a, b, z, s, ra, rb, hz, q⟩ := v2_pure q
  obtain ⟨i, j, rfl, rfl, rfl⟩ := gII_of hz ra rb
  exact ⟨i, j, rfl, rfl, q _ _ same_refl .int⟩
theorem op2B {f : Value → Value → Sem Value} {g : Int → Int → Bool} (h : OpR X f (rI0 fun i j => .bl (g i j))) : OpR X f (V2 c (pure2 (gII fun i j => .bl (g i j)))) := opr_imp h fun x y H Q q => by
  obtain ⟨M, ρ, G, a, b, z, s, ra, rb, hz, q⟩ := v2_pure q
  obtain ⟨i, j, rfl, rfl, rfl⟩ := gII_of hz ra rb
  exact ⟨i, j, rfl, rfl, q _ _ same_refl .bl⟩
theorem op2C {f : Value → Value → Sem Value} {p : Int → Int → Bool} {C : Int → Int → Prop} {g : Int → Int → Int} (h : OpR X f (rI C fun i j => .int (g i j))) (k : ∀ i j, p i j = true → C i j) : OpR X f (V2 c (pure2 (gIC p fun i j => .int (g i j)))) := opr_imp h fun x y H Q q => by
  obtain ⟨M, ρ, G, a, b, z, s, ra, rb, hz, q⟩ := v2_pure q
  obtain ⟨i, j, rfl, rfl, hp, rfl⟩ := gIC_of hz ra rb
  exact ⟨i, j, rfl, rfl, k i j hp, q _ _ same_refl .int⟩
theorem dop_sub : OpR X (binaryOp .Sub) (V2 c fSub) := op2I op_sub
theorem dop_mul : OpR X (binaryOp .Mult) (V2 c fMul) := op2C op_mul fun i j h => by
  rcases Bool.or_eq_true_iff.mp h with h | h
  · exact .inl (of_decide_eq_true h)
  · exact .inr (of_decide_eq_true h)
theorem dop_div : OpR X (binaryOp .FloorDiv) (V2 c fDiv) := op2C op_fdivW fun i j h => by
  obtain ⟨h1, h2⟩ := Bool.and_eq_true_iff.mp h
  have h1 : 0 < j := of_decide_eq_true h1
  have h2 : j < 2 ^ 200 := of_decide_eq_true h2
  exact wide_div (b := 200) h1 (by omega) (by decide) (by decide)
theorem dop_mod : OpR X (binaryOp .Mod) (V2 c fMod) := op2C op_mod fun i j h => of_decide_eq_true h
theorem cpow_ok {i j : Int} (h : cPow i j = true) : CPow i j := by
  obtain ⟨h1, h3⟩ := Bool.and_eq_true_iff.mp h
  obtain ⟨h1, h2⟩ := Bool.and_eq_true_iff.mp h1
  exact ⟨of_decide_eq_true h1, of_decide_eq_true h2, of_decide_eq_true h3⟩
theorem dop_pow : OpR X (binaryOp .Pow) (V2 c fPow) := op2C op_pow fun i j h => cpow_ok h
theorem dop_shl : OpR X (binaryOp .LShift) (V2 c fShl) := op2C op_shl fun i j h => cpow_ok h
theorem dop_shr : OpR X (binaryOp .RShift) (V2 c fShr) := op2C op_shr fun i j h => of_decide_eq_true h
theorem dop_and : OpR X (binaryOp .BitAnd) (V2 c fAnd) := op2I op_and
theorem dop_or : OpR X (binaryOp .BitOr) (V2 c fOr) := op2I op_or
theorem dop_xor : OpR X (binaryOp .BitXor) (V2 c fXor) := op2I op_xor
theorem dop_lt : OpR X (compareOp .Lt) (V2 c fLt) := op2B op_lt
theorem dop_le : OpR X (compareOp .LtE) (V2 c fLe) := op2B op_le
theorem dop_gt : OpR X (compareOp .Gt) (V2 c fGt) := op2B op_gt
theorem dop_ge : OpR X (compareOp .GtE) (V2 c fGe) := op2B op_ge
theorem dop_add : OpR X (binaryOp .Add) (V2 c fAdd) := opr_imp (op_add.or op_add_str) fun x y H Q q => by
  obtain ⟨M, ρ, G, a, b, z, s, ra, rb, hz, q⟩ := v2_pure q
  cases a <;> cases b <;> first | (cases hz; done) | skip
  · injection hz with hz
    cases hz
    exact .inl ⟨_, _, ra.of_int, rb.of_int, q _ _ same_refl .int⟩
  · dsimp only [gAdd] at hz
    split at hz
    · rename_i hl
      injection hz with hz
      cases hz
      exact .inr ⟨_, _, ra.of_str, rb.of_str, Nat.le_trans hl (by decide), q _ _ same_refl .str⟩
    · cases hz
mutual
theorem toPy_dp {K : PySem.W.Frag} (hK : c.K = K) : ∀ (d : D) (p : PyData) (v : V), toPy d = some p → Rep c M ρ H d v → Dp K H v p
  | .non, p, v, h, r => by cases h; cases r.of_non; exact .non
  | .bl b, p, v, h, r => by cases h; cases r.of_bl; exact .bl b
  | .int b, p, v, h, r => by cases h; cases r.of_int; exact .int b
  | .str b, p, v, h, r => by cases h; cases r.of_str; exact .str b
  | .lst xs, p, v, h, r => by
    obtain ⟨a, vs, rfl, z, q⟩ := r.of_lst
    dsimp only [toPy] at h
    cases e : toPys xs with
    | none => rw [e] at h; cases h
    | some ps => rw [e] at h; cases h; exact .lst (by rw [← hK]; exact z.sq) (toPys_dp hK xs ps vs e q)
  | .tup xs, p, v, h, r => by
    obtain ⟨a, vs, rfl, z, q⟩ := r.of_tup
    dsimp only [toPy] at h
    cases e : toPys xs with
    | none => rw [e] at h; cases h
    | some ps => rw [e] at h; cases h; exact .tup (by rw [← hK]; exact z.sq) (toPys_dp hK xs ps vs e q)
  | .ins _ _, p, v, h, r => by cases h
  | .cls _, p, v, h, r => by cases h
  | .ty _, p, v, h, r => by cases h
theorem toPys_dp {K : PySem.W.Frag} (hK : c.K = K) : ∀ (ds : List D) (ps : List PyData) (vs : List V), toPys ds = some ps → All2 (Rep c M ρ H) ds vs → DpAll K H vs ps
  | [], ps, vs, h, r => by cases h; cases r; exact .nil
  | d :: ds, ps, vs, h, r => by
    cases r with
    | cons r t =>
      dsimp only [toPys] at h
      cases e1 : toPy d with
      | none => rw [e1] at h; cases h
      | some p =>
        rw [e1] at h
        dsimp only [Option.bind] at h
        cases e2 : toPys ds with
        | none => rw [e2] at h; cases h
        | some qs => rw [e2] at h; cases h; exact .cons (toPy_dp hK d p _ e1 r) (toPys_dp hK ds qs _ e2 t)
end
theorem geq_of {K : PySem.W.Frag} (hK : c.K = K) {a b : D} {k : Bool} (h : gEq a b = some k) (ra : Rep c M ρ H a x) (rb : Rep c M ρ H b y) :
    (scal x y = true ∧ decide (x = y) = k) ∨ ∃ d e, Dp K H x d ∧ Dp K H y e ∧ SeqAt.shaped d = true ∧ SeqAt.shaped e = true ∧ PyData.eqv d e = k := by
  have gen : (match toPy a, toPy b with
    | some x, some y => if (SeqAt.shaped x && SeqAt.shaped y) = true then some (PyData.eqv x y) else none
    | _, _ => none) = some k → ∃ d e, Dp K H x d ∧ Dp K H y e ∧ SeqAt.shaped d = true ∧ SeqAt.shaped e = true ∧ PyData.eqv d e = k := fun h => by
    cases e1 : toPy a with
    | none => rw [e1] at h; cases h
    | some p =>
      cases e2 : toPy b with
      | none => rw [e1, e2] at h; cases h
      | some q =>
        rw [e1, e2] at h
        dsimp only at h
        split at h
        · rename_i hs
          obtain ⟨h1, h2⟩ := Bool.and_eq_true_iff.mp hs
          injection h with h
          exact ⟨p, q, toPy_dp hK a p x e1 ra, toPy_dp hK b q y e2 rb, h1, h2, h⟩
        · cases h
  unfold gEq at h
  split at h
  · injection h with h; cases ra.of_int; cases rb.of_int; exact .inl ⟨rfl, by rw [← h]; simp⟩
  · injection h with h; cases ra.of_str; cases rb.of_str; exact .inl ⟨rfl, by rw [← h]; simp⟩
  · injection h with h; cases ra.of_bl; cases rb.of_bl; exact .inl ⟨rfl, by rw [← h]; simp⟩
  · injection h with h; cases ra.of_non; cases rb.of_non; exact .inl ⟨rfl, by rw [← h]; simp⟩
  · injection h with h; cases ra.of_int; cases rb.of_non; exact .inl ⟨rfl, by rw [← h]; simp⟩
  · injection h with h; cases ra.of_non; cases rb.of_int; exact .inl ⟨rfl, by rw [← h]; simp⟩
  · injection h with h; cases ra.of_str; cases rb.of_non; exact .inl ⟨rfl, by rw [← h]; simp⟩
  · injection h with h; cases ra.of_non; cases rb.of_str; exact .inl ⟨rfl, by rw [← h]; simp⟩
  · injection h with h; cases ra.of_int; cases rb.of_str; exact .inl ⟨rfl, by rw [← h]; simp⟩
  · injection h with h; cases ra.of_str; cases rb.of_int; exact .inl ⟨rfl, by rw [← h]; simp⟩
  · exact .inr (gen h)
theorem dop_eq (hK : c.K = X.K) (hu : X.A.units + 64 < cLine) : OpR X (compareOp .Eq) (V2 c fEq) := opr_imp (op_eq.or (op_eqD hu)) fun x y H Q q => by
  obtain ⟨M, ρ, G, a, b, z, s, ra, rb, hz, q⟩ := v2_pure q
  cases hk : gEq a b with
  | none => rw [hk] at hz; cases hz
  | some k =>
    rw [hk] at hz
    injection hz with hz
    cases hz
    rcases geq_of hK hk ra rb with ⟨h1, h2⟩ | ⟨d, e, h1, h2, h3, h4, h5⟩
    · exact .inl ⟨h1, by rw [h2]; exact q _ _ same_refl .bl⟩
    · exact .inr ⟨d, e, h1, h2, h3, h4, by rw [h5]; exact q _ _ same_refl .bl⟩
theorem dop_is : OpR X (compareOp .Is) (V2 c fIs) := opr_imp op_isN fun x y H Q q => by
  obtain ⟨M, ρ, G, a, b, s, ra, rb, q⟩ := q
  unfold fIs at q
  split at q
  · rename_i d
    refine ⟨Rep.of_non rb, ?_⟩
    have e : decide (x = .non) = isNon d := by
      cases d with
      | non => cases Rep.of_non ra; rfl
      | bl b => cases Rep.of_bl ra; rfl
      | int b => cases Rep.of_int ra; rfl
      | str b => cases Rep.of_str ra; rfl
      | cls b => cases Rep.of_cls ra; rfl
      | ty b => cases Rep.of_ty ra; rfl
      | lst b => obtain ⟨_, _, rfl, _⟩ := Rep.of_lst ra; rfl
      | tup b => obtain ⟨_, _, rfl, _⟩ := Rep.of_tup ra; rfl
      | ins b c => obtain ⟨_, _, _, rfl, _⟩ := Rep.of_ins ra; rfl
    rw [e]
    exact q _ ρ H Ge.refl s Rep.bl
  · exact q.elim
theorem dop_isnot : OpR X (compareOp .IsNot) (V2 c fIsNot) := opr_imp op_notN fun x y H Q q => by
  obtain ⟨M, ρ, G, a, b, s, ra, rb, q⟩ := q
  unfold fIsNot at q
  split at q
  · rename_i d
    refine ⟨Rep.of_non rb, ?_⟩
    have e : decide (x = .non) = isNon d := by
      cases d with
      | non => cases Rep.of_non ra; rfl
      | bl b => cases Rep.of_bl ra; rfl
      | int b => cases Rep.of_int ra; rfl
      | str b => cases Rep.of_str ra; rfl
      | cls b => cases Rep.of_cls ra; rfl
      | ty b => cases Rep.of_ty ra; rfl
      | lst b => obtain ⟨_, _, rfl, _⟩ := Rep.of_lst ra; rfl
      | tup b => obtain ⟨_, _, rfl, _⟩ := Rep.of_tup ra; rfl
      | ins b c => obtain ⟨_, _, _, rfl, _⟩ := Rep.of_ins ra; rfl
    rw [e]
    exact q _ ρ H Ge.refl s Rep.bl
  · exact q.elim
theorem dun_neg : UnR X (unaryOp .USub) (V1 c fNeg) := unr_imp un_neg fun x H Q q => by
  obtain ⟨M, ρ, G, a, z, s, ra, hz, q⟩ := v1_pure q
  cases a <;> first | (cases hz; done) | skip
  injection hz with hz; cases hz
  exact ⟨_, ra.of_int, q _ _ same_refl .int⟩
theorem dun_inv : UnR X (unaryOp .Invert) (V1 c fInv) := unr_imp un_inv fun x H Q q => by
  obtain ⟨M, ρ, G, a, z, s, ra, hz, q⟩ := v1_pure q
  cases a <;> first | (cases hz; done) | skip
  injection hz with hz; cases hz
  exact ⟨_, ra.of_int, q _ _ same_refl .int⟩
end
end DL

set_option Elab.async false
set_option linter.all false
set_option maxRecDepth 100000
set_option maxHeartbeats 4000000
namespace DL
open PySem L2 PyProof.Rows

/-! ### fields by their places -/
def ixf (f : Str) : List Str → Option Nat
  | [] => none
  | g :: r => if g = f then some 0 else (ixf f r).map (· + 1)
theorem lookup_cons {f g : Str} {v : V} {r : List (Str × V)} : ((g, v) :: r).lookup f = if f = g then some v else r.lookup f := by
  by_cases h : f = g
  · subst h; simp [List.lookup]
  · have : (f == g) = false := by simpa using h
    simp [List.lookup, this, h]
theorem lookup_ix {f : Str} {i : Nat} : ∀ {nm : List Str} {gs : List (Str × V)} {i : Nat}, gs.map (·.1) = nm.take gs.length → ixf f nm = some i → gs.lookup f = (gs[i]?).map (·.2)
  | _, [], i, _, _ => by simp
  | [], (g, v) :: gs, i, _, h => by cases h
  | n :: nm, (g, v) :: gs, i, e, h => by
    simp only [List.map_cons, List.length_cons, List.take_succ_cons, List.cons.injEq] at e
    obtain ⟨rfl, e⟩ := e
    rw [lookup_cons]
    unfold ixf at h
    by_cases q : g = f
    · subst q
      rw [if_pos rfl] at h ⊢
      cases h
      rfl
    · rw [if_neg q] at h
      rw [if_neg (fun z => q z.symm)]
      cases hx : ixf f nm with
      | none => rw [hx] at h; cases h
      | some j =>
        rw [hx] at h
        cases h
        rw [lookup_ix (i := j) e hx]
        simp
theorem lookup_no {f : Str} : ∀ {nm : List Str} {gs : List (Str × V)}, gs.map (·.1) = nm.take gs.length → ixf f nm = none → gs.lookup f = none
  | _, [], _, _ => rfl
  | [], (g, v) :: gs, e, _ => by simp at e
  | n :: nm, (g, v) :: gs, e, h => by
    simp only [List.map_cons, List.length_cons, List.take_succ_cons, List.cons.injEq] at e
    obtain ⟨rfl, e⟩ := e
    rw [lookup_cons]
    unfold ixf at h
    by_cases q : g = f
    · subst q; rw [if_pos rfl] at h; cases h
    · rw [if_neg q] at h
      rw [if_neg (fun z => q z.symm)]
      exact lookup_no e (by cases hx : ixf f nm with
        | none => rfl
        | some j => rw [hx] at h; cases h)
theorem putF_set {f : Str} {v : V} : ∀ {nm : List Str} {gs : List (Str × V)} {i : Nat}, gs.map (·.1) = nm.take gs.length → ixf f nm = some i → i < gs.length → putF f v gs = gs.set i (f, v)
  | _, [], i, _, _, h => absurd h (Nat.not_lt_zero _)
  | [], (g, u) :: gs, i, _, h, _ => by cases h
  | n :: nm, (g, u) :: gs, i, e, h, hl => by
    simp only [List.map_cons, List.length_cons, List.take_succ_cons, List.cons.injEq] at e
    obtain ⟨rfl, e⟩ := e
    unfold ixf at h
    unfold putF
    by_cases q : g = f
    · subst q
      rw [if_pos rfl] at h
      cases h
      simp
    · rw [if_neg q] at h
      cases hx : ixf f nm with
      | none => rw [hx] at h; cases h
      | some j =>
        rw [hx] at h
        cases h
        have z := putF_set (v := v) (i := j) e hx (by simpa using hl)
        simp [q, fun z => q (Eq.symm z), z]
theorem putF_new {f : Str} {v : V} : ∀ {nm : List Str} {gs : List (Str × V)}, gs.map (·.1) = nm.take gs.length → ixf f nm = some gs.length → putF f v gs = gs ++ [(f, v)]
  | _, [], _, _ => rfl
  | [], (g, u) :: gs, _, h => by cases h
  | n :: nm, (g, u) :: gs, e, h => by
    simp only [List.map_cons, List.length_cons, List.take_succ_cons, List.cons.injEq] at e
    obtain ⟨rfl, e⟩ := e
    unfold ixf at h
    unfold putF
    by_cases q : g = f
    · subst q
      rw [if_pos rfl] at h
      cases h
    · rw [if_neg q] at h
      cases hx : ixf f nm with
      | none => rw [hx] at h; cases h
      | some j =>
        rw [hx] at h
        have hj : j = gs.length := by simpa using h
        subst hj
        have z := putF_new (v := v) e hx
        simp [q, fun z => q (Eq.symm z), z]
theorem ixf_at {f : Str} : ∀ {nm : List Str} {i : Nat}, ixf f nm = some i → nm[i]? = some f
  | [], i, h => by cases h
  | g :: nm, i, h => by
    unfold ixf at h
    by_cases q : g = f
    · subst q; rw [if_pos rfl] at h; cases h; rfl
    · rw [if_neg q] at h
      cases hx : ixf f nm with
      | none => rw [hx] at h; cases h
      | some j => rw [hx] at h; cases h; simpa using ixf_at hx
def fput (i : Nat) (x : D) (fs : List D) : Option (List D) := if i < fs.length then some (fs.set i x) else if i = fs.length then some (fs ++ [x]) else none
section
variable {c : RC} {M : Addr → Prop} {ρ : List Addr} {H : Hp}
theorem flds_get {k : String} {f : Str} {i : Nat} {x : D} {fs : List D} {gs : List (Str × V)} (h : Flds c M ρ H k fs gs) (hi : ixf f (c.N k) = some i) (hx : fs[i]? = some x) : ∃ v, gs.lookup f = some v ∧ Rep c M ρ H x v := by
  obtain ⟨q, hq, r⟩ := h.r.get hx
  exact ⟨q.2, by rw [lookup_ix (i := i) h.nm hi, hq]; rfl, r⟩
theorem flds_none {k : String} {f : Str} {fs : List D} {gs : List (Str × V)} (h : Flds c M ρ H k fs gs) (hi : ixf f (c.N k) = none) : gs.lookup f = none := lookup_no h.nm hi
theorem flds_len {k : String} {fs : List D} {gs : List (Str × V)} (h : Flds c M ρ H k fs gs) : gs.length = fs.length := h.r.length.symm
theorem flds_put {k : String} {f : Str} {i : Nat} {x : D} {v : V} {fs fs' : List D} {gs : List (Str × V)} (r : Rep c M ρ H x v) (h : Flds c M ρ H k fs gs) (hi : ixf f (c.N k) = some i) (hp : fput i x fs = some fs') : Flds c M ρ H k fs' (putF f v gs) := by
  have hl := flds_len h
  unfold fput at hp
  split at hp
  · rename_i h1
    cases hp
    rw [putF_set h.nm hi (by omega)]
    refine ⟨?_, All2.set (R := fun (p : D) (q : Str × V) => Rep c M ρ H p q.2) (a := x) (b := (f, v)) r i h.r⟩
    rw [List.length_set, ← h.nm, List.map_set]
    refine List.ext_getElem? fun j => ?_
    by_cases hj : i = j
    · subst hj
      have e : (gs.map (·.1))[i]? = some f := by
        rw [h.nm, List.getElem?_take, if_pos (by omega)]
        exact ixf_at hi
      rw [List.getElem?_set_self (by simpa using (by omega : i < gs.length)), e]
    · rw [List.getElem?_set_ne hj]
  · split at hp
    · rename_i h1 h2
      cases hp
      rw [putF_new h.nm (by rw [hi, h2, hl])]
      refine ⟨?_, h.r.append (.cons r .nil)⟩
      have e := ixf_at hi
      rw [List.map_append, List.length_append, h.nm]
      show _ = (c.N k).take (gs.length + 1)
      have e' : (c.N k)[gs.length]? = some f := by rw [hl, ← h2]; exact e
      rw [List.take_add_one, e']
      rfl
    · cases hp
end

/-! ### instances -/
/-- what is read off an instance of one of the classes ks -/
def kix : List (String × Nat) → String → Option Nat
  | [], _ => none
  | (k, i) :: r, k' => if k = k' then some i else kix r k'
def gFld (ks : List (String × Nat)) : D → Option D
  | .ins k fs => (kix ks k).bind fun i => fs[i]?
  | _ => none
def eFld (ks : List (String × Nat)) (m : EM) : EM := eUn (pure1 (gFld ks)) m
structure HasF (K : PySem.W.Frag) (C : String → Addr) (N : String → List Str) (f : Str) (k : String) (i : Nat) : Prop where
  cl : Cls K (C k)
  na : NoAttr K (C k) f
  ix : ixf f (N k) = some i
section
variable {X : Cx} {c : RC} {W : WX} {e o : Expr} {es : List Expr} {me mo : EM} {mr : AM} {pos p apos : Pos} {M : Addr → Prop} {ρ : List Addr} {σ : L2.St} {H : Hp} {G : GS} {env : En}
theorem de_fld {ks : List (String × Nat)} {f : Str} (hK : c.K = X.K) (h : ∀ k i, kix ks k = some i → HasF X.K c.C c.N f k i) (he : DE X c W e me) (hb : attributeBase e f X.env (eval e X.env) = eval e X.env := by rfl) :
    DE X c W (.Attribute e f pos) (eFld ks me) := by
  refine pe_imp (pe_fld he hb) fun σ H Q q => ?_
  obtain ⟨M, ρ, G, env, R, q⟩ := q
  refine ⟨M, ρ, G, env, R, (TQ.bind (R := RE c) q).imp fun v H1 ⟨ρ1, G1, e1, g1, s1, r1, q1⟩ => ?_⟩
  obtain ⟨M, ρ, G, a, z, s, ra, hz, q⟩ := v1_pure (⟨M, ρ1, G1, e1, s1, r1, VQ.of q1⟩ : V1 c (pure1 (gFld ks)) v H1 Q)
  cases a <;> first | (cases hz; done) | skip
  rename_i k fs
  dsimp only [gFld] at hz
  cases hk : kix ks k with
  | none => rw [hk] at hz; cases hz
  | some i =>
    rw [hk] at hz
    obtain ⟨a, dx, gs, rfl, z, e2, fl⟩ := ra.of_ins
    obtain ⟨v, hv, rv⟩ := flds_get fl (h k i hk).ix hz
    exact ⟨a, c.C k, dx, gs, v, rfl, e2, (h k i hk).cl, (h k i hk).na, hv, q _ _ same_refl rv⟩
/-- self.f = e in an __init__ -/
def sFld (i : Nat) (k : String) (ix : Nat) (m : EM) : SM := fun env G => ofE (m env G) env fun e G1 => match e, env[i]? with
  | .d x, some (.own (.ins k' fs)) => if k' = k ∧ fs.length < 900 then (match fput ix x fs with
    | some fs' => .nx (env.set i (.own (.ins k fs'))) G1
    | none => .st) else .st
  | _, _ => .st
theorem env_set {i : Nat} {s : Sl} {sl : Sl} {j : Nat} {env : En} (e : (env.set i s)[j]? = some sl) : (j = i ∧ sl = s) ∨ (j ≠ i ∧ env[j]? = some sl) := by
  by_cases hj : j = i
  · subst hj
    have hl : j < env.length := by
      have := (List.getElem?_eq_some_iff.mp e).1
      rwa [List.length_set] at this
    rw [List.getElem?_set_self hl] at e
    exact .inl ⟨rfl, (Option.some.inj e).symm⟩
  · rw [List.getElem?_set_ne (Ne.symm hj)] at e
    exact .inr ⟨hj, e⟩
/-- the frame's own instance is written -/
theorem gr_own {a : Addr} {o : HO} {u : HO} (hm : M a) (e : H a = some u) : Gr M ρ H M ρ (upd H a o) :=
  ⟨fun b w q n m => by rw [upd_ne (fun z => m (by rw [z]; exact hm))]; exact q, fun b w q => by
    by_cases h : b = a
    · subst h; exact ⟨o, upd_same⟩
    · exact ⟨w, by rw [upd_ne h]; exact q⟩, ⟨[], by simp, by simp⟩, fun _ h => .inl h⟩
theorem SR.own {a : Addr} {o u : HO} (s : SR c M ρ G H) (hm : M a) (e : H a = some u) : SR c M ρ G (upd H a o) := by
  have ne : ∀ b, b ∈ ρ → b ≠ a := fun b hb z => (s.sep b hb).2 (by rw [z]; exact hm)
  refine ⟨s.len, s.nd, s.sep, fun i xs e1 => ?_, fun b m => ?_, fun b m => ?_⟩
  · obtain ⟨b, vs, p, q, r⟩ := s.at_ i xs e1
    exact ⟨b, vs, p, by rw [upd_ne (ne b (List.mem_of_getElem? p))]; exact q, repEs_grow r (gr_own hm e)⟩
  · by_cases h : b = a
    · subst h; rw [upd_same]; simp
    · rw [upd_ne h]; exact s.mt b m
  · by_cases h : b = a
    · subst h; rw [upd_same]; simp
    · rw [upd_ne h]; exact s.bt b m
theorem ds_fld {i ix : Nat} {x f : Str} {k : String} {p' p'' : Pos} (h : HasF X.K c.C c.N f k ix) (hv : PE X (.Name x p'') (tVar i)) (he : DE X c W e me)
    (hs : swapsWith e (some (.Attribute (.Name x p'') f p')) pos.line X.env = pure false := by rfl) : DS X c W (.Assign [.Attribute (.Name x p'') f p'] e pos) (sFld i k ix me) := by
  refine ps_imp (ps_fld hv he hs) fun Dn σ H q => ?_
  obtain ⟨M, ρ, G, env, R, q⟩ := q
  refine ⟨M, ρ, G, env, R, (SQ.ofE (R := RE c) R q).imp fun v H1 ⟨ρ1, G1, e1, g1, R1, r1, q1⟩ => ?_⟩
  split at q1
  · rename_i x k' fs hi
    split at q1
    · rename_i hk
      obtain ⟨rfl, hl⟩ := hk
      split at q1
      rotate_left
      · exact q1.elim
      rename_i fs' hp
      obtain ⟨oa, h1, h2⟩ := R1.e
      obtain ⟨hσ, ho, hm, dx, gs, hH, fl⟩ := h1 i _ hi
      have gw := gr_own (ρ := ρ1) (o := .ins (c.C k') dx (putF f v gs)) hm hH
      refine ⟨_, hσ, c.s, c.C k', dx, gs, rfl, hH, h.cl, h.na, by rw [flds_len fl]; omega, q1 M ρ1 σ _ gw ⟨R1.s.own hm hH, by simpa using R1.len, oa, fun j sl e => ?_, fun j j2 o u e1 e2 e3 => ?_⟩⟩
      · rcases env_set e with ⟨rfl, rfl⟩ | ⟨hj, e⟩
        · exact ⟨hσ, ho, hm, dx, _, upd_same, flds_grow (flds_put r1 fl h.ix hp) gw⟩
        · have hq := h1 j sl e
          match sl, hq with
          | .no, _ => trivial
          | .ev e, ⟨v, a, b⟩ => exact ⟨v, a, b.grow gw⟩
          | .own (.lst xs), ⟨a, b, vs, d, r⟩ =>
            have ne : oa j ≠ c.s := fun z => hj (h2 j i _ _ e hi (z.trans ho.symm))
            exact ⟨a, b, vs, by rw [upd_ne ne]; exact d, reps_grow r gw⟩
          | .own (.ins k2 f2), ⟨a, o2, b⟩ => exact absurd (h2 j i _ _ e hi (o2.trans ho.symm)) hj
          | .exn k2 f2, ⟨a, b⟩ => exact ⟨a, b.grow gw⟩
      · rcases env_set e1 with ⟨h5, _⟩ | ⟨_, f1⟩
        · rcases env_set e2 with ⟨h6, _⟩ | ⟨_, f2⟩
          · rw [h5, h6]
          · rw [h5] at e3 ⊢; exact h2 i j2 _ _ hi f2 e3
        · rcases env_set e2 with ⟨h6, _⟩ | ⟨_, f2⟩
          · rw [h6] at e3 ⊢; exact h2 j i _ _ f1 hi e3
          · exact h2 j j2 _ _ f1 f2 e3
    · exact q1.elim
  · exact q1.elim
end

/-! ### making an instance -/
/-- an __init__: from the arguments behind self the fields -/
abbrev IM := List EV → GS → Out (List D)
def SpI (K : PySem.W.Frag) (C : String → Addr) (N : String → List Str) (k : String) (n : Ar) (g : IM) : Sp := fun vs H Q E => ∃ (x : Addr) (rest : List V), vs = .ref x :: rest ∧ n rest.length = true ∧ ∃ (B : Addr → Prop) (ρ : List Addr) (G : GS) (es : List EV) (dx : Addr),
  SR ⟨K, C, N, B, x, 0⟩ (· = x) ρ G H ∧ All2 (RepE ⟨K, C, N, B, x, 0⟩ (· = x) ρ H) es rest ∧ H x = some (.ins (C k) dx []) ∧ ¬ B x ∧
  (match g es G with
  | .ok fs G' => ∀ dy gs ρ' H', Gr (· = x) ρ H nM ρ' H' → SR ⟨K, C, N, B, x, 0⟩ nM ρ' G' H' → H' x = some (.ins (C k) dy gs) → Flds ⟨K, C, N, B, x, 0⟩ nM ρ' H' k fs gs → Q .non H'
  | .er cl fs G' => ∀ dd gs ρ' H', Gr (· = x) ρ H nM ρ' H' → SR ⟨K, C, N, B, x, 0⟩ nM ρ' G' H' → H' dd = some (.xd gs) → Flds ⟨K, C, N, B, x, 0⟩ nM ρ' H' cl fs gs → E (.ref (C cl)) (some dd) H'
  | .st => False)
abbrev FnI (P : Program) (w : World) (K : PySem.W.Frag) (mg : Str → Option Value) (base : Heap) (C : String → Addr) (N : String → List Str) (c : Nat) (f : Addr) (k : String) (n : Ar) (g : IM) : Prop := FnR P w K mg base (L2N.CX P w) c f (SpI K C N k n g)
def envI (n : Nat) (k : String) (es : List EV) : En := Sl.own (.ins k []) :: (es.map Sl.ev ++ List.replicate (n - 1 - es.length) Sl.no)
def retI (k : String) (o : OutS) : Out (List D) := match o with
  | .nx env G => match (env[0]? : Option Sl) with
    | some (Sl.own (OW.ins k' fs)) => if k' = k then .ok fs G else .st
    | _ => .st
  | .er c fs _ G => .er c fs G
  | _ => .st
def runI (n : Nat) (k : String) (m : SM) : IM := fun es G => retI k (m (envI n k es) G)
end DL

set_option Elab.async false
set_option linter.all false
set_option maxRecDepth 100000
set_option maxHeartbeats 4000000
namespace DL
open PySem L2 PyProof.Rows StX

section
variable {P : Program} {w : World} {K : PySem.W.Frag} {mg : Str → Option Value} {base : Heap} {C : String → Addr} {N : String → List Str}
theorem rl_init {c : RC} {ρ : List Addr} {G : GS} {es : List EV} {vs : List V} {H : Hp} {Nm : List Str} {k : String} {dx : Addr} (s : SR c (· = c.s) ρ G H) (r : All2 (RepE c (· = c.s) ρ H) es vs) (hx : H c.s = some (.ins (c.C k) dx [])) (hl : vs.length + 1 ≤ Nm.length) :
    Rl c (· = c.s) ρ G (envI Nm.length k es) (L2.start Nm (.ref c.s :: vs)) H := by
  have ev0 : ∀ (i : Nat) (sl : Sl), (envI Nm.length k es)[i]? = some sl → (i = 0 ∧ sl = .own (.ins k [])) ∨ (∃ j, i = j + 1 ∧ ((∃ x, es[j]? = some x ∧ sl = .ev x) ∨ sl = .no)) := fun i sl e => by
    unfold envI at e
    cases i with
    | zero => exact .inl ⟨rfl, (Option.some.inj e).symm⟩
    | succ j =>
      refine .inr ⟨j, rfl, ?_⟩
      rw [List.getElem?_cons_succ] at e
      by_cases hi : j < es.length
      · rw [List.getElem?_append_left (by simpa using hi), List.getElem?_map] at e
        cases q : es[j]? with
        | none => rw [q] at e; cases e
        | some x => rw [q] at e; exact .inl ⟨x, rfl, (Option.some.inj e).symm⟩
      · rw [List.getElem?_append_right (by simpa using hi)] at e
        exact .inr (List.eq_of_mem_replicate (List.mem_of_getElem? e))
  have hll := r.length
  refine ⟨s, by unfold envI L2.start; simp; omega, fun _ => c.s, fun i sl e => ?_, fun i j o u e1 e2 _ => ?_⟩
  · rcases ev0 i sl e with ⟨rfl, rfl⟩ | ⟨j, rfl, ⟨x, q, rfl⟩ | rfl⟩
    · exact ⟨rfl, rfl, rfl, dx, [], hx, ⟨by simp, .nil⟩⟩
    · obtain ⟨v, hv, rv⟩ := r.get q
      refine ⟨v, ?_, rv⟩
      unfold L2.start
      rw [List.getElem?_append_left (by simpa using (List.getElem?_eq_some_iff.mp hv).1), List.getElem?_map, List.getElem?_cons_succ, hv]
      rfl
    · trivial
  · rcases ev0 i _ e1 with ⟨h1, _⟩ | ⟨_, _, ⟨x, _, z⟩ | z⟩
    · rcases ev0 j _ e2 with ⟨h2, _⟩ | ⟨_, _, ⟨x, _, z⟩ | z⟩
      · rw [h1, h2]
      · cases z
      · cases z
    · cases z
    · cases z
/-- what an __init__'s body gives -/
def IQ (c : RC) (E : XK) (k : String) (ρ : List Addr) (H : Hp) (o : Out (List D)) (Q : VK) : Prop := match o with
  | .ok fs G' => ∀ dx gs ρ' H', Gr (· = c.s) ρ H nM ρ' H' → SR c nM ρ' G' H' → H' c.s = some (.ins (c.C k) dx gs) → Flds c nM ρ' H' k fs gs → Q .non H'
  | .er cl fs G' => ∀ dd gs ρ' H', Gr (· = c.s) ρ H nM ρ' H' → SR c nM ρ' G' H' → H' dd = some (.xd gs) → Flds c nM ρ' H' cl fs gs → E (.ref (c.C cl)) (some dd) H'
  | .st => False
theorem Gr.nm {M M' : Addr → Prop} {ρ ρ' : List Addr} {H H' : Hp} (g : Gr M ρ H M' ρ' H') : Gr M ρ H nM ρ' H' := ⟨g.keep, g.there, g.grow, fun _ z => z.elim⟩
theorem sq_init {c : RC} {E : XK} {k : String} {ρ : List Addr} {H : Hp} {o : OutS} {Q : VK} (h : IQ c E k ρ H (retI k o) Q) : SQ c (fun cls d _ H => E cls d H) (· = c.s) ρ H o { nx := fun _ H' => Q .non H', rt := Q } := by
  cases o with
  | nx env G =>
    intro M' ρ' σ' H' g R
    unfold retI at h
    dsimp only at h
    split at h
    · rename_i k' fs he
      split at h
      · rename_i hk
        subst hk
        obtain ⟨oa, h1, _⟩ := R.e
        obtain ⟨_, _, _, dx, gs, hH, fl⟩ := h1 0 _ he
        exact h dx gs ρ' H' g.nm R.s.drop hH (flds_cv cv_drop fl)
      · exact h.elim
    · exact h.elim
  | rt e G => exact (show False from h).elim
  | er cl fs e G => exact fun M' ρ' σ' H' dd gs g R e f => h dd gs ρ' H' g.nm R.s.drop e (flds_cv cv_drop f)
  | bk e G => exact (show False from h).elim
  | ct e G => exact (show False from h).elim
  | st => exact h
theorem fni_of {x qual s1 : Str} {st : Stmt} {f : Addr} {fd : FuncData} {Nm ps : List Str} {k : Nat} {cl : String} {m : SM} (F : Fun K x qual st f fd) (S : FnScope Nm (s1 :: ps) (defScope st)) (bd : Binds K fd (s1 :: ps) [])
    (hb : ∀ (cdv : Value) (A : Around) (outer : List Env) (s : Shared) (H : Hp) (E : XK) (B : Addr → Prop) (x : Addr), Room k (A.deeper (envOfC qual (defScope st) s.heap.objs.size f cdv)) →
      DSs (cxOf (L2N.CX P w) P w K mg base Nm qual (defScope st) f cdv A outer s H E) ⟨K, C, N, B, x, 0⟩ (fun cls d _ H => E cls d H) (defBody st) m) : FnI P w K mg base C N (k + 1) f cl (arN ps.length) (runI Nm.length cl m) := by
  have hlN : (s1 :: ps).length ≤ Nm.length := by have := congrArg List.length S.pre; rw [List.length_take] at this; omega
  have G : FnOk P w K mg base (L2N.CX P w) (k + 1) f fd (s1 :: ps) (SpI K C N cl (arN ps.length) (runI Nm.length cl m)) := by
    obtain ⟨oc, od, kV, doc, pm, an, cdv, ct, osl, rfl, lk, hcd⟩ := F.ex
    refine fn_of lk hcd S (fun vs H Q E ⟨x, rest, e, hl, _⟩ => by rw [e]; simpa [arN] using hl) fun A outer s H vs Q E hr hsp => ?_
    obtain ⟨x, rest, rfl, hl, B, ρ, G, es, dx, s0, r, hx, hB, q⟩ := hsp
    have hl' : rest.length = ps.length := by simpa [arN] using hl
    refine ⟨_, hb cdv A outer s H E B x hr, (· = x), ρ, G, envI Nm.length cl es, rl_init (c := ⟨K, C, N, B, x, 0⟩) (Nm := Nm) s0 r hx (by rw [hl']; exact hlN), ?_⟩
    refine sq_init (c := ⟨K, C, N, B, x, 0⟩) (k := cl) ?_
    unfold IQ
    unfold runI at q
    cases ho : retI cl (m (envI Nm.length cl es) G) with
    | ok fs G' => rw [ho] at q; exact q
    | er c2 fs G' => rw [ho] at q; exact q
    | st => rw [ho] at q; exact q
  exact FnR.imp (G.raw bd .nil) fun vs H Q E h => by rw [List.append_nil]; exact h
end

/-! ### stars -/
/-- def f(a, .., *v): the arguments behind the first k as one tuple -/
def starA (k : Nat) (es : List EV) : Option (List EV) := (datas (es.drop k)).bind fun ds => if ds.length ≤ 1000 then some (es.take k ++ [.d (.tup ds)]) else none
def arS (k : Nat) : Ar := fun m => decide (k ≤ m)
def starF (k : Nat) (g : FM) : FM := fun es G => match starA k es with
  | some es' => g es' G
  | none => .st
def starI (k : Nat) (g : IM) : IM := fun es G => match starA k es with
  | some es' => g es' G
  | none => .st
section
variable {c : RC} {M : Addr → Prop} {ρ : List Addr} {H : Hp} {G : GS}
theorem all2_take {α β : Type} {R : α → β → Prop} : ∀ (n : Nat) {as : List α} {bs : List β}, All2 R as bs → All2 R (as.take n) (bs.take n)
  | 0, _, _, _ => by simp; exact .nil
  | n + 1, _, _, .nil => .nil
  | n + 1, _, _, .cons r t => .cons r (all2_take n t)
theorem all2_drop {α β : Type} {R : α → β → Prop} : ∀ (n : Nat) {as : List α} {bs : List β}, All2 R as bs → All2 R (as.drop n) (bs.drop n)
  | 0, _, _, h => h
  | n + 1, _, _, .nil => .nil
  | n + 1, _, _, .cons r t => all2_drop n t
/-- the new tuple -/
theorem star_new {es es' : List EV} {vs : List V} {k : Nat} {p : Addr} (s : SR c M ρ G H) (r : All2 (RepE c M ρ H) es vs) (h : starA k es = some es') (hp : H p = none) : (vs.drop k).length ≤ sizeLine ∧ SR c M ρ G (upd H p (.tup (vs.drop k))) ∧ All2 (RepE c M ρ (upd H p (.tup (vs.drop k)))) es' (vs.take k ++ [V.ref p]) ∧ es'.length = (es.take k).length + 1 := by
  unfold starA at h
  cases hd : datas (es.drop k) with
  | none => rw [hd] at h; cases h
  | some ds =>
    rw [hd] at h
    dsimp only [Option.bind] at h
    split at h
    · rename_i hl
      injection h with h
      subst h
      have rr := datas_rep hd (all2_drop k r)
      have sm : Same H (upd H p (.tup (vs.drop k))) := same_upd hp
      refine ⟨by rw [← rr.length]; exact Nat.le_trans hl (by decide), s.same sm, ?_, by simp⟩
      refine All2.append (repEs_grow (all2_take k r) (Gr.same sm)) (.cons ?_ .nil)
      exact Rep.tup (.inl ⟨(s.fresh hp), .inl upd_same⟩) (reps_grow rr (Gr.same sm))
    · cases h
end
section
variable {P : Program} {w : World} {K : PySem.W.Frag} {mg : Str → Option Value} {base : Heap} {C : String → Addr} {N : String → List Str}
theorem cxUpN {P : Program} {w : World} : CXUp (L2N.CX P w) := by
  intro outer s H s2 H2 E e s' un kp ho z
  obtain ⟨a, B, H', cls, d, ea, fl, hok, ub, na, os, rest⟩ := z
  have fr : ∀ b o, s.heap.get? b = some o → H b = Option.none → H2 b = Option.none := fun b o q n => un.free b o q n (by simp)
  refine ⟨a, B, H', cls, d, ea, fl, hok, ?_, na, os.trans ho, rest⟩
  constructor
  case keep => exact fun b o q n => ub.keep b o (kp b o q) (fr b o q n)
  case slot => exact fun b o q => ub.slot b o (kp b o q)
  case free => exact fun b o q n => ub.free b o (kp b o q) (fr b o q n)
  case there => exact fun b o q => ub.there b o (kp b o q)
  case tups => exact fun b xs q => ub.tups b xs (un.tups b xs q)
  case frzs => exact fun b o xs q => ub.frzs b o xs (un.frzs b o xs q)
  case tbls =>
    intro b ps q
    rcases un.tbls b ps q with ⟨m, e⟩
    rcases ub.tbls b (ps ++ m) e with ⟨m', e'⟩
    exact ⟨m ++ m', by simpa using e'⟩
/-- how a def with a star binds -/
def BindS (fd : FuncData) (ps : List Str) (pv : Str) : Prop := ∀ us rest : List Value, us.length = ps.length → bindArgs fd ⟨us ++ rest, []⟩ = (newTuple rest >>= fun t => pure (ps.zip us ++ [(pv, t)]))
theorem fng_star {x qual pv : Str} {st : Stmt} {f : Addr} {fd : FuncData} {Nm ps : List Str} {k : Nat} {m : SM} (F : Fun K x qual st f fd) (S : FnScope Nm (ps ++ [pv]) (defScope st)) (bd : BindS fd ps pv)
    (hb : ∀ (cdv : Value) (A : Around) (outer : List Env) (s : Shared) (H : Hp) (E : XK) (B : Addr → Prop), Room k (A.deeper (envOfC qual (defScope st) s.heap.objs.size f cdv)) →
      DSs (cxOf (L2N.CX P w) P w K mg base Nm qual (defScope st) f cdv A outer s H E) ⟨K, C, N, B, 0, 0⟩ (fun cls d _ H => E cls d H) (defBody st) m) : FnG P w K mg base C N (k + 1) f (arS ps.length) (starF ps.length (runB Nm.length m)) := by
  have hlN : (ps ++ [pv]).length ≤ Nm.length := by have := congrArg List.length S.pre; rw [List.length_take] at this; omega
  obtain ⟨oc, od, kV, doc, pm, an, cdv, ct, osl, rfl, lk, hcd⟩ := F.ex
  refine FnR.imp (fn_star (sp := Spd K C N (arN (ps.length + 1)) (runB Nm.length m)) lk hcd S cxUpN bd fun A outer s H vs Q E hr hsp => ?_) fun vs H Q E h => ?_
  · obtain ⟨hl, B, ρ, G, es, s0, r, q⟩ := hsp
    have hl' : vs.length = ps.length + 1 := by simpa [arN] using hl
    exact ⟨_, hb cdv A outer s H E B hr, nM, ρ, G, _, rl_start s0 r (by rw [hl']; simpa using hlN), sq_of q⟩
  · obtain ⟨hl, B, ρ, G, es, s0, r, q⟩ := h
    have hl' : ps.length ≤ vs.length := by simpa [arS] using hl
    unfold starF at q
    split at q
    · rename_i es' he
      refine ⟨vs.take ps.length, vs.drop ps.length, (List.take_append_drop _ _).symm, by simp [hl'], ?_, fun p hp => ?_⟩
      · unfold starA at he
        cases hd : datas (es.drop ps.length) with
        | none => rw [hd] at he; cases he
        | some ds =>
          rw [hd] at he
          dsimp only [Option.bind] at he
          split at he
          · rename_i hz
            rw [← (datas_rep hd (all2_drop ps.length r)).length]; exact Nat.le_trans hz (by decide)
          · cases he
      · obtain ⟨_, s1, r1, l1⟩ := star_new s0 r he hp
        refine ⟨by simp [arN, hl'], B, ρ, G, es', s1, r1, TQ.grow q (Ge.same (same_upd hp))⟩
    · exact q.elim
theorem fni_star {x qual s1 pv : Str} {st : Stmt} {f : Addr} {fd : FuncData} {Nm ps : List Str} {k : Nat} {cl : String} {m : SM} (F : Fun K x qual st f fd) (S : FnScope Nm ((s1 :: ps) ++ [pv]) (defScope st)) (bd : BindS fd (s1 :: ps) pv)
    (hb : ∀ (cdv : Value) (A : Around) (outer : List Env) (s : Shared) (H : Hp) (E : XK) (B : Addr → Prop) (x : Addr), Room k (A.deeper (envOfC qual (defScope st) s.heap.objs.size f cdv)) →
      DSs (cxOf (L2N.CX P w) P w K mg base Nm qual (defScope st) f cdv A outer s H E) ⟨K, C, N, B, x, 0⟩ (fun cls d _ H => E cls d H) (defBody st) m) : FnI P w K mg base C N (k + 1) f cl (arS ps.length) (starI ps.length (runI Nm.length cl m)) := by
  have hlN : ((s1 :: ps) ++ [pv]).length ≤ Nm.length := by have := congrArg List.length S.pre; rw [List.length_take] at this; omega
  obtain ⟨oc, od, kV, doc, pm, an, cdv, ct, osl, rfl, lk, hcd⟩ := F.ex
  refine FnR.imp (fn_star (sp := SpI K C N cl (arN (ps.length + 1)) (runI Nm.length cl m)) lk hcd S cxUpN bd fun A outer s H vs Q E hr hsp => ?_) fun vs H Q E h => ?_
  · obtain ⟨x, rest, rfl, hl, B, ρ, G, es, dx, s0, r, hx, hB, q⟩ := hsp
    have hl' : rest.length = ps.length + 1 := by simpa [arN] using hl
    refine ⟨_, hb cdv A outer s H E B x hr, (· = x), ρ, G, envI Nm.length cl es, rl_init (c := ⟨K, C, N, B, x, 0⟩) (Nm := Nm) s0 r hx (by rw [hl']; simpa using hlN), ?_⟩
    refine sq_init (c := ⟨K, C, N, B, x, 0⟩) (k := cl) ?_
    unfold IQ
    unfold runI at q
    cases ho : retI cl (m (envI Nm.length cl es) G) with
    | ok fs G' => rw [ho] at q; exact q
    | er c2 fs G' => rw [ho] at q; exact q
    | st => rw [ho] at q; exact q
  · obtain ⟨x, rest, rfl, hl, B, ρ, G, es, dx, s0, r, hx, hB, q⟩ := h
    have hl' : ps.length ≤ rest.length := by simpa [arS] using hl
    unfold starI at q
    cases he : starA ps.length es with
    | none => rw [he] at q; exact q.elim
    | some es' =>
      rw [he] at q
      dsimp only at q
      have hz : (rest.drop ps.length).length ≤ sizeLine := by
        unfold starA at he
        cases hd : datas (es.drop ps.length) with
        | none => rw [hd] at he; cases he
        | some ds =>
          rw [hd] at he
          dsimp only [Option.bind] at he
          split at he
          · rename_i hz
            rw [← (datas_rep hd (all2_drop ps.length r)).length]; exact Nat.le_trans hz (by decide)
          · cases he
      refine ⟨V.ref x :: rest.take ps.length, rest.drop ps.length, by simp, by simp [hl'], hz, fun p hp => ?_⟩
      obtain ⟨_, s2, r1, l1⟩ := star_new s0 r he hp
      have sm : Same H (upd H p (.tup (rest.drop ps.length))) := same_upd hp
      have gs : Gr (· = x) ρ H (· = x) ρ (upd H p (.tup (rest.drop ps.length))) := Gr.same sm
      refine ⟨x, rest.take ps.length ++ [V.ref p], by simp, by simp [arN, hl'], B, ρ, G, es', dx, s2, r1, sm _ _ hx, hB, ?_⟩
      cases ho : runI Nm.length cl m es' G with
      | ok fs G' => rw [ho] at q; exact fun dy gs' ρ' H' g s hy f => q dy gs' ρ' H' (gs.trans g) s hy f
      | er c2 fs G' => rw [ho] at q; exact fun dd gs' ρ' H' g s hy f => q dd gs' ρ' H' (gs.trans g) s hy f
      | st => rw [ho] at q; exact q
end
end DL

set_option Elab.async false
set_option linter.all false
set_option maxRecDepth 100000
set_option maxHeartbeats 4000000
namespace DL
open PySem L2 PyProof.Rows StX ClX

def mkO (cl : String) : Out (List D) → Out EV
  | .ok fs G => .ok (.d (.ins cl fs)) G
  | .er c fs G => .er c fs G
  | .st => .st
def eMake (cl : String) (A : Ar) (g : IM) (r : AM) : EM := fun env G => (r env G).bind fun xs G1 => if A xs.length = true then mkO cl (g xs G1) else .st
section
variable {X : Cx} {c : RC} {W : WX} {e o : Expr} {es : List Expr} {me mo : EM} {mr : AM} {pos p apos : Pos} {M : Addr → Prop} {ρ : List Addr} {σ : L2.St} {H : Hp} {G : GS} {env : En}
theorem spi_of {cl : String} {A : Ar} {g : IM} {es1 : List EV} {vs : List V} {G1 : GS} {Q : VK} {x dx : Addr} (s1 : SR c M ρ G1 H) (r1 : All2 (RepE c M ρ H) es1 vs) (q1 : TQ (RE c) c W M ρ σ H (if A es1.length = true then mkO cl (g es1 G1) else .st) Q)
    (hx : H x = none) (hd : H dx = none) (hne : dx ≠ x) : SpI c.K c.C c.N cl A g (.ref x :: vs) (upd (upd H dx (.own x)) x (.ins (c.C cl) dx [])) (fun v H2 => v = .non ∧ Q (.ref x) H2) (WE W σ) := by
  split at q1
  · rename_i hl
    have sm : Same H (upd (upd H dx (.own x)) x (.ins (c.C cl) dx [])) := fun b o q => by
      rw [upd_ne (ne_of_none q hx), upd_ne (ne_of_none q hd)]
      exact q
    have g0 : Gr nM ρ H (· = x) ρ (upd (upd H dx (.own x)) x (.ins (c.C cl) dx [])) := ⟨fun a o q _ _ => sm a o q, fun a o q => ⟨o, sm a o q⟩, ⟨[], by simp, by simp⟩, fun a e => .inr (by rw [e]; exact hx)⟩
    have fx := s1.fresh hx
    have v1 : Cv (sub c M) (· = x) ⟨c.K, c.C, c.N, fun a => c.B a ∨ M a, x, 0⟩ (· = x) ρ := ⟨rfl, rfl, rfl, fun _ h => h⟩
    have v2 : ∀ ρ', Cv (⟨c.K, c.C, c.N, fun a => c.B a ∨ M a, x, 0⟩ : RC) nM c M ρ' := fun ρ' => ⟨rfl, rfl, rfl, fun a h => ⟨fun z => h.1 (.inl z), fun z => h.1 (.inr z), h.2.2⟩⟩
    have back : ∀ {ρ' : List Addr} {H' : Hp}, Gr (· = x) ρ (upd (upd H dx (.own x)) x (.ins (c.C cl) dx [])) nM ρ' H' → Ge M ρ H ρ' H' ∧ x ∉ ρ' := fun {ρ' H'} g => by
      obtain ⟨ext, e1, e2⟩ := g.grow
      refine ⟨⟨fun a o q n => g.keep a o (sm a o q) n (ne_of_none q hx), fun a o q => g.there a o (sm a o q), ext, e1, fun a ha => ?_⟩, ?_⟩
      · have z := e2 a ha
        cases q : H a with
        | none => rfl
        | some o => rw [sm a o q] at z; cases z
      · rw [e1]; intro z
        rcases List.mem_append.mp z with z | z
        · exact fx.2.2 z
        · have := e2 x z; rw [upd_same] at this; cases this
    have srb : ∀ {ρ' : List Addr} {G' : GS} {H' : Hp}, SR (⟨c.K, c.C, c.N, fun a => c.B a ∨ M a, x, 0⟩ : RC) nM ρ' G' H' → SR c M ρ' G' H' := fun s =>
      s.cv (v2 _) (fun a h => ⟨fun z => (s.sep a h).1 (.inl z), fun z => (s.sep a h).1 (.inr z)⟩) (fun a z => s.bt a (.inr z)) fun a z => s.bt a (.inl z)
    refine ⟨x, vs, rfl, by rw [← r1.length]; exact hl, fun a => c.B a ∨ M a, ρ, G1, es1, dx, ?_, repEs_cv v1 (repEs_grow (repEs_cv cv_in r1) g0), upd_same, fun z => z.elim fx.1 fx.2.1, ?_⟩
    · have s2 : SR c M ρ G1 (upd (upd H dx (.own x)) x (.ins (c.C cl) dx [])) := s1.same sm
      refine ⟨s2.len, s2.nd, fun a h => ⟨fun z => z.elim (s2.sep a h).1 (s2.sep a h).2, fun z => fx.2.2 (by rw [← z]; exact h)⟩, fun i xs e => ?_, fun a z => by rw [z, upd_same]; simp, fun a z => z.elim (s2.bt a) (s2.mt a)⟩
      obtain ⟨a, us, h1, h2, h3⟩ := s1.at_ i xs e
      exact ⟨a, us, h1, sm _ _ h2, repEs_cv v1 (repEs_grow (repEs_cv cv_in h3) g0)⟩
    · cases ho : g es1 G1 with
      | ok fs G' =>
        rw [ho] at q1
        intro dy gs ρ' H' g s hy fl
        obtain ⟨ge, nx⟩ := back g
        exact ⟨rfl, q1 (.ref x) ρ' H' ge (srb s) (Rep.ins ⟨fx.1, fx.2.1, nx⟩ hy (flds_cv (v2 _) fl))⟩
      | er c2 fs G' =>
        rw [ho] at q1
        intro dd gs ρ' H' g s hy fl
        exact q1 dd gs ρ' H' (back g).1 (srb s) hy (flds_cv (v2 _) fl)
      | st => rw [ho] at q1; exact q1.elim
  · exact q1.elim
/-- an instance is made and its __init__ run, where what that lets out passes at this very state -/
theorem run_makeA {CX : CXT} {k : Nat} {f C : Addr} {sp : Sp} {E : XK} {Q : VK} {s : Shared} {pins : List (Addr × Obj)} {vs : List V} {us : List Value}
    (M : Mk X.K C f) (F : FnR X.prog X.w X.K X.mg X.base CX k f sp) (hr : Room (k + 1) X.A) (hx : PassesAt CX X σ E) (I : Inv X pins σ H s) (r : Vals vs us)
    (h : ∀ x dx, H x = Option.none → H dx = Option.none → dx ≠ x →
      sp (V.ref x :: vs) (upd (upd H dx (.own x)) x (.ins C dx [])) (fun v H2 => v = .non ∧ Q (.ref x) H2) E) :
    wpAny (model X.prog X.w) X.A (call (.ref C) us) (EP X pins σ Q) X.xe s := by
  let n := s.heap.objs.size
  have f0 : H n = Option.none := I.hok.fresh (Nat.le_refl n)
  have f1 : H (n + 1) = Option.none := I.hok.fresh (Nat.le_succ n)
  have q := h (n + 1) n f1 f0 (Nat.ne_of_lt n.lt_succ_self)
  have J := Inv.made (C := C) I
  have ra : Vals (V.ref (n + 1) :: vs) (Value.ref (n + 1) :: us) := .cons rfl r
  have z := F _ X.stack _ _ (Value.ref (n + 1) :: us) _ _ E (hr.make C us []) (J.env0.make C us []) ra q
  refine wpAny_call (make_map (f := f) I.kIn M.makes M.init (beq_iff_eq.mp M.fn) (codeAny_mono z fun res s' y => ?_))
  match res, y with
  | .error e, y => exact hx pins _ _ e s' J y
  | .ok (.ret u), y =>
    rcases J.after y with ⟨v, H3, J3, rv, hv, q3⟩
    cases hv
    exact ⟨rv, V.ref (n + 1), H3, J3, rfl, q3⟩
  | .ok .next, y => exact y.elim
  | .ok .brk, y => exact y.elim
  | .ok .cont, y => exact y.elim
variable {x : Str} {cl : String} {A : Ar} {g : IM} {k : Nat} {f : Addr}
theorem tda_make (h : tD c W (eMake cl A g mr) σ H Q) : tDA c W mr σ H fun vs H1 => ∀ x dx, H1 x = Option.none → H1 dx = Option.none → dx ≠ x → SpI c.K c.C c.N cl A g (V.ref x :: vs) (upd (upd H1 dx (.own x)) x (.ins (c.C cl) dx [])) (fun v H2 => v = .non ∧ Q (.ref x) H2) (WE W σ) := by
  obtain ⟨M, ρ, G, env, R, q⟩ := h
  exact ⟨M, ρ, G, env, R, (TQ.bind (R := RA c) q).imp fun v H1 ⟨ρ1, G1, e1, g1, s1, r1, q1⟩ x dx hx hd hne => spi_of s1 r1 q1 hx hd hne⟩
theorem de_make (Mc : Mk X.K (c.C cl) f) (F : FnI X.prog X.w X.K X.mg X.base c.C c.N k f cl A g) (hK : c.K = X.K) (hr : Room (k + 1) X.A) (hg : Gl X x) (hm : X.mg x = some (.ref (c.C cl))) (tk : L2N.Takes X W) (ha : DA X c W (e :: es) mr)
    (hdb : (x == ("__debug__" : Str)) = false := by decide) (he : starEach (e :: es) X.env = (false, eval e X.env) :: starEach es X.env := by rfl) (hpl : (backTo pos (starEach es X.env)).any (·.1) = false := by rfl) :
    DE X c W (.Call (.Name x p) (e :: es) [] pos) (eMake cl A g mr) := by
  refine ⟨fun pins s σ H Q I h => ?_⟩
  refine wpAny_Call_Name_kw (ld_glob I hg hm ?_ hdb)
  refine PySem.W.callWith_K (h₀ := X.base) I.ok.mod.kin Mc.kp (thn (PA.run ha pos pins s σ H _ I (tda_make h)) fun us s1 ⟨vs, H1, I1, r, q⟩ => ⟨I1.kIn, ?_⟩) he hpl
  rw [hK] at q
  exact run_makeA Mc F hr (L2N.passAt tk σ) I1 r q
theorem de_make0 (Mc : Mk X.K (c.C cl) f) (F : FnI X.prog X.w X.K X.mg X.base c.C c.N k f cl A g) (hK : c.K = X.K) (hr : Room (k + 1) X.A) (hg : Gl X x) (hm : X.mg x = some (.ref (c.C cl))) (tk : L2N.Takes X W) (hdb : (x == ("__debug__" : Str)) = false := by decide) :
    DE X c W (.Call (.Name x p) [] [] pos) (eMake cl A g aNil) := by
  refine ⟨fun pins s σ H Q I h => ?_⟩
  refine wpAny_Call_Name_kw (ld_glob I hg hm ?_ hdb)
  obtain ⟨M, ρ, G, env, R, q⟩ := h
  have q1 : TQ (RE c) c W M ρ σ H (if A ([] : List EV).length = true then mkO cl (g [] G) else .st) Q := q
  refine PySem.W.callWith_K0 I.kIn Mc.kp (run_makeA (us := []) (vs := []) Mc F hr (L2N.passAt tk σ) I .nil fun x dx hx hd hne => ?_)
  rw [← hK]
  exact spi_of R.s .nil q1 hx hd hne
/-- C(*e) -/
def aStar (m : EM) (r : AM) : AM := fun env G => (m env G).bind fun x G1 => match x with
  | .d (.tup xs) => (r env G1).bind fun ys G2 => .ok (xs.map .d ++ ys) G2
  | .d (.lst xs) => (r env G1).bind fun ys G2 => .ok (xs.map .d ++ ys) G2
  | _ => .st
theorem map_d {M : Addr → Prop} {ρ : List Addr} {H : Hp} {xs : List D} {vs : List V} (h : All2 (Rep c M ρ H) xs vs) : All2 (RepE c M ρ H) (xs.map .d) vs := by
  induction h with
  | nil => exact .nil
  | cons r t ih => exact .cons r ih
theorem de_makeS1 {sp_ : Pos} (Mc : Mk X.K (c.C cl) f) (F : FnI X.prog X.w X.K X.mg X.base c.C c.N k f cl A g) (hK : c.K = X.K) (hr : Room (k + 1) X.A) (hg : Gl X x) (hm : X.mg x = some (.ref (c.C cl))) (tk : L2N.Takes X W) (he : DE X c W e me) (hdb : (x == ("__debug__" : Str)) = false := by decide)
    (hst : starEach [.Starred e sp_] X.env = [(true, eval e X.env)] := by rfl) : DE X c W (.Call (.Name x p) [.Starred e sp_] [] pos) (eMake cl A g (aStar me aNil)) := by
  refine ⟨fun pins s σ H Q I h => ?_⟩
  refine wpAny_Call_Name_kw (ld_glob I hg hm ?_ hdb)
  obtain ⟨M, ρ, G, env, R, q⟩ := h
  have h' : tD c W me σ H fun y H1 => ∃ a xs, y = V.ref a ∧ (SqT X.K H1 a xs ∨ SqL X.K H1 a xs) ∧ ∀ x dx, H1 x = Option.none → H1 dx = Option.none → dx ≠ x → SpI c.K c.C c.N cl A g (V.ref x :: xs) (upd (upd H1 dx (.own x)) x (.ins (c.C cl) dx [])) (fun v H2 => v = .non ∧ Q (.ref x) H2) (WE W σ) := by
    refine ⟨M, ρ, G, env, R, ?_⟩
    have q' := TQ.bind (R := RA c) q
    refine (TQ.bind (R := RE c) q').imp fun v H1 ⟨ρ1, G1, e1, g1, s1, r1, q1⟩ => ?_
    rw [← hK]
    split at q1
    · rename_i xs
      obtain ⟨a, vs, rfl, z, rr⟩ := Rep.of_tup r1
      obtain ⟨ρ2, G2, e2, g2, s2, r2, q2⟩ := q1 vs ρ1 H1 Ge.refl s1 (by rw [List.append_nil]; exact map_d rr)
      exact ⟨a, vs, rfl, .inl z.sq, fun x dx hx hd hne => spi_of s2 r2 q2 hx hd hne⟩
    · rename_i xs
      obtain ⟨a, vs, rfl, z, rr⟩ := Rep.of_lst r1
      obtain ⟨ρ2, G2, e2, g2, s2, r2, q2⟩ := q1 vs ρ1 H1 Ge.refl s1 (by rw [List.append_nil]; exact map_d rr)
      exact ⟨a, vs, rfl, .inr z.sq, fun x dx hx hd hne => spi_of s2 r2 q2 hx hd hne⟩
    · exact q1.elim
  refine PySem.W.callWith_S (h₀ := X.base) I.ok.mod.kin Mc.kp (thn (PE.run he pins s σ H _ I h') fun v s1 ⟨y, H1, I1, ry, a, xs, ey, hxs, q⟩ => ?_) hst
  subst ey
  obtain rfl : v = Value.ref a := ry
  refine star_any I1 hxs fun us s2 I2 rv => ⟨I2.kIn, ?_⟩
  rw [hK] at q
  exact run_makeA Mc F hr (L2N.passAt tk σ) I2 rv q
end

/-! ### methods -/
/-- the classes that have the method, with its meaning -/
def kfn : List (String × (Ar × FM)) → String → Option (Ar × FM)
  | [], _ => none
  | (k, g) :: r, k' => if k = k' then some g else kfn r k'
def eMeth (ms : List (String × (Ar × FM))) (mo : EM) (r : AM) : EM := fun env G => (mo env G).bind fun x G1 => match x with
  | .d (.ins k fs) => (match kfn ms k with
    | some (A, g) => (r env G1).bind fun xs G2 => if A (xs.length + 1) = true then g (.d (.ins k fs) :: xs) G2 else .st
    | none => .st)
  | _ => .st
/-- what a class must have for its method -/
structure HasM (P : Program) (w : World) (K : PySem.W.Frag) (mg : Str → Option Value) (base : Heap) (C : String → Addr) (N : String → List Str) (lv : Nat) (m : Str) (k : String) (A : Ar) (g : FM) : Prop where
  cl : Cls K (C k)
  no : ixf m (N k) = none
  fn : ∃ f, Meth K (C k) m f ∧ FnG P w K mg base C N lv f A g
section
variable {X : Cx} {c : RC} {W : WX} {e o : Expr} {es : List Expr} {me mo : EM} {mr : AM} {pos p apos : Pos} {M : Addr → Prop} {ρ : List Addr} {σ : L2.St} {H : Hp} {G : GS} {env : En} {pl : Sem Bool} {lv : Nat} {m : Str} {ms : List (String × (Ar × FM))}
/-- how the call of a method reads, row by row -/
abbrev MRow (X : Cx) (o : Expr) (m : Str) (ap : Pos) (args : List Expr) (pos : Pos) (pl : Sem Bool) : Prop :=
  eval (.Call (.Attribute o m ap) args [] pos) X.env =
    (do let ov ← eval o X.env; standAt ap.atName; let (f, first) ← holding [ov] (getMethod ov m pl); callWith pos f first (backTo pos (starEach args X.env)) (backToKw pos (keywordEach [] X.env)))
theorem de_meth (hK : c.K = X.K) (hr : Room lv X.A) (tk : L2N.Takes X W) (h : ∀ k A g, kfn ms k = some (A, g) → HasM X.prog X.w X.K X.mg X.base c.C c.N lv m k A g) (ho : DE X c W o mo) (ha : DA X c W (e :: es) mr)
    (hst : starEach (e :: es) X.env = (false, eval e X.env) :: starEach es X.env := by rfl) (hpl : (backTo pos (starEach es X.env)).any (·.1) = false := by rfl)
    (ht : MRow X o m apos (e :: es) pos pl := by rfl) :
    DE X c W (.Call (.Attribute o m apos) (e :: es) [] pos) (eMeth ms mo mr) := by
  refine ⟨fun pins s σ H Q I q => ?_⟩
  obtain ⟨M, ρ, G, env, R, q⟩ := q
  have h' : tD c W mo σ H fun x H1 => ∃ k fs A g, kfn ms k = some (A, g) ∧ ∃ ρ1 G1, Rl c M ρ1 G1 env σ H1 ∧ RepE c M ρ1 H1 (.d (.ins k fs)) x ∧ TQ (RE c) c W M ρ1 σ H1 ((mr env G1).bind fun xs G2 => if A (xs.length + 1) = true then g (.d (.ins k fs) :: xs) G2 else .st) Q := by
    refine ⟨M, ρ, G, env, R, (TQ.bind (R := RE c) q).imp fun v H1 ⟨ρ1, G1, e1, g1, s1, r1, q1⟩ => ?_⟩
    split at q1
    · rename_i k fs
      split at q1
      · rename_i A g hk
        exact ⟨k, fs, A, g, hk, ρ1, G1, R.ge g1 s1, r1, q1⟩
      · exact q1.elim
    · exact q1.elim
  refine PySem.W.methodCall_KW (pl := pl) (thn (PE.run ho pins s σ H _ I h') fun u s1 ⟨x, H1, I1, rx, k, fs, A, g, hk, ρ1, G1, R1, r1, q1⟩ => ?_) ht
  obtain ⟨a, dx, gs, rfl, z, ea, fl⟩ := Rep.of_ins r1
  obtain rfl : u = Value.ref a := rx
  obtain ⟨cl, no, f, mt, F⟩ := h k A g hk
  refine getmeth_ok I1 ea cl mt (flds_none fl no) ?_
  have h2 : tDA c W mr σ H1 fun vs H2 => Spd c.K c.C c.N A g (.ref a :: vs) H2 Q (WE W σ) := by
    refine ⟨M, ρ1, G1, env, R1, (TQ.bind (R := RA c) q1).imp fun vs H2 ⟨ρ2, G2, e2, g2, s2, r2, q2⟩ => ?_⟩
    exact spd_of (es1 := .d (.ins k fs) :: e2) s2 (.cons (r1.grow g2.gr) r2) q2
  refine PySem.W.callWith_K (first := [.ref a]) (h₀ := X.base) I.ok.mod.kin mt.kp (thn (PA.run ha pos pins s1 σ H1 _ I1 h2) fun us s2 ⟨vs, H2, I2, r, q2⟩ => ⟨I2.kIn, ?_⟩) hst hpl
  rw [hK] at q2
  exact wpAny_call (run_fnA (us := .ref a :: us) (vs := .ref a :: vs) F hr (L2N.passAt tk σ) I2 (.cons rfl r) q2)
theorem de_meth0 (hK : c.K = X.K) (hr : Room lv X.A) (tk : L2N.Takes X W) (h : ∀ k A g, kfn ms k = some (A, g) → HasM X.prog X.w X.K X.mg X.base c.C c.N lv m k A g) (ho : DE X c W o mo)
    (ht : MRow X o m apos [] pos pl := by rfl) :
    DE X c W (.Call (.Attribute o m apos) [] [] pos) (eMeth ms mo aNil) := by
  refine ⟨fun pins s σ H Q I q => ?_⟩
  obtain ⟨M, ρ, G, env, R, q⟩ := q
  have h' : tD c W mo σ H fun x H1 => ∃ k fs A g, kfn ms k = some (A, g) ∧ ∃ ρ1 G1, SR c M ρ1 G1 H1 ∧ RepE c M ρ1 H1 (.d (.ins k fs)) x ∧ TQ (RE c) c W M ρ1 σ H1 (if A 1 = true then g [.d (.ins k fs)] G1 else .st) Q := by
    refine ⟨M, ρ, G, env, R, (TQ.bind (R := RE c) q).imp fun v H1 ⟨ρ1, G1, e1, g1, s1, r1, q1⟩ => ?_⟩
    split at q1
    · rename_i k fs
      split at q1
      · rename_i A g hk
        exact ⟨k, fs, A, g, hk, ρ1, G1, s1, r1, q1⟩
      · exact q1.elim
    · exact q1.elim
  refine PySem.W.methodCall_KW (pl := pl) (thn (PE.run ho pins s σ H _ I h') fun u s1 ⟨x, H1, I1, rx, k, fs, A, g, hk, ρ1, G1, sr1, r1, q1⟩ => ?_) ht
  have q2 := spd_of (es1 := [.d (.ins k fs)]) (n := A) sr1 (.cons r1 .nil) q1
  obtain ⟨a, dx, gs, rfl, z, ea, fl⟩ := Rep.of_ins r1
  obtain rfl : u = Value.ref a := rx
  obtain ⟨cl, no, f, mt, F⟩ := h k A g hk
  refine getmeth_ok I1 ea cl mt (flds_none fl no) ?_
  rw [hK] at q2
  exact PySem.W.callWith_K0 (first := [.ref a]) I1.kIn mt.kp (wpAny_call (run_fnA (us := [.ref a]) (vs := [.ref a]) F hr (L2N.passAt tk σ) I1 (.cons rfl .nil) q2))
/-- C.NAME, a constant of the class -/
theorem de_cval {x fn : Str} {p' : Pos} {cl : String} {mc u : Value} {d : D} {v : V} (hg : Gl X x) (hm : X.mg x = some (.ref (c.C cl))) (r : CRead X.K (c.C cl) mc) (k : CVal X.K (c.C cl) mc fn v u) (rv : ∀ M ρ H, Rep c M ρ H d v) (hdb : (x == ("__debug__" : Str)) = false := by decide)
    (hb : attributeBase (.Name x p') fn X.env (eval (.Name x p') X.env) = eval (.Name x p') X.env := by rfl) : DE X c W (.Attribute (.Name x p') fn pos) (eC d) := by
  refine pe_imp (pe_cval (pe_glob (v := V.ref (c.C cl)) hg hm rfl hdb) hb) fun σ H Q q => ?_
  obtain ⟨M, ρ, G, env, R, q⟩ := q
  exact ⟨c.C cl, mc, v, u, rfl, r, k, q.ok R.s (rv _ _ _)⟩
/-- C.m(..), m a classmethod: cls is handed in first -/
def eCMeth (cl : String) (A : Ar) (g : FM) (r : AM) : EM := fun env G => (r env G).bind fun xs G1 => if A (xs.length + 1) = true then g (.d (.cls cl) :: xs) G1 else .st
theorem run_cmA {CX : CXT} {k : Nat} {q g C : Addr} {sp : Sp} {E : XK} {Q : VK} {s : Shared} {pins : List (Addr × Obj)} {vs : List V} {us : List Value}
    (F : FnR X.prog X.w X.K X.mg X.base CX k g sp) (hr : Room k X.A) (hx : PassesAt CX X σ E)
    (I : Inv X ((q, PySem.W.methodObj (.ref g) (.ref C)) :: pins) σ H s) (r : Vals vs us) (h : sp (.ref C :: vs) H Q E) :
    wpAny (model X.prog X.w) X.A (call (.ref q) us) (EP X pins σ Q) X.xe s :=
  thn (wpAny_call (PySem.W.method_call (pin_at I) (run_fnA (vs := .ref C :: vs) (us := .ref C :: us) F hr hx I (.cons rfl r) h))) fun _ _ => unpinE
theorem de_cmeth {x : Str} {p' : Pos} {cl : String} {mc : Value} {pr gf : Addr} {A : Ar} {g : FM} (hK : c.K = X.K) (hg : Gl X x) (hm : X.mg x = some (.ref (c.C cl))) (r : CRead X.K (c.C cl) mc) (cm : CMet X.K (c.C cl) mc m pr gf) (F : FnG X.prog X.w X.K X.mg X.base c.C c.N lv gf A g) (hr : Room lv X.A) (tk : L2N.Takes X W) (ha : DA X c W (e :: es) mr)
    (hdb : (x == ("__debug__" : Str)) = false := by decide) (hst : starEach (e :: es) X.env = (false, eval e X.env) :: starEach es X.env := by rfl) (hpl : (backTo pos (starEach es X.env)).any (·.1) = false := by rfl)
    (ht : MRow X (.Name x p') m apos (e :: es) pos pl := by rfl) :
    DE X c W (.Call (.Attribute (.Name x p') m apos) (e :: es) [] pos) (eCMeth cl A g mr) := by
  refine ⟨fun pins s σ H Q I q => ?_⟩
  refine PySem.W.methodCall_KW (pl := pl) (ld_glob I hg hm ?_ hdb) ht
  refine getmethcm_ok I r cm fun s2 I2 => ?_
  obtain ⟨M, ρ, G, env, R, q⟩ := q
  have h2 : tDA c W mr σ H fun vs H2 => Spd c.K c.C c.N A g (.ref (c.C cl) :: vs) H2 Q (WE W σ) := by
    refine ⟨M, ρ, G, env, R, (TQ.bind (R := RA c) q).imp fun vs H2 ⟨ρ2, G2, e2, g2, s2, r2, q2⟩ => ?_⟩
    exact spd_of (es1 := .d (.cls cl) :: e2) s2 (.cons Rep.cls r2) q2
  refine callwith_cm I2 (base_none I (Nat.le_refl _)) cm.fi (thn (PA.run ha pos _ s2 σ H _ I2 h2) fun us s3 ⟨vs, H2, I3, rv, q2⟩ => ⟨⟨pin_at I3, I3.kIn⟩, ?_⟩) hst hpl
  rw [hK] at q2
  exact run_cmA F hr (L2N.passAt tk σ) I3 rv q2
end
end DL

set_option Elab.async false
set_option linter.all false
set_option maxRecDepth 100000
set_option maxHeartbeats 4000000
namespace DL
open PySem L2 PyProof.Rows StX ClX

def toOpt {α : Type} : Out α → Option (α × GS)
  | .ok e G => some (e, G)
  | _ => none
def alt2 (f g : F2) : F2 := fun x y G => match f x y G with
  | some r => some r
  | none => g x y G
def alt1 (f g : F1) : F1 := fun x G => match f x G with
  | some r => some r
  | none => g x G
def altN (f g : FN) : FN := fun x G => match f x G with
  | some r => some r
  | none => g x G
/-- x op y by the class's own def: both are instances of it -/
def fOwn (cl : String) (A : Ar) (g : FM) : F2 := fun x y G => match x, y with
  | .d (.ins k fs), .d (.ins k' fs') => if k = cl ∧ k' = cl ∧ A 2 = true then toOpt (g [.d (.ins k fs), .d (.ins k' fs')] G) else none
  | _, _ => none
def fOwn1 (cl : String) (A : Ar) (g : FM) : F1 := fun x G => match x with
  | .d (.ins k fs) => if k = cl ∧ A 1 = true then toOpt (g [.d (.ins k fs)] G) else none
  | _ => none
section
variable {X : Cx} {c : RC} {M : Addr → Prop} {ρ : List Addr} {σ : L2.St} {H : Hp} {G : GS} {lv : Nat} {cl : String} {A : Ar} {g : FM} {f : Addr}
theorem opr_alt {F : Value → Value → Sem Value} {f g : F2} (h : OpR X F (V2 c f)) (k : OpR X F (V2 c g)) : OpR X F (V2 c (alt2 f g)) := opr_imp (h.or k) fun x y H Q ⟨M, ρ, G, a, b, s, ra, rb, q⟩ => by
  unfold alt2 at q
  cases hf : f a b G with
  | some r => rw [hf] at q; exact .inl ⟨M, ρ, G, a, b, s, ra, rb, by rw [hf]; exact q⟩
  | none => rw [hf] at q; exact .inr ⟨M, ρ, G, a, b, s, ra, rb, q⟩
theorem unr_or {F : Value → Sem Value} {r r' : V → Hp → VK → Prop} (h : UnR X F r) (k : UnR X F r') : UnR X F (fun x H Q => r x H Q ∨ r' x H Q) := fun pins s σ H x v Q I rx q => q.elim (h pins s σ H x v Q I rx) (k pins s σ H x v Q I rx)
theorem callr_or {F : Value} {r r' : List V → Hp → VK → Prop} (h : CallR X F r) (k : CallR X F r') : CallR X F (fun x H Q => r x H Q ∨ r' x H Q) := fun pins s σ H x v Q I rx q => q.elim (h pins s σ H x v Q I rx) (k pins s σ H x v Q I rx)
theorem unr_alt {F : Value → Sem Value} {f g : F1} (h : UnR X F (V1 c f)) (k : UnR X F (V1 c g)) : UnR X F (V1 c (alt1 f g)) := unr_imp (unr_or h k) fun x H Q ⟨M, ρ, G, a, s, ra, q⟩ => by
  unfold alt1 at q
  cases hf : f a G with
  | some r => rw [hf] at q; exact .inl ⟨M, ρ, G, a, s, ra, by rw [hf]; exact q⟩
  | none => rw [hf] at q; exact .inr ⟨M, ρ, G, a, s, ra, q⟩
theorem callr_alt {F : Value} {f g : FN} (h : CallR X F (VN c f)) (k : CallR X F (VN c g)) : CallR X F (VN c (altN f g)) := callr_imp (callr_or h k) fun x H Q ⟨M, ρ, G, a, s, ra, q⟩ => by
  unfold altN at q
  cases hf : f a G with
  | some r => rw [hf] at q; exact .inl ⟨M, ρ, G, a, s, ra, by rw [hf]; exact q⟩
  | none => rw [hf] at q; exact .inr ⟨M, ρ, G, a, s, ra, q⟩
abbrev E0' : XK := fun _ _ _ => False
theorem pass0' {X : Cx} {σ : L2.St} : PassesAt (L2N.CX X.prog X.w) X σ E0' := fun _ _ _ _ _ _ ⟨_, _, _, _, _, _, _, _, _, _, _, _, h⟩ => h.elim
/-- a call that raises nothing, by values -/
theorem spd_opt {es : List EV} {vs : List V} {Q : VK} (s : SR c M ρ G H) (r : All2 (RepE c M ρ H) es vs) (hA : A es.length = true) (q : VQ c M ρ H (toOpt (g es G)) Q) : Spd c.K c.C c.N A g vs H Q E0' := by
  refine spd_of (W := fun _ _ _ _ => False) (σ := []) (es1 := es) s r ?_
  rw [if_pos hA]
  cases hg : g es G with
  | ok e G' => rw [hg] at q; exact q
  | er cl fs G' => rw [hg] at q; exact q.elim
  | st => rw [hg] at q; exact q.elim
theorem inst_at {pins : List (Addr × Obj)} {s : Shared} {a C dx : Addr} {fs : List (Str × V)} (I : Inv X pins σ H s) (h : H a = some (.ins C dx fs)) : ∃ ox od, PySem.W.InstAt s.heap a ox C od := by
  obtain ⟨ox, od, J, _⟩ := insC_at (X := X) I (C := C) (.inr ⟨dx, fs, h⟩)
  exact ⟨ox, od, J⟩
theorem dop_own {op : Operator} (hK : c.K = X.K) (hr : Room lv X.A) (hc : PySem.W.selfFirst X.K (c.C cl) = true) (hs : PySem.W.findIn X.K (.ref (c.C cl)) (PySem.dunder op.info.2) = some (some (.ref f))) (hf : PySem.W.isFn X.K (.ref f) = true) (F : FnG X.prog X.w X.K X.mg X.base c.C c.N lv f A g) :
    OpR X (binaryOp op) (V2 c (fOwn cl A g)) := by
  intro pins s σ H x y v u Q I rx ry ⟨M, ρ, G, a, b, sr, ra, rb, q⟩
  unfold fOwn at q
  split at q
  · rename_i k fs k' fs'
    split at q
    · rename_i hk
      obtain ⟨rfl, rfl, hA⟩ := hk
      have sp := spd_opt (A := A) (g := g) (es := [.d (.ins k' fs), .d (.ins k' fs')]) sr (.cons ra (.cons rb .nil)) hA q
      obtain ⟨p, dx, gs, rfl, z, ea, fl⟩ := Rep.of_ins ra
      obtain ⟨p', dx', gs', rfl, z', ea', fl'⟩ := Rep.of_ins rb
      cases (show v = Value.ref p from rx)
      cases (show u = Value.ref p' from ry)
      obtain ⟨ox, od, J⟩ := inst_at I ea
      obtain ⟨ox', od', J'⟩ := inst_at I ea'
      obtain ⟨m, hF⟩ := I.fr
      refine PySem.W.binop_K hF I.ok.mod.kin J J'.type hc hs hf ?_
      rw [hK] at sp
      refine wpAny_mono (wpAny_call (run_fnA (us := [.ref p, .ref p']) (vs := [.ref p, .ref p']) F hr pass0' I (.cons rfl (.cons rfl .nil)) sp)) (fun w s' hw => ?_) fun _ _ x => x
      obtain ⟨z', H', I', rz, qz⟩ := hw
      exact SlX.cmpback rz ⟨z', H', I', rz, qz⟩
    · exact q.elim
  · exact q.elim
theorem dun_own (hK : c.K = X.K) (hr : Room lv X.A) (hs : PySem.W.findIn X.K (.ref (c.C cl)) "__invert__" = some (some (.ref f))) (hf : PySem.W.isFn X.K (.ref f) = true) (F : FnG X.prog X.w X.K X.mg X.base c.C c.N lv f A g) :
    UnR X (unaryOp .Invert) (V1 c (fOwn1 cl A g)) := by
  intro pins s σ H x v Q I rx ⟨M, ρ, G, a, sr, ra, q⟩
  unfold fOwn1 at q
  split at q
  · rename_i k fs
    split at q
    · rename_i hk
      obtain ⟨rfl, hA⟩ := hk
      have sp := spd_opt (A := A) (g := g) (es := [.d (.ins k fs)]) sr (.cons ra .nil) hA q
      obtain ⟨p, dx, gs, rfl, z, ea, fl⟩ := Rep.of_ins ra
      cases (show v = Value.ref p from rx)
      obtain ⟨ox, od, J⟩ := inst_at I ea
      obtain ⟨m, hF⟩ := I.fr
      refine PySem.W.ksp_inv hF I.ok.mod.kin J hs hf ?_
      rw [hK] at sp
      exact wpAny_call (run_fnA (us := [.ref p]) (vs := [.ref p]) F hr pass0' I (.cons rfl .nil) sp)
    · exact q.elim
  · exact q.elim
end

/-! ### displays, subscripts, built-ins over lists -/
def lstMax : Nat := 100000
def eLst (r : AM) : EM := fun env G => (r env G).bind fun xs G1 => match datas xs with
  | some ds => if ds.length ≤ lstMax then .ok (.d (.lst ds)) G1 else .st
  | none => .st
def eTup (r : AM) : EM := fun env G => (r env G).bind fun xs G1 => match datas xs with
  | some ds => if ds.length ≤ lstMax then .ok (.d (.tup ds)) G1 else .st
  | none => .st
/-- a list that will be written: an object of the store -/
def eObj (r : AM) : EM := fun env G => (r env G).bind fun xs G1 => if xs.length ≤ lstMax then .ok (.o G1.length) (G1 ++ [.lst xs]) else .st
section
variable {X : Cx} {c : RC} {W : WX} {e : Expr} {es : List Expr} {mr : AM} {me : EM} {pos : Pos} {M : Addr → Prop} {ρ : List Addr} {σ : L2.St} {H : Hp} {G : GS}
theorem lst_ok {n : Nat} (h : n ≤ lstMax) : n ≤ sizeLine := Nat.le_trans h (by decide)
theorem de_lst (ha : DA X c W es mr) : DE X c W (.List es pos) (eLst mr) := by
  refine pe_imp (pe_lst ha) fun σ H Q q => ?_
  obtain ⟨M, ρ, G, env, R, q⟩ := q
  refine ⟨M, ρ, G, env, R, (TQ.bind (R := RA c) q).imp fun v H1 ⟨ρ1, G1, e1, g1, s1, r1, q1⟩ => ?_⟩
  split at q1
  · rename_i ds hd
    split at q1
    · rename_i hl
      have rr := datas_rep hd r1
      refine ⟨by rw [← rr.length]; exact lst_ok hl, fun p hp => ?_⟩
      have sm : Same H1 (upd H1 p (.lst v)) := same_upd hp
      exact q1.okS s1 sm (Rep.lst (.inl ⟨s1.fresh hp, .inl upd_same⟩) (reps_grow rr (Gr.same sm)))
    · exact q1.elim
  · exact q1.elim
theorem de_tup {n} (ha : DA X c W es mr) : DE X c W (.Tuple es n pos) (eTup mr) := by
  refine pe_imp (pe_tup ha) fun σ H Q q => ?_
  obtain ⟨M, ρ, G, env, R, q⟩ := q
  refine ⟨M, ρ, G, env, R, (TQ.bind (R := RA c) q).imp fun v H1 ⟨ρ1, G1, e1, g1, s1, r1, q1⟩ => ?_⟩
  split at q1
  · rename_i ds hd
    split at q1
    · rename_i hl
      have rr := datas_rep hd r1
      refine ⟨by rw [← rr.length]; exact lst_ok hl, fun p hp => ?_⟩
      have sm : Same H1 (upd H1 p (.tup v)) := same_upd hp
      exact q1.okS s1 sm (Rep.tup (.inl ⟨s1.fresh hp, .inl upd_same⟩) (reps_grow rr (Gr.same sm)))
    · exact q1.elim
  · exact q1.elim
/-- a new object of the store -/
theorem sr_new {xs : List EV} {vs : List V} {p : Addr} (s : SR c M ρ G H) (r : All2 (RepE c M ρ H) xs vs) (hp : H p = none) : Ge M ρ H (ρ ++ [p]) (upd H p (.lst vs)) ∧ SR c M (ρ ++ [p]) (G ++ [.lst xs]) (upd H p (.lst vs)) ∧ (ρ ++ [p])[G.length]? = some p := by
  have sm : Same H (upd H p (.lst vs)) := same_upd hp
  have fx := s.fresh hp
  have g : Ge M ρ H (ρ ++ [p]) (upd H p (.lst vs)) := ⟨fun a o e _ => sm a o e, fun a o e => ⟨o, sm a o e⟩, [p], rfl, by simpa using hp⟩
  refine ⟨g, ⟨by simp [s.len], ?_, fun a h => ?_, fun i ys e => ?_, fun a m => same_ne sm (s.mt a m), fun a m => same_ne sm (s.bt a m)⟩, ?_⟩
  · rw [List.nodup_append]
    exact ⟨s.nd, by simp, fun a h1 b h2 => by
      have : b = p := by simpa using h2
      subst this
      rintro rfl
      exact fx.2.2 h1⟩
  · rcases List.mem_append.mp h with h | h
    · exact s.sep a h
    · have : a = p := by simpa using h
      subst this
      exact ⟨fx.1, fx.2.1⟩
  · by_cases hi : i < G.length
    · rw [List.getElem?_append_left hi] at e
      obtain ⟨a, us, h1, h2, h3⟩ := s.at_ i ys e
      exact ⟨a, us, by rw [List.getElem?_append_left (by rw [s.len]; exact hi)]; exact h1, sm _ _ h2, repEs_grow h3 g.gr⟩
    · rw [List.getElem?_append_right (by omega)] at e
      have hi2 : i - G.length = 0 := by
        have := (List.getElem?_eq_some_iff.mp e).1
        simp at this
        omega
      rw [hi2] at e
      cases e
      have hi3 : i = ρ.length := by rw [s.len]; omega
      subst hi3
      exact ⟨p, vs, by simp, upd_same, repEs_grow r g.gr⟩
  · rw [← s.len]; simp
theorem de_obj (ha : DA X c W es mr) : DE X c W (.List es pos) (eObj mr) := by
  refine pe_imp (pe_lst ha) fun σ H Q q => ?_
  obtain ⟨M, ρ, G, env, R, q⟩ := q
  refine ⟨M, ρ, G, env, R, (TQ.bind (R := RA c) q).imp fun v H1 ⟨ρ1, G1, e1, g1, s1, r1, q1⟩ => ?_⟩
  split at q1
  · rename_i hl
    refine ⟨by rw [← r1.length]; exact lst_ok hl, fun p hp => ?_⟩
    obtain ⟨g, s2, e2⟩ := sr_new s1 r1 hp
    exact q1 (.ref p) _ _ g s2 ⟨p, e2, rfl⟩
  · exact q1.elim
end
/-- xs[i] -/
def ixD {α : Type} (xs : List α) (i : Int) : Option α := atI xs i
def fIx : F2 := fun x y G => match x, y with
  | .d (.lst xs), .d (.int i) => (atI xs i).map fun z => (.d z, G)
  | .d (.tup xs), .d (.int i) => (atI xs i).map fun z => (.d z, G)
  | .o k, .d (.int i) => (match (G[k]? : Option GO) with
    | some (GO.lst xs) => (atI xs i).map fun z => (z, G)
    | none => none)
  | _, _ => none
end DL

set_option Elab.async false
set_option linter.all false
set_option maxRecDepth 100000
set_option maxHeartbeats 4000000
namespace DL
open PySem L2 PyProof.Rows StX ClX

/-! ### what is walked -/
/-- J gives the items ds, in every later state -/
def ItR (c : RC) (M : Addr → Prop) (ρ : List Addr) (J : It) (ds : List D) (H : Hp) : Prop := ∀ M2 ρ2 H2, Gr M ρ H M2 ρ2 H2 → ∀ i, (∀ d, ds[i]? = some d → J.go i H2 ∧ ∀ x H3, J.yld i H2 x H3 → Same H2 H3 ∧ Rep c M2 ρ2 H3 d x) ∧ (ds.length ≤ i → J.stop i H2)
abbrev LM := En → GS → Out (List D)
def tDI (c : RC) (W : WX) (m : LM) : TI := fun σ H R => ∃ M ρ G env, Rl c M ρ G env σ H ∧ (match m env G with
  | .ok ds G' => ∀ J ρ' H', Ge M ρ H ρ' H' → SR c M ρ' G' H' → ItR c M ρ' J ds H' → R J H'
  | .er cl fs G' => ∀ dd gs ρ' H', Ge M ρ H ρ' H' → SR c M ρ' G' H' → H' dd = some (.xd gs) → Flds c M ρ' H' cl fs gs → W (.ref (c.C cl)) (some dd) σ H'
  | .st => False)
def DI (X : Cx) (c : RC) (W : WX) (tg e : Expr) (m : LM) : Prop := PI X tg e (tDI c W m)
theorem pi_imp {X : Cx} {tg e : Expr} {t t' : TI} (h : PI X tg e t) (k : ∀ σ H R, t' σ H R → t σ H R) : PI X tg e t' := ⟨fun pins s σ H R I q => h.run pins s σ H R I (k σ H R q)⟩
def lSeq (m : EM) : LM := fun env G => (m env G).bind fun e G1 => match e with
  | .d (.lst xs) => .ok xs G1
  | _ => .st
def lTup (m : EM) : LM := fun env G => (m env G).bind fun e G1 => match e with
  | .d (.tup xs) => .ok xs G1
  | _ => .st
def lRng (lo : Int) (n : Nat) : List D := (List.range n).map fun i : Nat => .int (lo + i)
def rngMax : Int := 1000000
def lRng1 (r : AM) : LM := fun env G => (r env G).bind fun xs G1 => match xs with
  | [.d (.int j)] => if -rngMax ≤ j ∧ j ≤ rngMax then .ok (lRng 0 j.toNat) G1 else .st
  | _ => .st
def lRng2 (r : AM) : LM := fun env G => (r env G).bind fun xs G1 => match xs with
  | [.d (.int i), .d (.int j)] => if -rngMax ≤ i ∧ i ≤ rngMax ∧ -rngMax ≤ j ∧ j ≤ rngMax then .ok (lRng i (j - i).toNat) G1 else .st
  | _ => .st
section
variable {X : Cx} {c : RC} {W : WX} {e a b tg : Expr} {es : List Expr} {mr : AM} {me : EM} {pos p : Pos} {M : Addr → Prop} {ρ : List Addr} {σ : L2.St} {H : Hp} {G : GS}
/-- the items behind an expression -/
theorem tdi_of {α β : Type} {Rr : (Addr → Prop) → List Addr → Hp → α → β → Prop} {m : En → GS → Out α} {k : α → GS → Out (List D)} {env : En} {R : It → Hp → Prop} (Rl0 : Rl c M ρ G env σ H)
    (h : (match (m env G).bind k with
  | .ok ds G' => ∀ J ρ' H', Ge M ρ H ρ' H' → SR c M ρ' G' H' → ItR c M ρ' J ds H' → R J H'
  | .er cl fs G' => ∀ dd gs ρ' H', Ge M ρ H ρ' H' → SR c M ρ' G' H' → H' dd = some (.xd gs) → Flds c M ρ' H' cl fs gs → W (.ref (c.C cl)) (some dd) σ H'
  | .st => False)) (hk : ∀ x G1, (∃ ds, k x G1 = .ok ds G1) ∨ k x G1 = .st) :
    TQ Rr c W M ρ σ H (m env G) fun v H1 => ∃ ρ1 G1 x ds, Ge M ρ H ρ1 H1 ∧ SR c M ρ1 G1 H1 ∧ Rr M ρ1 H1 x v ∧ k x G1 = .ok ds G1 ∧ ∀ J, ItR c M ρ1 J ds H1 → R J H1 := by
  cases hm : m env G with
  | ok x G1 =>
    rw [hm] at h
    intro v ρ1 H1 g s r
    rcases hk x G1 with ⟨ds, hd⟩ | hd
    · refine ⟨ρ1, G1, x, ds, g, s, r, hd, fun J hJ => ?_⟩
      have h' : ∀ J ρ' H', Ge M ρ H ρ' H' → SR c M ρ' G1 H' → ItR c M ρ' J ds H' → R J H' := by
        have z : (Out.ok x G1).bind k = .ok ds G1 := hd
        rw [z] at h
        exact h
      exact h' J ρ1 H1 g s hJ
    · have z : (Out.ok x G1).bind k = .st := hd
      rw [z] at h
      exact h.elim
  | er cl fs G1 => rw [hm] at h; exact h
  | st => rw [hm] at h; exact h
theorem di_lst (hK : c.K = X.K) (he : DE X c W e me) : DI X c W tg e (lSeq me) := by
  refine pi_imp (pi_list he) fun σ H R q => ?_
  obtain ⟨M, ρ, G, env, R0, q⟩ := q
  refine ⟨M, ρ, G, env, R0, (tdi_of (Rr := RE c) R0 q (fun x G1 => ?_)).imp fun v H1 ⟨ρ1, G1, x, ds, g, s, r, hd, hJ⟩ => ?_⟩
  · skip
    split
    · exact .inl ⟨_, rfl⟩
    · exact .inr rfl
  · skip
    split at hd
    · rename_i xs
      injection hd with hd _
      subst hd
      obtain ⟨p, vs, rfl, z, rr⟩ := Rep.of_lst r
      refine ⟨p, rfl, ⟨vs, by rw [← hK]; exact z.sq⟩, hJ _ fun M2 ρ2 H2 g2 i => ⟨fun d hd => ?_, fun hl => ?_⟩⟩
      · have z2 := z.grow g2
        have r2 := reps_grow rr g2
        obtain ⟨v, hv, rv⟩ := r2.get hd
        refine ⟨⟨vs, v, by rw [← hK]; exact z2.sq, hv⟩, fun x H3 ⟨e3, y⟩ => ?_⟩
        subst e3
        have := y vs (by rw [← hK]; exact z2.sq)
        rw [hv] at this
        cases this
        exact ⟨same_refl, rv⟩
      · exact ⟨vs, by rw [← hK]; exact (z.grow g2).sq, by rw [← rr.length]; exact hl⟩
    · cases hd
theorem di_tup (hK : c.K = X.K) (he : DE X c W e me) : DI X c W tg e (lTup me) := by
  refine pi_imp (pi_tup he) fun σ H R q => ?_
  obtain ⟨M, ρ, G, env, R0, q⟩ := q
  refine ⟨M, ρ, G, env, R0, (tdi_of (Rr := RE c) R0 q (fun x G1 => ?_)).imp fun v H1 ⟨ρ1, G1, x, ds, g, s, r, hd, hJ⟩ => ?_⟩
  · skip
    split
    · exact .inl ⟨_, rfl⟩
    · exact .inr rfl
  · skip
    split at hd
    · rename_i xs
      injection hd with hd _
      subst hd
      obtain ⟨p, vs, rfl, z, rr⟩ := Rep.of_tup r
      refine ⟨p, rfl, ⟨vs, by rw [← hK]; exact z.sq⟩, hJ _ fun M2 ρ2 H2 g2 i => ⟨fun d hd => ?_, fun hl => ?_⟩⟩
      · have z2 := z.grow g2
        have r2 := reps_grow rr g2
        obtain ⟨v, hv, rv⟩ := r2.get hd
        refine ⟨⟨vs, v, by rw [← hK]; exact z2.sq, hv⟩, fun x H3 ⟨e3, y⟩ => ?_⟩
        subst e3
        have := y vs (by rw [← hK]; exact z2.sq)
        rw [hv] at this
        cases this
        exact ⟨same_refl, rv⟩
      · exact ⟨vs, by rw [← hK]; exact (z.grow g2).sq, by rw [← rr.length]; exact hl⟩
    · cases hd
theorem itr_range {lo : Int} {n : Nat} : ItR c M ρ (Itr lo n) (lRng lo n) H := fun M2 ρ2 H2 g2 i => by
  refine ⟨fun d hd => ?_, fun hl => ?_⟩
  · unfold lRng at hd
    rw [List.getElem?_map] at hd
    cases e : (List.range n)[i]? with
    | none => rw [e] at hd; cases hd
    | some j =>
      rw [e] at hd
      cases hd
      obtain ⟨hi, ej⟩ := List.getElem?_eq_some_iff.mp e
      simp at hi ej
      subst ej
      exact ⟨hi, fun x H3 ⟨e3, ex⟩ => by subst e3; subst ex; exact ⟨same_refl, Rep.int⟩⟩
  · show n ≤ i
    simpa [lRng] using hl
theorem di_range1 (hg : Gl X "range") (hm : X.mg "range" = none) (ha : DA X c W [a] mr) (hs : starEach [a] X.env = [(false, eval a X.env)] := by rfl) : DI X c W tg (.Call (.Name "range" p) [a] [] pos) (lRng1 mr) := by
  refine pi_imp (pi_range1 hg hm ha hs) fun σ H R q => ?_
  obtain ⟨M, ρ, G, env, R0, q⟩ := q
  refine ⟨M, ρ, G, env, R0, (tdi_of (Rr := RA c) R0 q (fun x G1 => ?_)).imp fun v H1 ⟨ρ1, G1, x, ds, g, s, r, hd, hJ⟩ => ?_⟩
  · skip
    split
    · split
      · exact .inl ⟨_, rfl⟩
      · exact .inr rfl
    · exact .inr rfl
  · skip
    split at hd
    · split at hd
      · rename_i j hj
        injection hd with hd _
        subst hd
        cases r with
        | cons r t =>
          cases t
          cases Rep.of_int r
          unfold rngMax at hj
          exact ⟨j, rfl, by omega, by omega, hJ _ itr_range⟩
      · cases hd
    · cases hd
theorem di_range2 (hg : Gl X "range") (hm : X.mg "range" = none) (ha : DA X c W [a, b] mr) (hs : starEach [a, b] X.env = [(false, eval a X.env), (false, eval b X.env)] := by rfl) (hs2 : starEach [b] X.env = [(false, eval b X.env)] := by rfl) : DI X c W tg (.Call (.Name "range" p) [a, b] [] pos) (lRng2 mr) := by
  refine pi_imp (pi_range2 hg hm ha hs hs2) fun σ H R q => ?_
  obtain ⟨M, ρ, G, env, R0, q⟩ := q
  refine ⟨M, ρ, G, env, R0, (tdi_of (Rr := RA c) R0 q (fun x G1 => ?_)).imp fun v H1 ⟨ρ1, G1, x, ds, g, s, r, hd, hJ⟩ => ?_⟩
  · skip
    split
    · split
      · exact .inl ⟨_, rfl⟩
      · exact .inr rfl
    · exact .inr rfl
  · skip
    split at hd
    · split at hd
      · rename_i i j hj
        injection hd with hd _
        subst hd
        cases r with
        | cons r t =>
          cases t with
          | cons r' t' =>
          cases t'
          cases Rep.of_int r
          cases Rep.of_int r'
          unfold rngMax at hj
          exact ⟨i, j, rfl, by omega, hJ _ itr_range⟩
      · cases hd
    · cases hd
end

/-! ### for -/
def loopO (o : OutS) (k : En → GS → OutS) : OutS := match o with
  | .nx e g => k e g
  | .ct e g => k e g
  | .bk e g => .nx e g
  | o => o
def forL (k : Nat) (b : SM) : List D → En → GS → OutS
  | [], env, G => .nx env G
  | d :: ds, env, G => loopO (b (env.set k (.ev (.d d))) G) (forL k b ds)
def sFor (k : Nat) (m : LM) (b : SM) : SM := fun env G => ofE (m env G) env fun ds G1 => forL k b ds env G1
section
variable {X : Cx} {c : RC} {W : WX} {e tg : Expr} {body : List Stmt} {mr : LM} {mb : SM} {pos p : Pos} {M : Addr → Prop} {ρ : List Addr} {σ : L2.St} {H : Hp} {G : GS}
theorem SQ.loop {o : OutS} {k : SM} {Dn : Ends} {P : L2.St → Hp → Prop} (h : SQ c W M ρ H (loopO o k) Dn)
    (hP : ∀ env G M' ρ' σ' H', Gr M ρ H M' ρ' H' → Rl c M' ρ' G env σ' H' → SQ c W M' ρ' H' (k env G) Dn → P σ' H') : SQ c W M ρ H o { Dn with nx := P, ct := P, bk := Dn.nx } := by
  cases o with
  | nx env G => exact fun M' ρ' σ' H' g R => hP env G M' ρ' σ' H' g R (SQ.grow h g)
  | ct env G => exact fun M' ρ' σ' H' g R => hP env G M' ρ' σ' H' g R (SQ.grow h g)
  | bk env G => exact h
  | rt e G => exact h
  | er cl fs e G => exact h
  | st => exact h
theorem ds_for {k : Nat} {x : Str} (hp : PassesOwn (model X.prog X.w) X.A X.env X.xe) (hc : X.calm = true) (hi : DI X c W (.Name x p) e mr) (hg : PG X (.Name x p) (gName k)) (hb : DSs X c W body mb)
    (hs : ∀ x, foldedSetIterable e X.env x = pure x := by intro _; rfl) : DS X c W (.For (.Name x p) e body [] pos) (sFor k mr mb) := by
  refine ps_imp (ps_for hp hc hi hg hb hs) fun Dn σ H q => ?_
  obtain ⟨M, ρ, G, env, R0, q⟩ := q
  refine ⟨M, ρ, G, env, R0, ?_⟩
  unfold sFor at q
  cases hm : mr env G with
  | st => rw [hm] at q; exact q
  | er cl fs G1 => rw [hm] at q; exact fun dd gs ρ' H' g s z f => q M ρ' σ H' dd gs g.gr (R0.ge g s) z f
  | ok ds G1 =>
    rw [hm] at q
    intro J ρ1 H1 g1 s1 hJ
    have q1 : SQ c W M ρ1 H1 (forL k mb ds env G1) Dn := SQ.grow q g1.gr
    let Pv : Nat → L2.St → Hp → Prop := fun i σ H => ∃ M' ρ' G' env', Gr M ρ1 H1 M' ρ' H ∧ Rl c M' ρ' G' env' σ H ∧ SQ c W M' ρ' H (forL k mb (ds.drop i) env' G') Dn
    refine ⟨fun i m σ H => m = ds.length - i ∧ i ≤ ds.length ∧ Pv i σ H, ⟨ds.length, by simp, Nat.zero_le _, M, ρ1, G1, env, Gr.refl, R0.ge g1 s1, q1⟩, ?_⟩
    rintro i m σ2 H2 ⟨rfl, hi, M', ρ', G', env', g', R', q'⟩
    have z := hJ M' ρ' H2 g' i
    by_cases hlt : i < ds.length
    · refine .inr ?_
      obtain ⟨zg, zy⟩ := z.1 ds[i] (List.getElem?_eq_getElem hlt)
      refine ⟨zg, Pv (i + 1), fun σ' H' p' => ⟨ds.length - (i + 1), by omega, rfl, hlt, p'⟩, fun x H' y => ?_⟩
      obtain ⟨sm, rx⟩ := zy x H' y
      have R2 := (R'.same sm).set (i := k) (x := EV.d ds[i]) rx
      refine ⟨M', ρ', G', _, R2, ?_⟩
      rw [List.drop_eq_getElem_cons hlt] at q'
      have q2 : SQ c W M' ρ' H' (loopO (mb (env'.set k (.ev (.d ds[i]))) G') (forL k mb (ds.drop (i + 1)))) Dn := SQ.grow q' (Gr.same sm)
      exact SQ.loop q2 fun env2 G2 M2 ρ2 σ3 H3 g3 R3 q3 => ⟨M2, ρ2, G2, env2, (g'.trans (Gr.same sm)).trans g3, R3, q3⟩
    · have e : i = ds.length := by omega
      subst e
      rw [List.drop_length] at q'
      exact .inl ⟨z.2 (Nat.le_refl _), q' M' ρ' σ2 H2 Gr.refl R'⟩
end

/-! ### list comprehensions -/
def wipeE (env : En) : List Nat → En
  | [] => env
  | v :: vs => (wipeE env vs).set v .no
/-- nothing is raised out of a comprehension's element -/
def bindN {α β : Type} (o : Out α) (f : α → GS → Out β) : Out β := match o with
  | .ok a g => f a g
  | _ => .st
def lcL (k : Nat) (tt : BM) (te : EM) : List D → En → GS → Out (List D)
  | [], _, G => .ok [] G
  | d :: ds, env, G => bindN (tt (env.set k (.ev (.d d))) G) fun b G1 => if b = true then bindN (te (env.set k (.ev (.d d))) G1) fun y G2 => (match y with
      | .d y => bindN (lcL k tt te ds env G2) fun ys G3 => .ok (y :: ys) G3
      | _ => .st) else lcL k tt te ds env G1
def eLc (k : Nat) (vs : List Nat) (m : LM) (tt : BM) (te : EM) : EM := fun env G => (m env G).bind fun ds G1 => bindN (lcL k tt te ds (wipeE env vs) G1) fun ys G2 => if ys.length ≤ lstMax then .ok (.d (.lst ys)) G2 else .st
abbrev W0 : WX := fun _ _ _ _ => False
def DTs (X : Cx) (c : RC) (es : List Expr) (m : BM) : Prop := PTs X es (tDB c W0 m)
def bYes : BM := fun _ G => .ok true G
theorem dts_nil {X : Cx} {c : RC} : DTs X c [] bYes := ⟨fun pins s σ H Q I ⟨M, ρ, G, env, R, q⟩ => pts_nil.run pins s σ H Q I (q.ok R.s rfl)⟩
theorem dts_one {X : Cx} {c : RC} {e : Expr} {m : BM} (h : DB X c W0 e m) : DTs X c [e] m := pts_one h
section
variable {X : Cx} {c : RC} {W : WX} {elt e tg : Expr} {ifs : List Expr} {mr : LM} {mt : BM} {me : EM} {pos p : Pos} {M : Addr → Prop} {ρ : List Addr} {σ : L2.St} {H : Hp} {G : GS} {scope : Scope} {own : List (Str × Nat)}
theorem rl_wipe {env : En} (R : Rl c M ρ G env σ H) : ∀ vs : List Nat, Rl c M ρ G (wipeE env vs) (wipe σ vs) H
  | [] => R
  | v :: vs => by
    have Q := rl_wipe R vs
    obtain ⟨oa, h1, h2⟩ := Q.e
    have old : ∀ (j : Nat) (sl : Sl), ((wipeE env vs).set v .no)[j]? = some sl → sl = .no ∨ (j ≠ v ∧ (wipeE env vs)[j]? = some sl) := fun j sl e => by
      rcases env_set e with ⟨_, rfl⟩ | h
      · exact .inl rfl
      · exact .inr h
    refine ⟨Q.s, by unfold wipeE wipe; simpa using Q.len, oa, fun j sl e => ?_, fun i j o u e1 e2 e3 => ?_⟩
    · rcases old j sl e with rfl | ⟨hj, e⟩
      · trivial
      · have h := h1 j sl e
        have sg : (wipe σ (v :: vs))[j]? = (wipe σ vs)[j]? := (List.getElem?_set_ne (Ne.symm hj) : ((wipe σ vs).set v none)[j]? = _)
        match sl, h with
        | .no, _ => trivial
        | .ev e, ⟨v, a, b⟩ => exact ⟨v, by rw [sg]; exact a, b⟩
        | .own (.lst xs), ⟨a, b⟩ => exact ⟨by rw [sg]; exact a, b⟩
        | .own (.ins k fs), ⟨a, b⟩ => exact ⟨by rw [sg]; exact a, b⟩
        | .exn k fs, ⟨a, b⟩ => exact ⟨by rw [sg]; exact a, b⟩
    · rcases old i _ e1 with z | ⟨_, e1⟩
      · cases z
      · rcases old j _ e2 with z | ⟨_, e2⟩
        · cases z
        · exact h2 i j o u e1 e2 e3
/-- the frame with one more address of its own -/
theorem rl_more {env : En} {D : Addr} {o : HO} (R : Rl c M ρ G env σ H) (h : H D = none) : Rl c (fun a => M a ∨ a = D) ρ G env σ (upd H D o) := by
  have sm : Same H (upd H D o) := same_upd h
  have fx := R.s.fresh h
  have g : Gr M ρ H (fun a => M a ∨ a = D) ρ (upd H D o) := ⟨fun a o q _ _ => sm a o q, fun a o q => ⟨o, sm a o q⟩, ⟨[], by simp, by simp⟩, fun a z => z.elim .inl fun e => .inr (by rw [e]; exact h)⟩
  obtain ⟨oa, h1, h2⟩ := R.e
  refine ⟨⟨R.s.len, R.s.nd, fun a ha => ⟨(R.s.sep a ha).1, fun z => z.elim (R.s.sep a ha).2 fun e => fx.2.2 (by rw [← e]; exact ha)⟩, fun i xs e => ?_, fun a z => z.elim (fun z => same_ne sm (R.s.mt a z)) fun e => by rw [e, upd_same]; simp, fun a z => same_ne sm (R.s.bt a z)⟩, R.len, oa, fun i sl e => ?_, h2⟩
  · obtain ⟨a, vs, p, q, r⟩ := R.s.at_ i xs e
    exact ⟨a, vs, p, sm _ _ q, repEs_grow r g⟩
  · have hq := h1 i sl e
    match sl, hq with
    | .no, _ => trivial
    | .ev e, ⟨v, a, b⟩ => exact ⟨v, a, b.grow g⟩
    | .own (.lst xs), ⟨a, b, vs, d, r⟩ => exact ⟨a, ⟨.inl b.1, b.2⟩, vs, sm _ _ d, reps_grow r g⟩
    | .own (.ins k2 f2), ⟨a, o2, b, dx, gs, d, r⟩ => exact ⟨a, o2, .inl b, dx, gs, sm _ _ d, flds_grow r g⟩
    | .exn k2 f2, ⟨a, b⟩ => exact ⟨a, b.grow g⟩
end
end DL

set_option Elab.async false
set_option linter.all false
set_option maxRecDepth 100000
set_option maxHeartbeats 4000000
namespace DL
open PySem L2 PyProof.Rows StX ClX

theorem wipe_get {σ : L2.St} {j : Nat} : ∀ {vs : List Nat}, (wipe σ vs)[j]? = if j ∈ vs ∧ j < σ.length then some none else σ[j]?
  | [] => by simp [wipe]
  | v :: vs => by
    show ((wipe σ vs).set v none)[j]? = _
    by_cases h : v = j
    · subst h
      by_cases hl : v < σ.length
      · rw [List.getElem?_set_self (by rw [wipe_length]; exact hl)]
        simp [hl]
      · have e1 : ((wipe σ vs).set v none)[v]? = none := List.getElem?_eq_none (by rw [List.length_set, wipe_length]; omega)
        have e2 : σ[v]? = none := List.getElem?_eq_none (by omega)
        rw [e1, if_neg (fun z => hl z.2), e2]
    · rw [List.getElem?_set_ne h, wipe_get (vs := vs)]
      have : (j ∈ v :: vs) ↔ j ∈ vs := by
        constructor
        · intro z
          rcases List.mem_cons.mp z with z | z
          · exact absurd z.symm h
          · exact z
        · exact List.mem_cons_of_mem _
      simp [this]
theorem wipe_set {σ : L2.St} {k : Nat} {y : Option V} {vs : List Nat} (h : k ∈ vs) : wipe ((wipe σ vs).set k y) vs = wipe σ vs := by
  refine List.ext_getElem? fun j => ?_
  rw [wipe_get, List.length_set, wipe_length]
  by_cases hj : j ∈ vs ∧ j < σ.length
  · rw [if_pos hj, wipe_get, if_pos hj]
  · rw [if_neg hj]
    by_cases hk : k = j
    · subst hk
      have hl : ¬ k < σ.length := fun z => hj ⟨h, z⟩
      rw [List.getElem?_eq_none (by rw [List.length_set, wipe_length]; omega), List.getElem?_eq_none (by rw [wipe_length]; omega)]
    · rw [List.getElem?_set_ne hk]
section
variable {X : Cx} {c : RC} {W : WX} {elt e tg : Expr} {ifs : List Expr} {mr : LM} {mt : BM} {me : EM} {pos p : Pos} {M : Addr → Prop} {ρ : List Addr} {σ : L2.St} {H : Hp} {G : GS} {scope : Scope} {own : List (Str × Nat)} {k : Nat}
theorem RepN.zz {M1 M2 : Addr → Prop} {ρ1 ρ2 : List Addr} (hz : ∀ a, Zz c M1 ρ1 a → Zz c M2 ρ2 a) : ∀ {n : Nat} {d : DL.D} {u : V}, RepN c M1 ρ1 H n d u → RepN c M2 ρ2 H n d u := by
  intro n
  induction n with
  | zero => intro d u h; cases d <;> exact h
  | succ n ih =>
    intro d u h
    cases d with
    | tup xs => obtain ⟨a, vs, e, z, r⟩ := h; exact ⟨a, vs, e, z.imp (fun q => ⟨hz a q.1, q.2⟩) id, r.imp fun _ _ q => ih q⟩
    | lst xs => obtain ⟨a, vs, e, z, r⟩ := h; exact ⟨a, vs, e, z.imp (fun q => ⟨hz a q.1, q.2⟩) id, r.imp fun _ _ q => ih q⟩
    | ins k fs => obtain ⟨a, dx, gs, e, z, e2, nm, r⟩ := h; exact ⟨a, dx, gs, e, hz a z, e2, nm, r.imp fun _ _ q => ih q⟩
    | _ => exact h
theorem Rep.zz {M1 M2 : Addr → Prop} {ρ1 ρ2 : List Addr} (hz : ∀ a, Zz c M1 ρ1 a → Zz c M2 ρ2 a) {d : DL.D} {u : V} (h : Rep c M1 ρ1 H d u) : Rep c M2 ρ2 H d u := let ⟨n, q⟩ := h; ⟨n, RepN.zz hz q⟩
theorem map_dz {xs : List DL.D} {vs : List V} (h : All2 (Rep c M ρ H) xs vs) : All2 (RepE c M ρ H) (xs.map .d) vs := by
  induction h with
  | nil => exact .nil
  | cons r _ ih => exact .cons r ih
/-- while the new list at D grows -/
structure LcI (c : RC) (M : Addr → Prop) (ρ1 : List Addr) (H1 : Hp) (D : Addr) (ρ' : List Addr) (G' : GS) (envw : En) (σw : L2.St) (H : Hp) (done : List DL.D) : Prop where
  g : Ge M ρ1 H1 ρ' H
  nd : D ∉ ρ'
  s : SR c (fun a => M a ∨ a = D) ρ' G' H
  len : envw.length ≤ σw.length
  e : ∃ oa : Nat → Addr, (∀ (i : Nat) (sl : Sl), envw[i]? = some sl → SlR c (fun a => M a ∨ a = D) ρ' H oa σw i sl) ∧ (∀ (i j : Nat) (o u : OW), envw[i]? = some (.own o) → envw[j]? = some (.own u) → oa i = oa j → i = j) ∧ ∀ (i : Nat) (o : OW), envw[i]? = some (.own o) → oa i ≠ D
  at_ : ∃ acc, H D = some (.lst acc) ∧ All2 (Rep c (fun a => M a ∨ a = D) ρ' H) done acc
theorem LcI.r {ρ1 : List Addr} {H1 : Hp} {D : Addr} {ρ' : List Addr} {G' : GS} {envw : En} {σw : L2.St} {done : List DL.D} (L : LcI c M ρ1 H1 D ρ' G' envw σw H done) : Rl c (fun a => M a ∨ a = D) ρ' G' envw σw H :=
  let ⟨oa, h1, h2, _⟩ := L.e; ⟨L.s, L.len, oa, h1, h2⟩
theorem slr_ge {M' : Addr → Prop} {ρ' ρ2 : List Addr} {H' : Hp} {oa : Nat → Addr} {i : Nat} {sl : Sl} (hM : ∀ a, M' a → a ∉ ρ') (h : SlR c M' ρ' H oa σ i sl) (g : Ge M' ρ' H ρ2 H') : SlR c M' ρ2 H' oa σ i sl := by
  match sl, h with
  | .no, _ => trivial
  | .ev e, ⟨v, a, b⟩ => exact ⟨v, a, b.grow g.gr⟩
  | .own (.lst xs), ⟨a, b, vs, d, f⟩ => exact ⟨a, b, vs, g.keep _ _ d (hM _ b.1), reps_grow f g.gr⟩
  | .own (.ins k fs), ⟨a, o, b, dx, gs, d, f⟩ => exact ⟨a, o, b, dx, gs, g.keep _ _ d (hM _ b), flds_grow f g.gr⟩
  | .exn k fs, ⟨a, b⟩ => exact ⟨a, b.grow g.gr⟩
theorem lcI_ge {ρ1 : List Addr} {H1 : Hp} {D : Addr} {ρ' ρ2 : List Addr} {G' G2 : GS} {envw : En} {σw : L2.St} {H' : Hp} {done : List DL.D} (L : LcI c M ρ1 H1 D ρ' G' envw σw H done) (g : Ge (fun a => M a ∨ a = D) ρ' H ρ2 H') (s : SR c (fun a => M a ∨ a = D) ρ2 G2 H') : LcI c M ρ1 H1 D ρ2 G2 envw σw H' done := by
  obtain ⟨acc, hA, ra⟩ := L.at_
  obtain ⟨oa, h1, h2, h3⟩ := L.e
  have g' : Ge M ρ' H ρ2 H' := ⟨g.keep, g.there, g.grow⟩
  exact ⟨L.g.trans g', fun z => (s.sep D z).2 (.inr rfl), s, L.len, ⟨oa, fun i sl e => slr_ge (fun a m h => (L.s.sep a h).2 m) (h1 i sl e) g, h2, h3⟩, acc, g.keep D _ hA L.nd, reps_grow ra g.gr⟩
/-- one more item -/
theorem lcI_put {ρ1 : List Addr} {H1 : Hp} {D : Addr} {ρ' : List Addr} {G' : GS} {envw : En} {σw : L2.St} {done : List DL.D} {acc : List V} {y : DL.D} {v : V} (hD : H1 D = none) (L : LcI c M ρ1 H1 D ρ' G' envw σw H done) (hA : H D = some (.lst acc)) (ra : All2 (Rep c (fun a => M a ∨ a = D) ρ' H) done acc)
    (rv : Rep c (fun a => M a ∨ a = D) ρ' H y v) : LcI c M ρ1 H1 D ρ' G' envw σw (upd H D (.lst (acc ++ [v]))) (done ++ [y]) := by
  obtain ⟨oa, h1, h2, h3⟩ := L.e
  have hm' : (fun a => M a ∨ a = D) D := .inr rfl
  have gw := gr_own (M := fun a => M a ∨ a = D) (ρ := ρ') (o := .lst (acc ++ [v])) hm' hA
  have keepH : ∀ a o, H1 a = some o → (upd H D (.lst (acc ++ [v]))) a = H a := fun a o e => upd_ne (ne_of_none e hD)
  refine ⟨⟨fun a o e n => by rw [keepH a o e]; exact L.g.keep a o e n, fun a o e => by rw [keepH a o e]; exact L.g.there a o e, L.g.grow⟩, L.nd, L.s.own hm' hA, L.len, ⟨oa, fun i sl e => ?_, h2, h3⟩, acc ++ [v], upd_same, All2.append (reps_grow ra gw) (.cons (Rep.grow rv gw) .nil)⟩
  have h := h1 i sl e
  match sl, h, e with
  | .no, _, _ => trivial
  | .ev e, ⟨v, a, b⟩, _ => exact ⟨v, a, b.grow gw⟩
  | .own (.lst xs), ⟨a, b, vs, d, f⟩, e => exact ⟨a, b, vs, by rw [upd_ne (h3 i _ e)]; exact d, reps_grow f gw⟩
  | .own (.ins k fs), ⟨a, o, b, dx, gs, d, f⟩, e => exact ⟨a, o, b, dx, gs, by rw [upd_ne (by rw [← o]; exact h3 i _ e)]; exact d, flds_grow f gw⟩
  | .exn k fs, ⟨a, b⟩, _ => exact ⟨a, b.grow gw⟩
theorem cv_less {D : Addr} : Cv c (fun a => M a ∨ a = D) c M ρ := ⟨rfl, rfl, rfl, fun a h => ⟨h.1, fun z => h.2.1 (.inl z), h.2.2⟩⟩
/-- a comprehension whose list ends as Fin says -/
def eLcG {β : Type} (Fin : List DL.D → GS → Out β) (k : Nat) (vs : List Nat) (mr : LM) (mt : BM) (me : EM) : En → GS → Out β := fun env G => (mr env G).bind fun ds G1 => bindN (lcL k mt me ds (wipeE env vs) G1) fun ys G2 => if ys.length ≤ lstMax then Fin ys G2 else .st
def eLcF (Fin : List DL.D → GS → Out EV) (k : Nat) (vs : List Nat) (mr : LM) (mt : BM) (me : EM) : EM := fun env G => (mr env G).bind fun ds G1 => bindN (lcL k mt me ds (wipeE env vs) G1) fun ys G2 => if ys.length ≤ lstMax then Fin ys G2 else .st
/-- what is to be shown of Fin: the list that stands at D is it -/
def FinOk (c : RC) (W : WX) (Fin : List DL.D → GS → Out EV) : Prop := ∀ (M : Addr → Prop) (ρ1 ρ' : List Addr) (σ : L2.St) (G1 G' : GS) (H1 H2 : Hp) (D : Addr) (envw : En) (σw : L2.St) (done : List DL.D) (Q : VK),
  SR c M ρ1 G1 H1 → H1 D = none → LcI c M ρ1 H1 D ρ' G' envw σw H2 done → TQ (RE c) c W M ρ1 σ H1 (Fin done G') Q → Q (.ref D) H2
theorem tlc_ofG {β : Type} {Rr : (Addr → Prop) → List Addr → Hp → β → V → Prop} {Fin : List DL.D → GS → Out β} {wi : TI} {Q : VK} {vs : List Nat} {env : En} (R0 : Rl c M ρ G env σ H)
    (hF : ∀ (ρ1 ρ' : List Addr) (G1 G' : GS) (H1 H2 : Hp) (D : Addr) (done : List DL.D), Ge M ρ H ρ1 H1 → SR c M ρ1 G1 H1 → H1 D = none → LcI c M ρ1 H1 D ρ' G' (wipeE env vs) (wipe σ vs) H2 done → TQ Rr c W M ρ1 σ H1 (Fin done G') Q → Q (.ref D) H2)
    (hk : k ∈ vs) (hwi : ∀ R, tDI c W mr σ H R → wi σ H R) (q : TQ Rr c W M ρ σ H (eLcG Fin k vs mr mt me env G) Q) : tLc wi (gName k) (tDB c W0 mt) (tD c W0 me) vs σ H Q := by
  refine hwi _ ⟨M, ρ, G, env, R0, ?_⟩
  unfold eLcG at q
  cases hm : mr env G with
  | st => rw [hm] at q; exact q
  | er cl fs G1 => rw [hm] at q; exact q
  | ok ds G1 =>
    rw [hm] at q
    intro J ρ1 H1 g1 s1 hJ D hD
    have R1 := R0.ge g1 s1
    have q1 : TQ Rr c W M ρ1 σ H1 (bindN (lcL k mt me ds (wipeE env vs) G1) fun ys G2 => if ys.length ≤ lstMax then Fin ys G2 else .st) Q := TQ.grow q g1
    -- what is left to do, behind done
    let Pv : Nat → Hp → Prop := fun i H => ∃ ρ' G' done, LcI c M ρ1 H1 D ρ' G' (wipeE env vs) (wipe σ vs) H done ∧ done.length ≤ lstMax ∧ (∀ ys G3, lcL k mt me (ds.drop i) (wipeE env vs) G' = .ok ys G3 → (done ++ ys).length ≤ lstMax) ∧
      TQ Rr c W M ρ1 σ H1 (bindN (lcL k mt me (ds.drop i) (wipeE env vs) G') fun ys G2 => Fin (done ++ ys) G2) Q
    have bound : ∀ {ρ' : List Addr} {H2 : Hp} {o : Out (List DL.D)}, TQ Rr c W M ρ' σ H2 (bindN o fun ys G2 => if ys.length ≤ lstMax then Fin ys G2 else .st) Q → (∀ ys G3, o = .ok ys G3 → ys.length ≤ lstMax) ∧ TQ Rr c W M ρ' σ H2 (bindN o fun ys G2 => Fin ys G2) Q := fun {ρ' H2 o} h => by
      cases o with
      | ok ys G3 =>
        have h' : TQ Rr c W M ρ' σ H2 (if ys.length ≤ lstMax then Fin ys G3 else .st) Q := h
        split at h'
        · rename_i hl
          exact ⟨fun a b e => by cases e; exact hl, h'⟩
        · exact h'.elim
      | er cl fs G3 => exact (show False from h).elim
      | st => exact (show False from h).elim
    obtain ⟨b1, q2⟩ := bound q1
    have L0 : LcI c M ρ1 H1 D ρ1 G1 (wipeE env vs) (wipe σ vs) (upd H1 D (.lst [])) [] :=
      let RM := rl_more (o := .lst []) (rl_wipe R1 vs) hD
      let RW := rl_wipe R1 vs
      by
        obtain ⟨oa, h1, h2⟩ := RW.e
        have fx := s1.fresh hD
        have sm : Same H1 (upd H1 D (.lst [])) := same_upd hD
        have g : Gr M ρ1 H1 (fun a => M a ∨ a = D) ρ1 (upd H1 D (.lst [])) := ⟨fun a o q _ _ => sm a o q, fun a o q => ⟨o, sm a o q⟩, ⟨[], by simp, by simp⟩, fun a z => z.elim .inl fun e => .inr (by rw [e]; exact hD)⟩
        refine ⟨Ge.same sm, fx.2.2, RM.s, RM.len, ⟨oa, fun i sl e => ?_, h2, fun i o e => ?_⟩, [], upd_same, .nil⟩
        · have hq := h1 i sl e
          match sl, hq with
          | .no, _ => trivial
          | .ev e, ⟨v, a, b⟩ => exact ⟨v, a, b.grow g⟩
          | .own (.lst xs), ⟨a, b, vs, d, r⟩ => exact ⟨a, ⟨.inl b.1, b.2⟩, vs, sm _ _ d, reps_grow r g⟩
          | .own (.ins k2 f2), ⟨a, o2, b, dx, gs, d, r⟩ => exact ⟨a, o2, .inl b, dx, gs, sm _ _ d, flds_grow r g⟩
          | .exn k2 f2, ⟨a, b⟩ => exact ⟨a, b.grow g⟩
        · have hq := h1 i _ e
          match o, hq with
          | .lst xs, ⟨_, b, _⟩ => exact fun z => fx.2.1 (by rw [← z]; exact b.1)
          | .ins k2 f2, ⟨_, o2, b, _⟩ => exact fun z => fx.2.1 (by rw [← z, o2]; exact b)
    refine ⟨fun i m H => m = ds.length - i ∧ i ≤ ds.length ∧ Pv i H, ⟨ds.length, by simp, Nat.zero_le _, ρ1, G1, [], L0, by simp, by simpa using b1, by simpa using q2⟩, ?_⟩
    rintro i m H2 ⟨rfl, hi, ρ', G', done, L, hdn, hbd, q'⟩
    have gD : Gr M ρ1 H1 (fun a => M a ∨ a = D) ρ' H2 := ⟨fun a o e n _ => L.g.keep a o e n, L.g.there, L.g.grow, fun a z => z.elim .inl fun e => .inr (by rw [e]; exact hD)⟩
    have z := hJ _ ρ' H2 gD i
    by_cases hlt : i < ds.length
    · refine .inr ?_
      obtain ⟨zg, zy⟩ := z.1 ds[i] (List.getElem?_eq_getElem hlt)
      refine ⟨zg, Pv (i + 1), fun H' p' => ⟨ds.length - (i + 1), by omega, rfl, hlt, p'⟩, fun x H' y => ?_⟩
      obtain ⟨sm, rx⟩ := zy x H' y
      have L1 : LcI c M ρ1 H1 D ρ' G' (wipeE env vs) (wipe σ vs) H' done := lcI_ge L (Ge.same sm) (L.s.same sm)
      have R2 := L1.r.set (i := k) (x := EV.d ds[i]) rx
      refine ⟨wipe_set hk, (fun a => M a ∨ a = D), ρ', G', _, R2, ?_⟩
      rw [List.drop_eq_getElem_cons hlt] at q' hbd
      have q3 : TQ Rr c W M ρ1 σ H1 (bindN (lcL k mt me (ds[i] :: ds.drop (i + 1)) (wipeE env vs) G') fun ys G2 => Fin (done ++ ys) G2) Q := q'
      have key : lcL k mt me (ds[i] :: ds.drop (i + 1)) (wipeE env vs) G' = bindN (mt ((wipeE env vs).set k (.ev (.d ds[i]))) G') fun b G1 => if b = true then bindN (me ((wipeE env vs).set k (.ev (.d ds[i]))) G1) fun y G2 => (match y with
        | .d y => bindN (lcL k mt me (ds.drop (i + 1)) (wipeE env vs) G2) fun ys G3 => .ok (y :: ys) G3
        | _ => .st) else lcL k mt me (ds.drop (i + 1)) (wipeE env vs) G1 := rfl
      rw [key] at q3 hbd
      cases ht : mt ((wipeE env vs).set k (.ev (.d ds[i]))) G' with
      | st => rw [ht] at q3; exact (show False from q3).elim
      | er cl fs G3 => rw [ht] at q3; exact (show False from q3).elim
      | ok b G3 =>
        rw [ht] at q3 hbd
        intro b' ρ3 H3 g3 s3 eb
        obtain rfl : b' = b := eb.symm
        have L3 : LcI c M ρ1 H1 D ρ3 G3 (wipeE env vs) (wipe σ vs) H3 done := lcI_ge L1 g3 s3
        have q4 : TQ Rr c W M ρ1 σ H1 (bindN (if b' = true then bindN (me ((wipeE env vs).set k (.ev (.d ds[i]))) G3) fun y G2 => (match y with
          | .d y => bindN (lcL k mt me (ds.drop (i + 1)) (wipeE env vs) G2) fun ys G3 => .ok (y :: ys) G3
          | _ => .st) else lcL k mt me (ds.drop (i + 1)) (wipeE env vs) G3) fun ys G2 => Fin (done ++ ys) G2) Q := q3
        have hb4 : ∀ ys G5, (if b' = true then bindN (me ((wipeE env vs).set k (.ev (.d ds[i]))) G3) fun y G2 => (match y with
          | .d y => bindN (lcL k mt me (ds.drop (i + 1)) (wipeE env vs) G2) fun ys G3 => .ok (y :: ys) G3
          | _ => .st) else lcL k mt me (ds.drop (i + 1)) (wipeE env vs) G3) = .ok ys G5 → (done ++ ys).length ≤ lstMax := hbd
        cases b' with
        | false =>
          rw [if_neg (by decide)] at q4 hb4 ⊢
          exact ⟨ρ3, G3, done, L3, hdn, hb4, q4⟩
        | true =>
          rw [if_pos rfl] at q4 hb4 ⊢
          have R3 : Rl c (fun a => M a ∨ a = D) ρ3 G3 ((wipeE env vs).set k (.ev (.d ds[i]))) ((wipe σ vs).set k (some x)) H3 := R2.ge g3 s3
          refine ⟨_, ρ3, G3, _, R3, ?_⟩
          cases he : me ((wipeE env vs).set k (.ev (.d ds[i]))) G3 with
          | st => rw [he] at q4; exact (show False from q4).elim
          | er cl fs G5 => rw [he] at q4; exact (show False from q4).elim
          | ok y G5 =>
            rw [he] at q4 hb4
            cases y with
            | o j => exact (show False from q4).elim
            | d y =>
              intro v ρ5 H5 g5 s5 rv
              have L5 : LcI c M ρ1 H1 D ρ5 G5 (wipeE env vs) (wipe σ vs) H5 done := lcI_ge L3 g5 s5
              obtain ⟨acc, hA, ra⟩ := L5.at_
              have q5 : TQ Rr c W M ρ1 σ H1 (bindN (bindN (lcL k mt me (ds.drop (i + 1)) (wipeE env vs) G5) fun ys G3 => .ok (y :: ys) G3) fun ys G2 => Fin (done ++ ys) G2) Q := q4
              have hb5 : ∀ ys G6, (bindN (lcL k mt me (ds.drop (i + 1)) (wipeE env vs) G5) fun ys G3 => .ok (y :: ys) G3) = .ok ys G6 → (done ++ ys).length ≤ lstMax := hb4
              cases hr : lcL k mt me (ds.drop (i + 1)) (wipeE env vs) G5 with
              | st => rw [hr] at q5; exact (show False from q5).elim
              | er cl fs G6 => rw [hr] at q5; exact (show False from q5).elim
              | ok ys G6 =>
                rw [hr] at q5 hb5
                have hbb := hb5 (y :: ys) G6 rfl
                have hlen : acc.length < sizeLine := by
                  rw [← ra.length]
                  refine Nat.lt_of_lt_of_le (Nat.lt_succ_of_le hdn) (by decide)
                refine ⟨acc, hA, hlen, ρ5, G5, done ++ [y], lcI_put hD L5 hA ra rv, ?_, ?_, ?_⟩
                · simp at hbb ⊢; omega
                · intro ys' G7 e
                  rw [hr] at e
                  cases e
                  simpa using hbb
                · rw [hr]
                  have q7 : TQ Rr c W M ρ1 σ H1 (Fin (done ++ (y :: ys)) G6) Q := q5
                  show TQ Rr c W M ρ1 σ H1 (Fin ((done ++ [y]) ++ ys) G6) Q
                  rw [List.append_assoc]
                  exact q7
    · have e : i = ds.length := by omega
      subst e
      rw [List.drop_length] at q'
      refine .inl ⟨z.2 (Nat.le_refl _), ?_⟩
      have q6 : TQ Rr c W M ρ1 σ H1 (Fin (done ++ []) G') Q := q'
      rw [List.append_nil] at q6
      exact hF ρ1 ρ' G1 G' H1 H2 D done g1 s1 hD L q6
theorem tlc_ofF {Fin : List DL.D → GS → Out EV} (hF : FinOk c W Fin) {wi : TI} {Q : VK} {vs : List Nat} (hk : k ∈ vs) (hwi : ∀ R, tDI c W mr σ H R → wi σ H R) (q : tD c W (eLcF Fin k vs mr mt me) σ H Q) : tLc wi (gName k) (tDB c W0 mt) (tD c W0 me) vs σ H Q := by
  obtain ⟨M, ρ, G, env, R0, q⟩ := q
  exact tlc_ofG (Rr := RE c) (Fin := Fin) R0 (fun ρ1 ρ' G1 G' H1 H2 D done g1 s1 hD L q6 => hF M ρ1 ρ' σ G1 G' H1 H2 D _ _ done Q s1 hD L q6) hk hwi q
theorem finD : FinOk c W (fun ys G => .ok (.d (.lst ys)) G) := fun M ρ1 ρ' σ G1 G' H1 H2 D envw σw done Q s1 hD L q6 => by
  obtain ⟨acc, hA, ra⟩ := L.at_
  have fx := s1.fresh hD
  have sM : SR c M ρ' G' H2 := L.s.cv cv_less (fun a h => ⟨(L.s.sep a h).1, fun z => (L.s.sep a h).2 (.inl z)⟩) (fun a z => L.s.mt a (.inl z)) L.s.bt
  exact q6 (.ref D) ρ' H2 L.g sM (Rep.lst (.inl ⟨⟨fx.1, fx.2.1, L.nd⟩, .inl hA⟩) (ra.imp fun _ _ r => r.cv cv_less))
theorem tlc_of {wi : TI} {Q : VK} {vs : List Nat} (hk : k ∈ vs) (hwi : ∀ R, tDI c W mr σ H R → wi σ H R) (q : tD c W (eLc k vs mr mt me) σ H Q) : tLc wi (gName k) (tDB c W0 mt) (tD c W0 me) vs σ H Q := by
  refine tlc_ofF (Fin := fun ys G => .ok (.d (.lst ys)) G) finD hk hwi ?_
  exact q
/-- the list is an object that may be written -/
def eLcO (k : Nat) (vs : List Nat) (mr : LM) (mt : BM) (me : EM) : EM := eLcF (fun ys G => .ok (.o G.length) (G ++ [.lst (ys.map .d)])) k vs mr mt me
theorem finO : FinOk c W (fun ys G => .ok (.o G.length) (G ++ [.lst (ys.map .d)])) := fun M ρ1 ρ' σ G1 G' H1 H2 D envw σw done Q s1 hD L q6 => by
  obtain ⟨acc, hA, ra⟩ := L.at_
  have fx := s1.fresh hD
  have cz : ∀ a, Zz c (fun a => M a ∨ a = D) ρ' a → Zz c M (ρ' ++ [D]) a := fun a h => ⟨h.1, fun z => h.2.1 (.inl z), fun z => by
    rcases List.mem_append.mp z with z | z
    · exact h.2.2 z
    · exact h.2.1 (.inr (by simpa using z))⟩
  have hlen : ρ'.length = G'.length := L.s.len
  have rM : All2 (RepE c M (ρ' ++ [D]) H2) (done.map EV.d) acc := map_dz (ra.imp fun _ _ r => Rep.zz cz r)
  have hs : SR c M (ρ' ++ [D]) (G' ++ [.lst (done.map .d)]) H2 := by
    refine ⟨by simp [hlen], ?_, fun a h => ?_, fun i ys e => ?_, fun a m => L.s.mt a (.inl m), L.s.bt⟩
    · refine List.nodup_append.mpr ⟨L.s.nd, by simp, fun a h1 b h2 => ?_⟩
      rintro rfl
      exact L.nd (by rw [List.mem_singleton] at h2; rw [← h2]; exact h1)
    · rcases List.mem_append.mp h with h | h
      · exact ⟨(L.s.sep a h).1, fun z => (L.s.sep a h).2 (.inl z)⟩
      · rw [List.mem_singleton] at h
        subst h
        exact ⟨fx.1, fx.2.1⟩
    · by_cases hi : i < G'.length
      · rw [List.getElem?_append_left hi] at e
        obtain ⟨a, us, h1, h2, h3⟩ := L.s.at_ i ys e
        refine ⟨a, us, by rw [List.getElem?_append_left (by rw [hlen]; exact hi)]; exact h1, h2, h3.imp fun x u r => ?_⟩
        cases x with
        | d x => exact Rep.zz cz r
        | o j =>
          obtain ⟨b, e1, e2⟩ := r
          exact ⟨b, by rw [List.getElem?_append_left (List.getElem?_eq_some_iff.mp e1).1]; exact e1, e2⟩
      · have hi2 : i = G'.length := by
          have := (List.getElem?_eq_some_iff.mp e).1
          simp at this
          omega
        subst hi2
        rw [List.getElem?_append_right (Nat.le_refl _), Nat.sub_self] at e
        cases e
        exact ⟨D, acc, by rw [← hlen]; simp, hA, rM⟩
  have hg : Ge M ρ1 H1 (ρ' ++ [D]) H2 := by
    obtain ⟨ext, e1, e2⟩ := L.g.grow
    refine ⟨L.g.keep, L.g.there, ext ++ [D], by rw [e1, List.append_assoc], fun a h => ?_⟩
    rcases List.mem_append.mp h with h | h
    · exact e2 a h
    · rw [List.mem_singleton] at h; subst h; exact hD
  exact q6 (.ref D) (ρ' ++ [D]) H2 hg hs ⟨D, by rw [← hlen]; simp, rfl⟩
theorem de_lcO (hc : X.calm = true) (hN : X.N.Nodup) (hi : DI X c W tg e mr) (ok : BlkOk X.N X.env.scope scope own) (hk : k ∈ own.map (·.2))
    (hg : ∀ (s : Shared) (H : Hp) (C : Addr) (cl : List (Str × Addr)) (fp : List Addr), PG (X.blk s H scope (compEnvC scope cl C X.env) fp) tg (gName k)) (ht : ∀ (s : Shared) (H : Hp) (C : Addr) (cl : List (Str × Addr)) (fp : List Addr), DTs (X.blk s H scope (compEnvC scope cl C X.env) fp) c ifs mt)
    (he : ∀ (s : Shared) (H : Hp) (C : Addr) (cl : List (Str × Addr)) (fp : List Addr), DE (X.blk s H scope (compEnvC scope cl C X.env) fp) c W0 elt me) (hs : ∀ x, foldedSetIterable e X.env x = pure x := by intro _; rfl) :
    DE X c W (.ListComp elt [⟨tg, e, ifs, 0⟩] scope pos) (eLcO k (own.map (·.2)) mr mt me) :=
  pe_imp (pe_lc hc hN hi ok hg ht he hs) fun σ H Q q => tlc_ofF finO hk (fun R q => q) q
theorem de_lc (hc : X.calm = true) (hN : X.N.Nodup) (hi : DI X c W tg e mr) (ok : BlkOk X.N X.env.scope scope own) (hk : k ∈ own.map (·.2))
    (hg : ∀ (s : Shared) (H : Hp) (C : Addr) (cl : List (Str × Addr)) (fp : List Addr), PG (X.blk s H scope (compEnvC scope cl C X.env) fp) tg (gName k)) (ht : ∀ (s : Shared) (H : Hp) (C : Addr) (cl : List (Str × Addr)) (fp : List Addr), DTs (X.blk s H scope (compEnvC scope cl C X.env) fp) c ifs mt)
    (he : ∀ (s : Shared) (H : Hp) (C : Addr) (cl : List (Str × Addr)) (fp : List Addr), DE (X.blk s H scope (compEnvC scope cl C X.env) fp) c W0 elt me) (hs : ∀ x, foldedSetIterable e X.env x = pure x := by intro _; rfl) :
    DE X c W (.ListComp elt [⟨tg, e, ifs, 0⟩] scope pos) (eLc k (own.map (·.2)) mr mt me) :=
  pe_imp (pe_lc hc hN hi ok hg ht he hs) fun σ H Q q => tlc_of hk (fun R q => q) q
theorem ds_setLc {i : Nat} {y : Str} {py spos : Pos} (hc : X.calm = true) (hN : X.N.Nodup) (hy : X.N[i]? = some y) (hyl : X.env.scope.names.lookup y = some .local)
    (hsw : swapsWith (.ListComp elt [⟨tg, e, ifs, 0⟩] scope pos) (some (.Name y py)) spos.line X.env = pure true) (hi : DI X c W tg e mr) (ok : BlkOk X.N X.env.scope scope own) (hk : k ∈ own.map (·.2))
    (hg : ∀ (s : Shared) (H : Hp) (C : Addr) (cl : List (Str × Addr)) (fp : List Addr), PG (X.blk s H scope (compEnvC scope cl C X.env) fp) tg (gName k)) (ht : ∀ (s : Shared) (H : Hp) (C : Addr) (cl : List (Str × Addr)) (fp : List Addr), DTs (X.blk s H scope (compEnvC scope cl C X.env) fp) c ifs mt)
    (he : ∀ (s : Shared) (H : Hp) (C : Addr) (cl : List (Str × Addr)) (fp : List Addr), DE (X.blk s H scope (compEnvC scope cl C X.env) fp) c W0 elt me) (hs : ∀ x, foldedSetIterable e X.env x = pure x := by intro _; rfl) :
    DS X c W (.Assign [.Name y py] (.ListComp elt [⟨tg, e, ifs, 0⟩] scope pos) spos) (sSet i (eLc k (own.map (·.2)) mr mt me)) := by
  refine ps_imp (ps_setLc hc hN hy hyl hsw hi ok hg ht he hs) fun Dn σ H q => ?_
  obtain ⟨M, ρ, G, env, R, q⟩ := q
  refine tlc_of hk (fun R q => q) ⟨M, ρ, G, env, R, (SQ.ofE (R := RE c) R q).imp fun v H1 ⟨ρ1, G1, e1, g1, R1, r1, q1⟩ => ?_⟩
  exact q1 M ρ1 _ H1 Gr.refl (R1.set r1)
end
end DL

set_option Elab.async false
set_option linter.all false
set_option maxRecDepth 100000
set_option maxHeartbeats 4000000
namespace DL
open PySem L2 PyProof.Rows StX ClX

section
variable {X : Cx} {c : RC} {W : WX} {e o a b : Expr} {es : List Expr} {ma mb mo mi me : EM} {mr : AM} {pos p p2 : Pos} {M : Addr → Prop} {ρ : List Addr} {σ : L2.St} {H : Hp} {G : GS}
theorem all2_two {α β : Type} {R : α → β → Prop} {x y : α} {vs : List β} (h : All2 R [x, y] vs) : ∃ a b, vs = [a, b] ∧ R x a ∧ R y b := by
  cases h with
  | cons r t => cases t with
    | cons r2 t => cases t; exact ⟨_, _, rfl, r, r2⟩
theorem all2_one {α β : Type} {R : α → β → Prop} {x : α} {vs : List β} (h : All2 R [x] vs) : ∃ a, vs = [a] ∧ R x a := by
  cases h with
  | cons r t => cases t; exact ⟨_, rfl, r⟩
theorem atI_all2 {α β : Type} {R : α → β → Prop} {xs : List α} {ys : List β} {i : Int} {x : α} (r : All2 R xs ys) (h : atI xs i = some x) : ∃ y, atI ys i = some y ∧ R x y := by
  unfold atI at h ⊢
  rw [← r.length]
  cases hi : ixN xs.length i with
  | none => rw [hi] at h; cases h
  | some j => rw [hi] at h; exact r.get h
theorem dix (hK : c.K = X.K) : IxR X (V2 c fIx) := by
  intro value slice pins s σ H x y v u Q I rx ry ⟨M, ρ, G, a, b, sr, ra, rb, q⟩ hs
  unfold fIx at q
  split at q
  · rename_i xs i
    obtain ⟨p, vs, rfl, z, rr⟩ := Rep.of_lst ra
    cases Rep.of_int rb
    cases hz : atI xs i with
    | none => rw [hz] at q; exact q.elim
    | some d =>
      rw [hz] at q
      obtain ⟨w, hw, rw'⟩ := atI_all2 rr hz
      exact ix_list value slice pins s σ H _ _ v u Q I rx ry ⟨p, vs, i, w, rfl, rfl, by rw [← hK]; exact z.sq, hw, q _ ρ H Ge.refl sr rw'⟩ hs
  · rename_i xs i
    obtain ⟨p, vs, rfl, z, rr⟩ := Rep.of_tup ra
    cases Rep.of_int rb
    cases hz : atI xs i with
    | none => rw [hz] at q; exact q.elim
    | some d =>
      rw [hz] at q
      obtain ⟨w, hw, rw'⟩ := atI_all2 rr hz
      exact ix_tup value slice pins s σ H _ _ v u Q I rx ry ⟨p, vs, i, w, rfl, rfl, by rw [← hK]; exact z.sq, hw, q _ ρ H Ge.refl sr rw'⟩ hs
  · rename_i k i
    obtain ⟨p, hp, rfl⟩ := ra
    cases Rep.of_int rb
    split at q
    · rename_i xs hx
      obtain ⟨p', vs, hp', hH, rr⟩ := sr.at_ k xs hx
      rw [hp] at hp'
      cases hp'
      cases hz : atI xs i with
      | none => rw [hz] at q; exact q.elim
      | some d =>
        rw [hz] at q
        obtain ⟨w, hw, rw'⟩ := atI_all2 rr hz
        exact ix_list value slice pins s σ H _ _ v u Q I rx ry ⟨p, vs, i, w, rfl, rfl, SqL.of hH, hw, q _ ρ H Ge.refl sr rw'⟩ hs
    · exact q.elim
  · exact q.elim
theorem de_ix {f : F2} (hr : IxR X (V2 c f)) (ha : DE X c W a ma) (hb : DE X c W b mb) (hs : PlainIx b := by intro _ _; rfl) : DE X c W (.Subscript a b pos) (eOp f ma mb) := by
  refine pe_imp (pe_ix hr ha hb hs) fun σ H Q q => ?_
  obtain ⟨M, ρ, G, env, R, q⟩ := q
  refine ⟨M, ρ, G, env, R, (TQ.bind (R := RE c) q).imp fun v H1 ⟨ρ1, G1, e1, g1, s1, r1, q1⟩ => ?_⟩
  refine ⟨M, ρ1, G1, env, R.ge g1 s1, (TQ.bind (R := RE c) q1).imp fun u H2 ⟨ρ2, G2, e2, g2, s2, r2, q2⟩ => ?_⟩
  exact ⟨M, ρ2, G2, e1, e2, s2, r1.grow g2.gr, r2, VQ.of q2⟩
/-! slices -/
abbrev OM := En → GS → Out (Option Int)
abbrev RO : (Addr → Prop) → List Addr → Hp → Option Int → Option Int → Prop := fun _ _ _ a b => a = b
def tDO (c : RC) (W : WX) (m : OM) : TO := fun σ H Q => ∃ M ρ G env, Rl c M ρ G env σ H ∧ TQ RO c W M ρ σ H (m env G) Q
def DO (X : Cx) (c : RC) (W : WX) (e : Option Expr) (m : OM) : Prop := PO X e (tDO c W m)
def oNone : OM := fun _ G => .ok none G
def oSome (m : EM) : OM := fun env G => (m env G).bind fun x G1 => match x with
  | .d (.int i) => .ok (some i) G1
  | _ => .st
theorem do_none : DO X c W none oNone := ⟨fun pins s σ H Q I ⟨M, ρ, G, env, R, q⟩ => po_none.run pins s σ H Q I (q.ok R.s rfl)⟩
theorem do_some (he : DE X c W e me) : DO X c W (some e) (oSome me) := ⟨fun pins s σ H Q I ⟨M, ρ, G, env, R, q⟩ => (po_some he).run pins s σ H Q I ⟨M, ρ, G, env, R, (TQ.bind (R := RE c) q).imp fun v H1 ⟨ρ1, G1, e1, g1, s1, r1, q1⟩ => by
  split at q1
  · rename_i i
    cases Rep.of_int r1
    exact ⟨i, rfl, q1.ok s1 rfl⟩
  · exact q1.elim⟩⟩
def cutL {α : Type} (xs : List α) (lo hi : Option Int) : List α := (xs.drop (HT.sIx xs.length 0 lo)).take (HT.sIx xs.length xs.length hi - HT.sIx xs.length 0 lo)
def eSl (m : EM) (lo hi : OM) : EM := fun env G => (m env G).bind fun x G1 => (lo env G1).bind fun l G2 => (hi env G2).bind fun h G3 => match x with
  | .d (.lst xs) => .ok (.d (.lst (cutL xs l h))) G3
  | _ => .st
theorem de_slL {lo hi : Option Expr} {ml mh : OM} (hK : c.K = X.K) (he : DE X c W e me) (hl : DO X c W lo ml) (hh : DO X c W hi mh) : DE X c W (.Subscript e (.Slice lo hi none p2) pos) (eSl me ml mh) := by
  refine pe_imp (pe_slice sl_list he hl hh) fun σ H Q q => ?_
  obtain ⟨M, ρ, G, env, R, q⟩ := q
  refine ⟨M, ρ, G, env, R, (TQ.bind (R := RE c) q).imp fun v H1 ⟨ρ1, G1, e1, g1, s1, r1, q1⟩ => ?_⟩
  refine ⟨M, ρ1, G1, env, R.ge g1 s1, (TQ.bind (R := RO) q1).imp fun l H2 ⟨ρ2, G2, l', g2, s2, r2, q2⟩ => ?_⟩
  refine ⟨M, ρ2, G2, env, (R.ge g1 s1).ge g2 s2, (TQ.bind (R := RO) q2).imp fun h H3 ⟨ρ3, G3, h', g3, s3, r3, q3⟩ => ?_⟩
  obtain rfl : l = l' := r2.symm
  obtain rfl : h = h' := r3.symm
  split at q3
  · rename_i xs
    obtain ⟨p, vs, rfl, z, rr⟩ := Rep.of_lst (RepE.grow (RepE.grow r1 g2.gr) g3.gr)
    refine ⟨p, vs, rfl, by rw [← hK]; exact z.sq, fun p' hp => ?_⟩
    have sm : Same H3 (upd H3 p' (.lst (cutV vs l h))) := same_upd hp
    refine q3.okS s3 sm (Rep.lst (.inl ⟨s3.fresh hp, .inl upd_same⟩) (reps_grow ?_ (Gr.same sm)))
    unfold cutL cutV
    rw [rr.length]
    exact all2_take _ (all2_drop _ rr)
  · exact q3.elim
/-! storing into the store -/
theorem sr_set {k : Nat} {xs : List EV} {vs : List V} {j : Nat} {x : EV} {v : V} {a : Addr} (s : SR c M ρ G H) (hk : G[k]? = some (GO.lst xs)) (ha : ρ[k]? = some a) (hH : H a = some (.lst vs)) (rr : All2 (RepE c M ρ H) xs vs) (r : RepE c M ρ H x v) :
    Ge M ρ H ρ (upd H a (.lst (vs.set j v))) ∧ SR c M ρ (G.set k (GO.lst (xs.set j x))) (upd H a (.lst (vs.set j v))) := by
  have hm := List.mem_of_getElem? ha
  have g : Ge M ρ H ρ (upd H a (.lst (vs.set j v))) := ⟨fun b o e n => by rw [upd_ne (fun z => n (by rw [z]; exact hm))]; exact e, fun b o e => by
    by_cases h : b = a
    · exact ⟨_, by rw [h]; exact upd_same⟩
    · exact ⟨o, by rw [upd_ne h]; exact e⟩, [], by simp, by simp⟩
  have alive : ∀ b, H b ≠ none → (upd H a (.lst (vs.set j v))) b ≠ none := fun b h => by
    by_cases hb : b = a
    · rw [hb, upd_same]; simp
    · rw [upd_ne hb]; exact h
  refine ⟨g, by rw [List.length_set]; exact s.len, s.nd, s.sep, fun i ys e => ?_, fun b m => alive b (s.mt b m), fun b m => alive b (s.bt b m)⟩
  by_cases hi : k = i
  · subst hi
    have hl : k < G.length := (List.getElem?_eq_some_iff.mp hk).1
    rw [List.getElem?_set_self hl] at e
    cases e
    exact ⟨a, _, ha, upd_same, All2.set (r.grow g.gr) j (repEs_grow rr g.gr)⟩
  · rw [List.getElem?_set_ne hi] at e
    obtain ⟨b, us, h1, h2, h3⟩ := s.at_ i ys e
    have hb : b ≠ a := fun z => hi (by
      subst z
      have q1 := List.getElem?_eq_some_iff.mp ha
      have q2 := List.getElem?_eq_some_iff.mp h1
      exact (List.getElem_inj s.nd).mp (q1.2.trans q2.2.symm))
    exact ⟨b, us, h1, by rw [upd_ne hb]; exact h2, repEs_grow h3 g.gr⟩
def sSub (mo mi me : EM) : SM := fun env G => ofE (me env G) env fun x G1 => ofE (mo env G1) env fun o G2 => ofE (mi env G2) env fun i G3 => match o, i with
  | .o k, .d (.int i) => (match (G3[k]? : Option GO) with
    | some (GO.lst xs) => (match ixN xs.length i with
      | some j => .nx env (G3.set k (GO.lst (xs.set j x)))
      | none => .st)
    | none => .st)
  | _, _ => .st
theorem ds_sub (ho : DE X c W o mo) (hi : DE X c W a mi) (he : DE X c W e me)
    (ha : ∀ v, assign (.Subscript o a p) X.env v = (do let ov ← holding [v] (eval o X.env); let iv ← holding [v, ov] (eval a X.env); standAt p; holding [v, ov, iv] (setItem ov iv v); release [v, ov, iv] []) := by intro _; rfl)
    (hs : swapsWithSole [.Subscript o a p] e pos.line X.env = pure false := by rfl) (hw : swappedStores [.Subscript o a p] e X.env = pure none := by rfl)
    (h1 : (assignEach [.Subscript o a p] X.env).map (·.2) = [assign (.Subscript o a p) X.env] := by rfl) : DS X c W (.Assign [.Subscript o a p] e pos) (sSub mo mi me) := by
  refine ps_imp (ps_asg he (pg_sub ho hi set_list ha) hs hw h1) fun Dn σ H q => ?_
  obtain ⟨M, ρ, G, env, R, q⟩ := q
  refine ⟨M, ρ, G, env, R, (SQ.ofE (R := RE c) R q).imp fun v H1 ⟨ρ1, G1, x, g1, R1, r1, q1⟩ => ?_⟩
  refine ⟨M, ρ1, G1, env, R1, (SQ.ofE (R := RE c) R1 q1).imp fun ov H2 ⟨ρ2, G2, o2, g2, R2, r2, q2⟩ => ?_⟩
  refine ⟨M, ρ2, G2, env, R2, (SQ.ofE (R := RE c) R2 q2).imp fun iv H3 ⟨ρ3, G3, i3, g3, R3, r3, q3⟩ => ?_⟩
  have r1' := (r1.grow g2.gr).grow g3.gr
  have r2' := r2.grow g3.gr
  cases o2 with
  | d z => exact (show False from q3).elim
  | o k =>
    cases i3 with
    | o z => exact (show False from q3).elim
    | d z =>
      cases z with
      | int i =>
        have q4 : SQ c W M ρ3 H3 (match (G3[k]? : Option GO) with
          | some (GO.lst xs) => (match ixN xs.length i with
            | some j => OutS.nx env (G3.set k (GO.lst (xs.set j x)))
            | none => .st)
          | none => .st) Dn := q3
        split at q4
        · rename_i xs hx
          split at q4
          · rename_i j hj
            obtain ⟨p', hp', rfl⟩ := r2'
            obtain ⟨p, vs, hp, hH, rr⟩ := R3.s.at_ k xs hx
            rw [hp] at hp'
            cases hp'
            cases Rep.of_int r3
            obtain ⟨g4, s4⟩ := sr_set (j := j) R3.s hx hp hH rr r1'
            exact ⟨_, vs, i, j, rfl, rfl, hH, by rw [← rr.length]; exact hj, q4 M ρ3 σ _ g4.gr (R3.ge g4 s4)⟩
          · exact q4.elim
        · exact q4.elim
      | _ => exact (show False from q3).elim
/-! built-ins -/
def fLen : FN := fun es G => match es with
  | [.d (.lst xs)] => some (.d (.int xs.length), G)
  | [.d (.tup xs)] => some (.d (.int xs.length), G)
  | [.d (.str x)] => if x.length ≤ strMax then some (.d (.int x.length), G) else none
  | [.o k] => (match (G[k]? : Option GO) with
    | some (GO.lst xs) => some (.d (.int xs.length), G)
    | none => none)
  | _ => none
theorem dcall_len (hK : c.K = X.K) : CallR X (.builtin "len") (VN c fLen) := callr_imp (callr_or call_len_seq call_len) fun vs H Q ⟨M, ρ, G, es, s, r, q⟩ => by
  unfold fLen at q
  split at q
  · cases r with
    | cons r t =>
      cases t
      obtain ⟨p, us, rfl, z, rr⟩ := Rep.of_lst r
      exact .inl ⟨p, us, rfl, .inl (by rw [← hK]; exact z.sq), by rw [← rr.length]; exact q _ ρ H Ge.refl s Rep.int⟩
  · cases r with
    | cons r t =>
      cases t
      obtain ⟨p, us, rfl, z, rr⟩ := Rep.of_tup r
      exact .inl ⟨p, us, rfl, .inr (by rw [← hK]; exact z.sq), by rw [← rr.length]; exact q _ ρ H Ge.refl s Rep.int⟩
  · split at q
    · rename_i x hx
      cases r with
      | cons r t =>
        cases t
        cases Rep.of_str r
        exact .inr ⟨_, x.length, rfl, ⟨Nat.le_trans hx (by decide), rfl⟩, q _ ρ H Ge.refl s Rep.int⟩
    · exact q.elim
  · rename_i k
    split at q
    · rename_i xs hx
      cases r with
      | cons r t =>
        cases t
        obtain ⟨p, hp, rfl⟩ := r
        obtain ⟨p', us, hp', hH, rr⟩ := s.at_ k xs hx
        rw [hp] at hp'
        cases hp'
        exact .inl ⟨p, us, rfl, .inl (SqL.of hH), by rw [← rr.length]; exact q _ ρ H Ge.refl s Rep.int⟩
    · exact q.elim
  · exact q.elim
def gInt : List D → Option D
  | [.int i] => some (.int i)
  | [.bl b] => some (.int (if b then 1 else 0))
  | _ => none
def fInt : FN := pureN gInt
theorem dcall_int : CallR X (.type "int") (VN c fInt) := callr_imp call_int1 fun vs H Q q0 => by
  obtain ⟨M, ρ, G, ds, z, s, r, hz, q⟩ := vn_pure q0
  clear q0
  unfold gInt at hz
  split at hz
  · cases r with
    | cons r t => cases t; cases hz; exact .inl ⟨_, by rw [r.of_int], q _ _ same_refl .int⟩
  · cases r with
    | cons r t => cases t; cases hz; exact .inr ⟨_, by rw [r.of_bl], q _ _ same_refl .int⟩
  · cases hz
def gTuple : List D → Option D
  | [.lst xs] => some (.tup xs)
  | [.tup xs] => some (.tup xs)
  | _ => none
def fTuple : FN := pureN gTuple
theorem dcall_tuple (hK : c.K = X.K) : CallR X (.type "tuple") (VN c fTuple) := callr_imp call_tuple_of fun vs H Q q0 => by
  obtain ⟨M, ρ, G, ds, z, s, r, hz, q⟩ := vn_pure q0
  clear q0
  unfold gTuple at hz
  split at hz
  · cases r with
    | cons r t =>
      cases t
      cases hz
      obtain ⟨p, us, rfl, z, rr⟩ := r.of_lst
      refine ⟨p, us, rfl, .inl ⟨by rw [← hK]; exact z.sq, fun l hl => ?_⟩⟩
      have sm : Same H (upd H l (.tup us)) := same_upd hl
      exact q _ _ sm (Rep.tup (.inl ⟨s.fresh hl, .inl upd_same⟩) (reps_grow rr (Gr.same sm)))
  · cases r with
    | cons r t =>
      cases t
      cases hz
      obtain ⟨p, us, rfl, z, rr⟩ := r.of_tup
      exact ⟨p, us, rfl, .inr ⟨by rw [← hK]; exact z.sq, q _ _ same_refl (Rep.tup z rr)⟩⟩
  · cases hz
def gList : List D → Option D
  | [.lst xs] => some (.lst xs)
  | [.tup xs] => some (.lst xs)
  | _ => none
def fList : FN := pureN gList
theorem dcall_list (hK : c.K = X.K) : CallR X (.type "list") (VN c fList) := callr_imp call_list_of fun vs H Q q0 => by
  obtain ⟨M, ρ, G, ds, z, s, r, hz, q⟩ := vn_pure q0
  clear q0
  unfold gList at hz
  split at hz
  · cases r with
    | cons r t =>
      cases t
      cases hz
      obtain ⟨p, us, rfl, z, rr⟩ := r.of_lst
      refine ⟨p, us, rfl, .inl (by rw [← hK]; exact z.sq), fun l hl => ?_⟩
      have sm : Same H (upd H l (.lst us)) := same_upd hl
      exact q _ _ sm (Rep.lst (.inl ⟨s.fresh hl, .inl upd_same⟩) (reps_grow rr (Gr.same sm)))
  · cases r with
    | cons r t =>
      cases t
      cases hz
      obtain ⟨p, us, rfl, z, rr⟩ := r.of_tup
      refine ⟨p, us, rfl, .inr (by rw [← hK]; exact z.sq), fun l hl => ?_⟩
      have sm : Same H (upd H l (.lst us)) := same_upd hl
      exact q _ _ sm (Rep.lst (.inl ⟨s.fresh hl, .inl upd_same⟩) (reps_grow rr (Gr.same sm)))
  · cases hz
def asBs : List D → Option (List Bool)
  | [] => some []
  | .bl b :: r => (asBs r).map (b :: ·)
  | _ :: _ => none
def asIs : List D → Option (List Int)
  | [] => some []
  | .int b :: r => (asIs r).map (b :: ·)
  | _ :: _ => none
theorem asBs_rep : ∀ {ds : List D} {bs : List Bool} {vs : List V}, asBs ds = some bs → All2 (Rep c M ρ H) ds vs → vs = bs.map V.bl
  | [], _, _, h, .nil => by cases h; rfl
  | d :: ds, bs, v :: vs, h, .cons r t => by
    cases d <;> first | (cases h; done) | skip
    rename_i b
    unfold asBs at h
    cases e : asBs ds with
    | none => rw [e] at h; cases h
    | some cs => rw [e] at h; cases h; rw [r.of_bl, asBs_rep e t]; rfl
theorem asIs_rep : ∀ {ds : List D} {bs : List Int} {vs : List V}, asIs ds = some bs → All2 (Rep c M ρ H) ds vs → vs = bs.map V.int
  | [], _, _, h, .nil => by cases h; rfl
  | d :: ds, bs, v :: vs, h, .cons r t => by
    cases d <;> first | (cases h; done) | skip
    rename_i b
    unfold asIs at h
    cases e : asIs ds with
    | none => rw [e] at h; cases h
    | some cs => rw [e] at h; cases h; rw [r.of_int, asIs_rep e t]; rfl
def gAll : List D → Option D
  | [.lst xs] => (asBs xs).map fun bs => .bl (bs.all id)
  | _ => none
def gAny : List D → Option D
  | [.lst xs] => (asBs xs).map fun bs => .bl (bs.any id)
  | _ => none
def gSum : List D → Option D
  | [.lst xs] => (asIs xs).map fun bs => .int bs.sum
  | _ => none
def fAll : FN := pureN gAll
def fAny : FN := pureN gAny
def fSum : FN := pureN gSum
theorem dcall_all (hK : c.K = X.K) (hc : X.calm = true) : CallR X (.builtin "all") (VN c fAll) := callr_imp (cr_all hc) fun vs H Q q0 => by
  obtain ⟨M, ρ, G, ds, z, s, r, hz, q⟩ := vn_pure q0
  clear q0
  unfold gAll at hz
  split at hz
  · rename_i xs
    cases r with
    | cons r t =>
      cases t
      cases e : asBs xs with
      | none => rw [e] at hz; cases hz
      | some bs =>
        rw [e] at hz
        cases hz
        obtain ⟨p, us, rfl, z, rr⟩ := r.of_lst
        exact ⟨p, bs, rfl, by rw [← hK, ← asBs_rep e rr]; exact z.sq, q _ _ same_refl .bl⟩
  · cases hz
theorem dcall_any (hK : c.K = X.K) (hc : X.calm = true) : CallR X (.builtin "any") (VN c fAny) := callr_imp (cr_any hc) fun vs H Q q0 => by
  obtain ⟨M, ρ, G, ds, z, s, r, hz, q⟩ := vn_pure q0
  clear q0
  unfold gAny at hz
  split at hz
  · rename_i xs
    cases r with
    | cons r t =>
      cases t
      cases e : asBs xs with
      | none => rw [e] at hz; cases hz
      | some bs =>
        rw [e] at hz
        cases hz
        obtain ⟨p, us, rfl, z, rr⟩ := r.of_lst
        exact ⟨p, bs, rfl, by rw [← hK, ← asBs_rep e rr]; exact z.sq, q _ _ same_refl .bl⟩
  · cases hz
theorem dcall_sum (hK : c.K = X.K) (hc : X.calm = true) : CallR X (.builtin "sum") (VN c fSum) := callr_imp (cr_sum hc) fun vs H Q q0 => by
  obtain ⟨M, ρ, G, ds, z, s, r, hz, q⟩ := vn_pure q0
  clear q0
  unfold gSum at hz
  split at hz
  · rename_i xs
    cases r with
    | cons r t =>
      cases t
      cases e : asIs xs with
      | none => rw [e] at hz; cases hz
      | some bs =>
        rw [e] at hz
        cases hz
        obtain ⟨p, us, rfl, z, rr⟩ := r.of_lst
        exact ⟨p, bs, rfl, by rw [← hK, ← asIs_rep e rr]; exact z.sq, q _ _ same_refl .int⟩
  · cases hz
/-! isinstance -/
inductive Tg where
  | ty (n : String) | own (k : String)
  deriving DecidableEq
def Tg.v (C : String → Addr) : Tg → Value
  | .ty n => .type n
  | .own k => .ref (C k)
def tgOf : D → Tg
  | .non => .ty "NoneType"
  | .bl _ => .ty "bool"
  | .int _ => .ty "int"
  | .str _ => .ty "str"
  | .tup _ => .ty "tuple"
  | .lst _ => .ty "list"
  | .ins k _ => .own k
  | .cls _ => .ty "type"
  | .ty _ => .ty "type"
def tgC : D → Option Tg
  | .cls k => some (.own k)
  | .ty n => some (.ty n)
  | _ => none
def ktb : List (Tg × Tg × Bool) → Tg → Tg → Option Bool
  | [], _, _ => none
  | (t, u, b) :: r, t', u' => if t = t' ∧ u = u' then some b else ktb r t' u'
def gIsi (tb : List (Tg × Tg × Bool)) : List D → Option D
  | [x, k] => (tgC k).bind fun u => match x with
    | .cls _ => none
    | .ty _ => none
    | x => (ktb tb (tgOf x) u).map .bl
  | _ => none
def fIsi (tb : List (Tg × Tg × Bool)) : FN := pureN (gIsi tb)
/-- what isinstance wants to know of an own class, and of the model's own word for __class__ -/
structure IsiC (K : PySem.W.Frag) (C : Addr) : Prop where
  cl : Cls K C
  ca : PySem.W.findIn K (.ref C) "__class__" = some (some (.builtin "object.__class__"))
  cm : PySem.W.mroIn K C (.type "object") = some true
structure IsiK (K : PySem.W.Frag) : Prop where
  cn : PySem.W.specialIn K (.builtin "object.__class__") "__get__" = some (some (.builtin "getset_descriptor.__get__"))
  ct : PySem.W.takesIn K (.builtin "object.__class__") = some true
theorem ktb_mem {t u : Tg} {b : Bool} : ∀ {tb : List (Tg × Tg × Bool)}, ktb tb t u = some b → (t, u, b) ∈ tb
  | [], h => by cases h
  | (t', u', b') :: r, h => by
    unfold ktb at h
    split at h
    · rename_i hh; obtain ⟨rfl, rfl⟩ := hh; cases h; exact List.mem_cons_self
    · exact List.mem_cons_of_mem _ (ktb_mem h)
theorem dcall_isi {tb : List (Tg × Tg × Bool)} (hK : c.K = X.K) (hk : IsiK X.K) (h : ∀ t u b, (t, u, b) ∈ tb → PySem.W.kitOne X.K (t.v c.C) (u.v c.C) = some b ∧ ∀ k, t = .own k → IsiC X.K (c.C k)) : CallR X (.builtin "isinstance") (VN c (fIsi tb)) := callr_imp call_isi fun vs H Q q0 => by
  obtain ⟨M, ρ, G, ds, z, s, r, hz, q⟩ := vn_pure q0
  clear q0
  unfold gIsi at hz
  split at hz
  · rename_i x k
    obtain ⟨vx, vk, rfl, r1, r2⟩ := all2_two r
    cases hu : tgC k with
    | none => rw [hu] at hz; cases hz
    | some u =>
      rw [hu] at hz
      dsimp only [Option.bind] at hz
      have cv : ClsV vk (u.v c.C) := by
        cases k <;> first | (cases hu; done) | skip
        · cases hu; rw [r2.of_cls]; exact ClsV.own _
        · cases hu; rw [r2.of_ty]; exact ClsV.ty _
      have main : ∀ t, (ktb tb t u).map DL.D.bl = some z → TyX X.K H vx (t.v c.C) ∨ (∃ k, t = .own k ∧ (IsiC X.K (c.C k) → TyX X.K H vx (t.v c.C))) → rIsi X.K [vx, vk] H Q := fun t ht hty => by
        cases hb : ktb tb t u with
        | none => rw [hb] at ht; cases ht
        | some b =>
          rw [hb] at ht
          cases ht
          obtain ⟨h1, h2⟩ := h t u b (ktb_mem hb)
          refine ⟨vx, vk, t.v c.C, u.v c.C, b, rfl, cv, ?_, h1, q _ _ same_refl .bl⟩
          rcases hty with hty | ⟨k, e, hty⟩
          · exact hty
          · exact hty (h2 k e)
      cases x with
      | non => cases r1.of_non; exact main _ hz (.inl (.base .non))
      | bl b => cases r1.of_bl; exact main _ hz (.inl (.base (.bl b)))
      | int b => cases r1.of_int; exact main _ hz (.inl (.base (.int b)))
      | str b => cases r1.of_str; exact main _ hz (.inl (.base (.str b)))
      | tup b =>
        obtain ⟨p, us, rfl, zz, rr⟩ := r1.of_tup
        refine main _ hz (.inl ?_)
        rcases zz with ⟨_, z1⟩ | (z0 | z0) | ⟨o, its, n, h1, h2, _⟩
        · rcases z1 with z1 | ⟨o, z1⟩
          · exact .base (.tup z1)
          · exact .fTuple z1
        · cases z0
        · rcases z0 with ⟨_, z0⟩; cases z0
        · exact .kTuple (by rw [← hK]; exact h1) h2
      | lst b =>
        obtain ⟨p, us, rfl, zz, rr⟩ := r1.of_lst
        refine main _ hz (.inl ?_)
        rcases zz with ⟨_, z1⟩ | (z0 | z0) | ⟨o, its, n, h1, h2, _⟩
        · rcases z1 with z1 | ⟨o, z1⟩
          · exact .base (.lst z1)
          · exact .base (.frz z1)
        · cases z0
        · rcases z0 with ⟨_, z0⟩; cases z0
        · exact .kList (by rw [← hK]; exact h1) h2
      | ins k fs =>
        obtain ⟨p, dx, gs, rfl, zz, ea, fl⟩ := r1.of_ins
        exact main _ hz (.inr ⟨k, rfl, fun i => .base (.ins ea i.cl i.ca hk.cn hk.ct i.cm)⟩)
      | cls k => cases hz
      | ty k => cases hz
  · cases hz
end
end DL

set_option Elab.async false
set_option linter.all false
set_option maxRecDepth 100000
set_option maxHeartbeats 4000000
namespace DL
open PySem L2 PyProof.Rows StX ClX

section
variable {X : Cx} {c : RC} {M : Addr → Prop} {ρ : List Addr} {H : Hp}
theorem dop_ne (hK : c.K = X.K) (hu : X.A.units + 64 < cLine) : OpR X (compareOp .NotEq) (V2 c fNe) := opr_imp (op_ne.or (op_neD hu)) fun x y H Q q => by
  obtain ⟨M, ρ, G, a, b, z, s, ra, rb, hz, q⟩ := v2_pure q
  cases hk : gEq a b with
  | none => rw [hk] at hz; cases hz
  | some k =>
    rw [hk] at hz
    injection hz with hz
    cases hz
    rcases geq_of hK hk ra rb with ⟨h1, h2⟩ | ⟨d, e, h1, h2, h3, h4, h5⟩
    · exact .inl ⟨h1, by rw [h2]; exact q _ _ same_refl .bl⟩
    · exact .inr ⟨d, e, h1, h2, h3, h4, by rw [h5]; exact q _ _ same_refl .bl⟩
end
/-! ### the end: the law itself -/
def spLaw (K : PySem.W.Frag) : Sp := fun vs H Q _ => ∃ (a : Addr) (ns : List Int), vs = [.ref a] ∧ SqL K H a (ns.map V.int) ∧ ns.length ≤ 63 ∧ ∀ H', Q (.bl true) H'
/-- the script as data -/
def scr (ns : List Int) : EV := .d (.lst (ns.map .int))
theorem ints_rep {c : RC} {M : Addr → Prop} {ρ : List Addr} {H : Hp} : ∀ ns : List Int, All2 (Rep c M ρ H) (ns.map D.int) (ns.map V.int)
  | [] => .nil
  | n :: ns => .cons .int (ints_rep ns)
theorem spd_law {K : PySem.W.Frag} {C : String → Addr} {N : String → List Str} {g : FM} (h : ∀ ns : List Int, ns.length ≤ 63 → ∃ G', g [scr ns] [] = .ok (.d (.bl true)) G') : ∀ vs H Q E, spLaw K vs H Q E → Spd K C N (arN 1) g vs H Q E := fun vs H Q E ⟨a, ns, e, hS, hl, q⟩ => by
  subst e
  obtain ⟨G', hg⟩ := h ns hl
  refine ⟨rfl, fun _ => False, [], [], [scr ns], ⟨rfl, List.nodup_nil, by simp, by simp, fun _ z => z.elim, fun _ z => z.elim⟩, .cons (Rep.lst ?_ (ints_rep ns)) .nil, ?_⟩
  · rcases hS with h1 | h1
    · exact .inl ⟨⟨fun z => z, fun z => z, by simp⟩, h1⟩
    · exact .inr (.inr h1)
  · rw [hg]
    intro v ρ' H' _ _ r
    rw [Rep.of_bl r]
    exact q H'
section
variable {P : Program} {w : World} {K : PySem.W.Frag} {mg : Str → Option Value} {base : Heap} {C : String → Addr} {N : String → List Str}
theorem fno_of {x qual : Str} {st : Stmt} {f : Addr} {fd : FuncData} {Nm ps : List Str} {k : Nat} {m : SM} (F : Fun K x qual st f fd) (S : FnScope Nm ps (defScope st))
    (hb : ∀ (cdv : Value) (A : Around) (outer : List Env) (s : Shared) (H : Hp) (E : XK) (B : Addr → Prop), Room k (A.deeper (envOfC qual (defScope st) s.heap.objs.size f cdv)) →
      DSs (cxOf (L2N.CX P w) P w K mg base Nm qual (defScope st) f cdv A outer s H E) ⟨K, C, N, B, 0, 0⟩ (fun cls d _ H => E cls d H) (defBody st) m) : FnOk P w K mg base (L2N.CX P w) (k + 1) f fd ps (Spd K C N (arN ps.length) (runB Nm.length m)) := by
  have hlN : ps.length ≤ Nm.length := by have := congrArg List.length S.pre; rw [List.length_take] at this; omega
  obtain ⟨oc, od, kV, doc, pm, an, cdv, ct, osl, rfl, lk, hcd⟩ := F.ex
  refine fn_of lk hcd S (fun vs H Q E h => by simpa [arN] using h.1) fun A outer s H vs Q E hr hsp => ?_
  obtain ⟨hl, B, ρ, G, es, s0, r, q⟩ := hsp
  exact ⟨_, hb cdv A outer s H E B hr, nM, ρ, G, _, rl_start s0 r (by rw [show vs.length = ps.length by simpa [arN] using hl]; exact hlN), sq_of q⟩
end
theorem walk {l : PySem.W.OpenLaw} {k : Nat} {x : Str} {q : Program} {loose : List Str} {XP : (Str → Option Value) → Heap → Prop} {YP : World → Heap → Prop} {d : DefRec} {K : Params → PySem.W.Frag} (hn : l.most = some 63) (hdf : d.params.defaults = []) (hr : Room k callerA)
    (hY : ∀ (w : World) (h : Heap), YP w h → (K w.params).In h)
    (F : ∀ (w : World) (mg : Str → Option Value) (fa : Addr) (h : Heap), (K w.params).In h → h.Ns mainGlobals mg → mg d.name = some (.ref fa) →
      ∃ fd : FuncData, (∀ (s : Shared) (u : Value), BindsTo s fd ⟨[u], []⟩ [(x, u)]) ∧ ∀ base : Heap, (K w.params).In base → base.Ns mainGlobals mg → FnOk l.prog w (K w.params) mg base (L2N.CX l.prog w) k fa fd [x] (spLaw (K w.params))) :
    PySem.W.WalkO q loose XP YP l.row.toRowW d [] (fun f vs => PySem.call f vs) :=
  L2.walk_of (n := 63) (k := k) (x := x) (CX := fun w => L2N.CX l.prog w) (sp := fun w => spLaw (K w.params)) hn (by decide) hdf hr hY F (fun _ _ a ns hl _ hS => ⟨a, ns, rfl, hS, hl, fun _ => rfl⟩) fun _ _ _ _ _ ⟨_, _, _, _, _, _, _, _, _, _, _, _, h⟩ => h

/-! ### helpers for printed terms -/
/-- a def of the module as it stands behind the top -/
structure DefT (K : PySem.W.Frag) (mg : Str → Option Value) (x qual : Str) (st : Stmt) (f : Addr) (fd : FuncData) : Prop where
  F : Fun K x qual st f fd
  m : mg x = some (.ref f)
theorem kix_all {K : PySem.W.Frag} {C : String → Addr} {N : String → List Str} {f : Str} : ∀ {ks : List (String × Nat)}, (∀ p ∈ ks, HasF K C N f p.1 p.2) → ∀ k i, kix ks k = some i → HasF K C N f k i
  | [], _, k, i, h => by cases h
  | (k', i') :: r, hh, k, i, h => by
    unfold kix at h
    by_cases e : k' = k
    · subst e; rw [if_pos rfl] at h; cases h; exact hh _ List.mem_cons_self
    · rw [if_neg e] at h; exact kix_all (fun p hp => hh p (List.mem_cons_of_mem _ hp)) k i h
theorem kfn_all {P : Program} {w : World} {K : PySem.W.Frag} {mg : Str → Option Value} {base : Heap} {C : String → Addr} {N : String → List Str} {lv : Nat} {m : Str} : ∀ {ms : List (String × (Ar × FM))}, (∀ p ∈ ms, HasM P w K mg base C N lv m p.1 p.2.1 p.2.2) → ∀ k A g, kfn ms k = some (A, g) → HasM P w K mg base C N lv m k A g
  | [], _, k, A, g, h => by cases h
  | (k', a') :: r, hh, k, A, g, h => by
    unfold kfn at h
    by_cases e : k' = k
    · subst e; rw [if_pos rfl] at h; cases h; exact hh _ List.mem_cons_self
    · rw [if_neg e] at h; exact kfn_all (fun p hp => hh p (List.mem_cons_of_mem _ hp)) k A g h
theorem all_nil {α : Type} {p : α → Prop} : ∀ x ∈ ([] : List α), p x := fun _ h => nomatch h
theorem all_cons {α : Type} {p : α → Prop} {a : α} {l : List α} (h : p a) (t : ∀ x ∈ l, p x) : ∀ x ∈ a :: l, p x := fun x hx => by
  rcases List.mem_cons.mp hx with e | hx
  · rw [e]; exact h
  · exact t x hx
/-- in a comprehension's block nothing is raised -/
theorem takesB {X : Cx} {s : Shared} {H : Hp} {scope : Scope} {cenv : Env} {fp : List Addr} : L2N.Takes (X.blk s H scope cenv fp) W0 := fun u s' ⟨_, _, _, _, _, _, _, _, _, _, _, _, _, _, _, _, z⟩ => z
theorem takesF {X : Cx} {E : XK} (hs : X.stack = X.env :: X.outer) (hf : X.env.frame = some X.env.locals) (hex : X.ex = []) {E₁ : Value → Shared → Prop}
    (hx : X.xe = fun e s' => PySem.wpAny (model X.prog X.w) X.A (leaving X.env e) (fun _ s'' => L2N.CX X.prog X.w X.outer X.H_0 X.s_0 E e s'') E₁ s') : L2N.Takes X (fun cls d _ H => E cls d H) := L2N.takes_of hs hf hex hx
end DL

set_option Elab.async false
set_option linter.all false
set_option maxRecDepth 100000
set_option maxHeartbeats 4000000
namespace DL
open PySem PySem.Calls PySem.Spec L2 PyProof.Rows StX ClX
section
variable {X : Cx} {c : RC} {M : Addr → Prop} {ρ : List Addr} {σ : L2.St} {H : Hp} {G : GS} {lv : Nat} {cl : String} {A : Ar} {g : FM} {f : Addr} {Y : Around}
theorem env0_sub {pins : List (Addr × Obj)} {s : Shared} (I : Inv X pins σ H s) (fr : Y.frames = X.A.frames) : Env0 X.prog X.w X.K X.mg X.base Y X.stack s H := by
  have e := I.env0
  constructor
  case frames => rw [fr]; exact e.frames
  case mod => exact e.mod
  case bs => exact e.bs
  case bsz => exact e.bsz
  case funs => exact e.funs
  case frf => exact e.frf
  case hok => exact e.hok
  case bare => exact e.bare
/-- a call of a def from somewhere below the running body -/
theorem run_fnB {CX : CXT} {k : Nat} {f : Addr} {sp : Sp} {E : XK} {Q : VK} {s : Shared} {pins : List (Addr × Obj)} {vs : List V} {us : List Value} (fr : Y.frames = X.A.frames)
    (F : FnR X.prog X.w X.K X.mg X.base CX k f sp) (hr : Room k Y) (hx : PassesAt CX X σ E) (I : Inv X pins σ H s) (r : Vals vs us) (h : sp vs H Q E) :
    codeAny (model X.prog X.w) Y (.call (.ref f) ⟨us, []⟩)
      (fun res s' => match res with
        | .ok (.ret v) => EP X pins σ Q v s'
        | .ok _ => False
        | .error e => X.xe e s') s :=
  codeAny_mono (F Y X.stack s H us vs Q E hr (env0_sub I fr) r h) fun res s' z => match res, z with
    | .error e, z => hx pins H s e s' I z
    | .ok (.ret _), z => I.after z
    | .ok .next, z => z.elim
    | .ok .brk, z => z.elim
    | .ok .cont, z => z.elim
/-- what the store functions say of an own method's answer: a bool, a whole number, a text -/
def resB (o : Option (EV × GS)) : Option (EV × GS) := match o with
  | some (.d (.bl b), G) => some (.d (.bl b), G)
  | _ => none
def resI (o : Option (EV × GS)) : Option (EV × GS) := match o with
  | some (.d (.int n), G) => if 0 ≤ n ∧ n.toNat < 2 ^ 63 then some (.d (.int n), G) else none
  | _ => none
def resS (o : Option (EV × GS)) : Option (EV × GS) := match o with
  | some (.d (.str x), G) => some (.d (.str x), G)
  | _ => none
theorem vq_B {o : Option (EV × GS)} {Q : VK} (h : VQ c M ρ H (resB o) Q) : VQ c M ρ H o (fun v H' => (∃ b, v = .bl b) ∧ Q v H') := by
  unfold resB at h
  split at h
  · rename_i b G'
    intro v ρ' H' ge s r
    exact ⟨⟨b, Rep.of_bl r⟩, h v ρ' H' ge s r⟩
  · exact h.elim
theorem vq_I {o : Option (EV × GS)} {Q : VK} (h : VQ c M ρ H (resI o) Q) : VQ c M ρ H o (fun v H' => (∃ n : Int, v = .int n ∧ 0 ≤ n ∧ n < 2 ^ 63) ∧ Q v H') := by
  unfold resI at h
  split at h
  · rename_i n G'
    split at h
    · rename_i hn
      intro v ρ' H' ge s r
      exact ⟨⟨n, Rep.of_int r, hn.1, by have := hn.2; omega⟩, h v ρ' H' ge s r⟩
    · exact h.elim
  · exact h.elim
theorem vq_S {o : Option (EV × GS)} {Q : VK} (h : VQ c M ρ H (resS o) Q) : VQ c M ρ H o (fun v H' => (∃ n : Str, v = .str n) ∧ Q v H') := by
  unfold resS at h
  split at h
  · rename_i n G'
    intro v ρ' H' ge s r
    exact ⟨⟨n, Rep.of_str r⟩, h v ρ' H' ge s r⟩
  · exact h.elim
/-- x in y, y of an own class -/
def fInOwn (cl : String) (A : Ar) (g : FM) : F2 := fun x y G => match x, y with
  | .d a, .d (.ins k fs) => if k = cl ∧ A 2 = true then resB (toOpt (g [.d (.ins k fs), .d a] G)) else none
  | _, _ => none
theorem dop_inO (hK : c.K = X.K) (hr : Room lv X.A) (hs : PySem.W.findIn X.K (.ref (c.C cl)) "__contains__" = some (some (.ref f))) (hf : PySem.W.isFn X.K (.ref f) = true) (F : FnG X.prog X.w X.K X.mg X.base c.C c.N lv f A g) :
    OpR X (compareOp .In) (V2 c (fInOwn cl A g)) := by
  intro pins s σ H x y v u Q I rx ry ⟨M, ρ, G, a, b, sr, ra, rb, q⟩
  unfold fInOwn at q
  split at q
  · rename_i a' k fs
    split at q
    · rename_i hk
      obtain ⟨rfl, hA⟩ := hk
      have sp := spd_opt (A := A) (g := g) (es := [.d (.ins k fs), .d a']) sr (.cons rb (.cons ra .nil)) hA (vq_B q)
      obtain ⟨p, dx, gs, rfl, z, ea, fl⟩ := Rep.of_ins rb
      cases (show u = Value.ref p from ry)
      obtain ⟨ox, od, J⟩ := inst_at I ea
      obtain ⟨m, hF⟩ := I.fr
      refine PySem.W.in_K hF I.ok.mod.kin J hs hf ?_
      rw [hK] at sp
      refine wpAny_mono (wpAny_call (run_fnA (us := [.ref p, v]) (vs := [.ref p, x]) F hr pass0' I (.cons rfl (.cons rx .nil)) sp)) (fun w s' hw => ?_) fun _ _ x => x
      obtain ⟨z', H', I', rz, ⟨b, e⟩, qz⟩ := hw
      subst e
      cases rz
      exact wpAny_pure ⟨.bl b, H', I', rfl, qz⟩
    · exact q.elim
  · exact q.elim
/-- len(y), y of an own class -/
def fOwnI (cl : String) (A : Ar) (g : FM) : FN := fun es G => match es with
  | [.d (.ins k fs)] => if k = cl ∧ A 1 = true then resI (toOpt (g [.d (.ins k fs)] G)) else none
  | _ => none
theorem dcall_lenO (hK : c.K = X.K) (hr : Room (lv + 1) X.A) (hs : PySem.W.findIn X.K (.ref (c.C cl)) "__len__" = some (some (.ref f))) (hf : PySem.W.isFn X.K (.ref f) = true) (F : FnG X.prog X.w X.K X.mg X.base c.C c.N lv f A g) :
    CallR X (.builtin "len") (VN c (fOwnI cl A g)) := by
  intro pins s σ H xs us Q I r ⟨M, ρ, G, es, sr, ra, q⟩
  unfold fOwnI at q
  split at q
  · rename_i k fs
    split at q
    · rename_i hk
      obtain ⟨rfl, hA⟩ := hk
      have sp := spd_opt (A := A) (g := g) (es := [.d (.ins k fs)]) sr ra hA (vq_I q)
      cases ra with
      | cons ra t =>
        cases t
        obtain ⟨p, dx, gs, rfl, z, ea, fl⟩ := Rep.of_ins ra
        cases r with
        | cons rx t2 =>
          cases t2
          cases rx
          obtain ⟨ox, od, J⟩ := inst_at I ea
          obtain ⟨m, hF⟩ := I.fr
          refine PySem.W.len_K hF I.ok.mod.kin J hs hf ?_
          rw [hK] at sp
          refine wpAny_mono (wpAny_call (run_fnB (us := [.ref p]) (vs := [.ref p]) rfl F hr.in1 pass0' I (.cons rfl .nil) sp)) (fun w s' hw => ?_) fun _ _ x => x
          obtain ⟨z', H', I', rz, ⟨n, e, hn⟩, qz⟩ := hw
          subst e
          obtain ⟨t, rfl⟩ := rz
          exact ⟨hn, .int n, H', I'.tok _, ⟨_, rfl⟩, qz⟩
    · exact q.elim
  · exact q.elim
/-- bool(x) is whether x is true -/
theorem bool_in {prog : Program} {w : World} (x : Value) : MeetsIn prog w (Builtin.«bool.__new__» ⟨[.type "bool", x], []⟩) (fun A R s => wpAny (model prog w) A.in1 (truthy x) (fun b s' => R (.ok (.ret (.bool b))) s') (fun e s' => R (.error e) s') s) :=
  .of_wp fun A R s h => by
    unfold Builtin.«bool.__new__»
    refine wpAny_bind (wpAny_pure ?_)
    refine wpAny_bind (wpAny_of_eq F.conv_sub_bool ?_)
    dsimp only [Bool.not_true]
    rw [if_neg (show ¬ ((!true) = true) by decide)]
    refine wpAny_bind (wpAny_pure ?_)
    refine wpAny_bind (m := truthy x) (wpAny_mono h (fun b s' hb => wpAny_pure ⟨_, rfl, hb⟩) fun _ _ y => y)
theorem bool_call {prog : Program} {w : World} {A : Around} {E : Value → Shared → Prop} {s : Shared} {x : Value} {Q : Value → Shared → Prop} (h : wpAny (model prog w) A.in1.in1 (truthy x) (fun b s' => Q (.bool b) s') E s) : wpAny (model prog w) A (call (.type "bool") [x]) Q E s :=
  callType_newIn F.called_bool F.newNe_bool (F.typeCall_bool_1 x) (F.newCall_bool_1 x) (fun obj => F.args_object_init_2 obj x) F.entry_bool_new (bool_in x)
    (wpAny_mono h (fun _ _ q => ⟨rfl, q⟩) fun _ _ y => y)
/-- bool(y), y of an own class -/
def fOwnB (cl : String) (A : Ar) (g : FM) : FN := fun es G => match es with
  | [.d (.ins k fs)] => if k = cl ∧ A 1 = true then resB (toOpt (g [.d (.ins k fs)] G)) else none
  | _ => none
theorem dcall_boolO (hK : c.K = X.K) (hr : Room (lv + 2) X.A) (hs : PySem.W.findIn X.K (.ref (c.C cl)) "__bool__" = some (some (.ref f))) (hf : PySem.W.isFn X.K (.ref f) = true) (F : FnG X.prog X.w X.K X.mg X.base c.C c.N lv f A g) :
    CallR X (.type "bool") (VN c (fOwnB cl A g)) := by
  intro pins s σ H xs us Q I r ⟨M, ρ, G, es, sr, ra, q⟩
  unfold fOwnB at q
  split at q
  · rename_i k fs
    split at q
    · rename_i hk
      obtain ⟨rfl, hA⟩ := hk
      have sp := spd_opt (A := A) (g := g) (es := [.d (.ins k fs)]) sr ra hA (vq_B q)
      cases ra with
      | cons ra t =>
        cases t
        obtain ⟨p, dx, gs, rfl, z, ea, fl⟩ := Rep.of_ins ra
        cases r with
        | cons rx t2 =>
          cases t2
          cases rx
          obtain ⟨ox, od, J⟩ := inst_at I ea
          obtain ⟨m, hF⟩ := I.fr
          refine bool_call (PySem.W.truthy_K hF I.ok.mod.kin J hs hf ?_)
          rw [hK] at sp
          refine wpAny_mono (wpAny_call (run_fnB (us := [.ref p]) (vs := [.ref p]) rfl F hr.in1.in1 pass0' I (.cons rfl .nil) sp)) (fun w s' hw => ?_) fun _ _ x => x
          obtain ⟨z', H', I', rz, ⟨b, e⟩, qz⟩ := hw
          subst e
          cases rz
          exact ⟨.bl b, H', I', rfl, qz⟩
    · exact q.elim
  · exact q.elim
/-- bool(a tuple) -/
def fBoolT : FN := fun es G => match es with
  | [.d (.tup xs)] => some (.d (.bl (!xs.isEmpty)), G)
  | _ => none
theorem dcall_boolT (hK : c.K = X.K) : CallR X (.type "bool") (VN c fBoolT) := by
  intro pins s σ H xs us Q I r ⟨M, ρ, G, es, sr, ra, q⟩
  unfold fBoolT at q
  split at q
  · rename_i ds
    cases ra with
    | cons ra t =>
      cases t
      obtain ⟨p, vs, rfl, z, rr⟩ := Rep.of_tup ra
      cases r with
      | cons rx t2 =>
        cases t2
        cases rx
        have hx : SqT X.K H p vs := by rw [← hK]; exact z.sq
        obtain ⟨its, r, pl, hz⟩ := I.tuple hx
        have hlen := r.length
        have hl := line63
        refine bool_call (truthy_tuple pl (by simp only [List.size_toArray]; omega) ⟨.bl (!ds.isEmpty), H, I.tok _, ?_, q _ _ _ Ge.refl sr Rep.bl⟩)
        show Value.bool _ = Value.bool _
        rw [all2_isEmpty rr, isEmpty_of r]
  · exact q.elim
/-- the type of what data stands for -/
def noC : DL.D → Bool
  | .cls _ => false
  | .ty _ => false
  | _ => true
theorem tyl_of {pins : List (Addr × Obj)} {s : Shared} {b : DL.D} {y : V} {u : Value} (hK : c.K = X.K) (I : Inv X pins σ H s) (rb : Rep c M ρ H b y) (ry : RelV y u) (hb : noC b = true) : PySem.W.Looks (model X.prog X.w) s.heap (typeOf u) ((tgOf b).v c.C) := by
  have key : ∀ {t : Value}, TyX X.K H y t → PySem.W.Looks (model X.prog X.w) s.heap (typeOf u) t := fun ty => by
    obtain ⟨P, Z, p, _⟩ := kit_of I ry ty
    exact Z.ty _ _ I.kIn p
  cases b with
  | non => cases rb.of_non; exact key (.base .non)
  | bl b => cases rb.of_bl; exact key (.base (.bl b))
  | int b => cases rb.of_int; exact key (.base (.int b))
  | str b => cases rb.of_str; exact key (.base (.str b))
  | tup b =>
    obtain ⟨p, us, rfl, zz, rr⟩ := rb.of_tup
    rcases zz with ⟨_, z1⟩ | (z0 | z0) | ⟨o, its, n, h1, h2, _⟩
    · rcases z1 with z1 | ⟨o, z1⟩
      · exact key (.base (.tup z1))
      · exact key (.fTuple z1)
    · cases z0
    · rcases z0 with ⟨_, z0⟩; cases z0
    · exact key (.kTuple (by rw [← hK]; exact h1) h2)
  | lst b =>
    obtain ⟨p, us, rfl, zz, rr⟩ := rb.of_lst
    rcases zz with ⟨_, z1⟩ | (z0 | z0) | ⟨o, its, n, h1, h2, _⟩
    · rcases z1 with z1 | ⟨o, z1⟩
      · exact key (.base (.lst z1))
      · exact key (.base (.frz z1))
    · cases z0
    · rcases z0 with ⟨_, z0⟩; cases z0
    · exact key (.kList (by rw [← hK]; exact h1) h2)
  | ins k fs =>
    obtain ⟨p, dx, gs, rfl, zz, ea, fl⟩ := rb.of_ins
    cases (show u = Value.ref p from ry)
    obtain ⟨ox, od, J⟩ := inst_at I ea
    exact J.type
  | cls k => cases hb
  | ty k => cases hb
/-- x == y, x of an own class with its own __eq__; nt: what y may be -/
def fEqO (nt : List Tg) (cl : String) (A : Ar) (g : FM) : F2 := fun x y G => match x, y with
  | .d (.ins k fs), .d b => if k = cl ∧ A 2 = true ∧ noC b = true ∧ tgOf b ∈ nt then resB (toOpt (g [.d (.ins k fs), .d b] G)) else none
  | _, _ => none
theorem dop_eqO {nt : List Tg} (hK : c.K = X.K) (hr : Room lv X.A) (hn : ∀ t ∈ nt, PySem.W.notFirst X.K (c.C cl) (t.v c.C) = true) (hs : PySem.W.findIn X.K (.ref (c.C cl)) "__eq__" = some (some (.ref f))) (hf : PySem.W.isFn X.K (.ref f) = true)
    (F : FnG X.prog X.w X.K X.mg X.base c.C c.N lv f A g) : OpR X (compareOp .Eq) (V2 c (fEqO nt cl A g)) := by
  intro pins s σ H x y v u Q I rx ry ⟨M, ρ, G, a, b, sr, ra, rb, q⟩
  unfold fEqO at q
  split at q
  · rename_i k fs b'
    split at q
    · rename_i hk
      obtain ⟨rfl, hA, hc, ht⟩ := hk
      have sp := spd_opt (A := A) (g := g) (es := [.d (.ins k fs), .d b']) sr (.cons ra (.cons rb .nil)) hA (vq_B q)
      obtain ⟨p, dx, gs, rfl, z, ea, fl⟩ := Rep.of_ins ra
      cases (show v = Value.ref p from rx)
      obtain ⟨ox, od, J⟩ := inst_at I ea
      obtain ⟨m, hF⟩ := I.fr
      show wpAny (model X.prog X.w) X.A (richCompare .Eq (.ref p) u) (EP X pins σ Q) X.xe s
      refine PySem.W.cmp_K (op := .Eq) hr.units0 hF I.ok.mod.kin J (tyl_of hK I rb ry hc) (hn _ ht) hs hf ?_
      rw [hK] at sp
      refine wpAny_mono (wpAny_call (run_fnA (us := [.ref p, u]) (vs := [.ref p, y]) F hr pass0' I (.cons rfl (.cons ry .nil)) sp)) (fun w s' hw => ?_) fun _ _ x => x
      obtain ⟨z', H', I', rz, ⟨b, e⟩, qz⟩ := hw
      subst e
      cases rz
      exact ⟨.bl b, H', I', rfl, qz⟩
    · exact q.elim
  · exact q.elim
end
end DL

set_option Elab.async false
set_option linter.all false
set_option maxRecDepth 100000
set_option maxHeartbeats 4000000
namespace DL
open PySem PySem.Spec L2 PyProof.Rows StX ClX
section
variable {X : Cx} {c : RC} {W : WX} {M : Addr → Prop} {ρ : List Addr} {σ : L2.St} {H : Hp} {G : GS} {e o : Expr} {mo me : EM} {pos apos : Pos} {lv : Nat} {cl : String} {A : Ar} {g : FM} {f : Addr}
/-! ### texts -/
def txts : List DL.D → Option (List Str)
  | [] => some []
  | .str x :: r => (txts r).map (x :: ·)
  | _ => none
theorem txts_rep : ∀ {ds : List DL.D} {vs : List V} {zs : List Str}, txts ds = some zs → All2 (Rep c M ρ H) ds vs → vs = zs.map V.str
  | [], _, _, h, .nil => by cases h; rfl
  | .str x :: r, _, zs, h, .cons ra t => by
    unfold txts at h
    cases hr : txts r with
    | none => rw [hr] at h; cases h
    | some ys =>
      rw [hr] at h
      cases h
      rw [txts_rep hr t, ra.of_str]
      rfl
  | .non :: _, _, _, h, _ => by cases h
  | .bl _ :: _, _, _, h, _ => by cases h
  | .int _ :: _, _, _, h, _ => by cases h
  | .tup _ :: _, _, _, h, _ => by cases h
  | .lst _ :: _, _, _, h, _ => by cases h
  | .ins _ _ :: _, _, _, h, _ => by cases h
  | .cls _ :: _, _, _, h, _ => by cases h
  | .ty _ :: _, _, _, h, _ => by cases h
def joinD (a : Str) (ys : List DL.D) : Option DL.D := (txts ys).bind fun zs => if (zs.map (·.length)).sum + zs.length * a.length ≤ 16777216 then some (.str (Txt.join a zs)) else none
def fJn (a : Str) : F1 := pure1 fun
  | .lst ys => joinD a ys
  | .tup ys => joinD a ys
  | _ => none
/-- o.join(e) -/
def eJoin (mo me : EM) : EM := fun env G => (mo env G).bind fun x G1 => match x with
  | .d (.str a) => (me env G1).bind fun y G2 => lift (fJn a y G2)
  | _ => .st
theorem de_join (hK : c.K = X.K) (ho : DE X c W o mo) (he : DE X c W e me) (hs : starEach [e] X.env = [(false, eval e X.env)] := by rfl) (hbase : attributeBase o "join" X.env (eval o X.env) = eval o X.env := by rfl) (hline : (apos.endLine == pos.line) = true := by rfl) :
    DE X c W (.Call (.Attribute o "join" apos) [e] [] pos) (eJoin mo me) := by
  refine pe_imp (pe_join ho he hs hbase hline) fun σ H Q q => ?_
  obtain ⟨M, ρ, G, env, R, q⟩ := q
  refine ⟨M, ρ, G, env, R, (TQ.bind (R := RE c) q).imp fun v H1 ⟨ρ1, G1, e1, g1, s1, r1, q1⟩ => ?_⟩
  split at q1
  · rename_i a
    have ev : v = .str a := Rep.of_str r1
    refine ⟨⟨a, ev⟩, M, ρ1, G1, env, R.ge g1 s1, (TQ.bind (R := RE c) q1).imp fun u H2 ⟨ρ2, G2, e2, g2, s2, r2, q2⟩ => ?_⟩
    have fin : ∀ ys p vs, u = .ref p → (SqL c.K H2 p vs ∨ SqT c.K H2 p vs) → All2 (Rep c M ρ2 H2) ys vs → TQ (RE c) c W M ρ2 σ H2 (lift ((joinD a ys).map fun z => (EV.d z, G2))) Q →
        ∃ a' p, ∃ zs : List Str, v = .str a' ∧ [u] = [.ref p] ∧ (SqL X.K H2 p (zs.map V.str) ∨ SqT X.K H2 p (zs.map V.str)) ∧ (zs.map (·.length)).sum + zs.length * a'.length ≤ 16777216 ∧ Q (.str (Txt.join a' zs)) H2 := fun ys p vs hu hz rr q3 => by
      unfold joinD at q3
      cases hy : txts ys with
      | none => rw [hy] at q3; exact q3.elim
      | some zs =>
        rw [hy] at q3
        dsimp only [Option.bind] at q3
        split at q3
        · rename_i hl
          refine ⟨a, p, zs, ev, by rw [hu], ?_, hl, TQ.ok q3 s2 Rep.str⟩
          rw [← txts_rep hy rr, ← hK]
          exact hz
        · exact q3.elim
    cases e2 with
    | o i => exact q2.elim
    | d y =>
      cases y with
      | lst ys => obtain ⟨p, vs, hu, z, rr⟩ := Rep.of_lst r2; exact fin ys p vs hu (.inl z.sq) rr q2
      | tup ys => obtain ⟨p, vs, hu, z, rr⟩ := Rep.of_tup r2; exact fin ys p vs hu (.inr z.sq) rr q2
      | _ => exact q2.elim
  · exact q1.elim
/-- {x} -/
def fFmt : F1 := pure1 fun
  | .str y => if y.length ≤ 1000000 then some (.str y) else none
  | .int i => if i.natAbs.log2 < 1920 then some (.str (toString i)) else none
  | _ => none
theorem de_fmt (he : DE X c W e me) : DE X c W (.FormattedValue e (-1) none pos) (eUn fFmt me) := by
  refine pe_imp (pe_fmt he) fun σ H Q q => ?_
  obtain ⟨M, ρ, G, env, R, q⟩ := q
  refine ⟨M, ρ, G, env, R, (TQ.bind (R := RE c) q).imp fun v H1 ⟨ρ1, G1, e1, g1, s1, r1, q1⟩ => ?_⟩
  cases e1 with
  | o i => exact q1.elim
  | d x =>
    cases x with
    | str y =>
      have q2 : TQ (RE c) c W M ρ1 σ H1 (lift ((if y.length ≤ 1000000 then some (DL.D.str y) else none).map fun z => (EV.d z, G1))) Q := q1
      split at q2
      · rename_i hl
        exact .inl ⟨y, Rep.of_str r1, Nat.le_trans hl (by decide), TQ.ok q2 s1 Rep.str⟩
      · exact q2.elim
    | int i =>
      have q2 : TQ (RE c) c W M ρ1 σ H1 (lift ((if i.natAbs.log2 < 1920 then some (DL.D.str (toString i)) else none).map fun z => (EV.d z, G1))) Q := q1
      split at q2
      · rename_i hl
        exact .inr ⟨i, Rep.of_int r1, hl, TQ.ok q2 s1 Rep.str⟩
      · exact q2.elim
    | _ => exact q1.elim
/-! f-strings of two parts or more -/
def jsO : List EM → Str → En → GS → Out Str
  | [], acc, _, G => .ok acc G
  | m :: ms, acc, env, G => (m env G).bind fun x G1 => match x with
    | .d (.str y) => if (acc ++ y).length ≤ 1000000 then jsO ms (acc ++ y) env G1 else .st
    | _ => .st
def eJs (ms : List EM) : EM := fun env G => (jsO ms Str.empty env G).bind fun z G1 => .ok (.d (.str z)) G1
theorem js_run {env : En} : ∀ (ms : List EM) (acc : Str) (M : Addr → Prop) (ρ : List Addr) (G : GS) (H : Hp) (Q : Str → Hp → Prop), Rl c M ρ G env σ H →
    TQ (fun M ρ H (e : Str) (v : Str) => e = v) c W M ρ σ H (jsO ms acc env G) Q → tJs (ms.map (tD c W)) acc σ H Q
  | [], acc, M, ρ, G, H, Q, R, q => q acc ρ H Ge.refl R.s rfl
  | m :: ms, acc, M, ρ, G, H, Q, R, q => by
    refine ⟨M, ρ, G, env, R, (TQ.bind (R := RE c) q).imp fun v H1 ⟨ρ1, G1, e1, g1, s1, r1, q1⟩ => ?_⟩
    split at q1
    · rename_i y
      split at q1
      · rename_i hl
        exact ⟨y, Rep.of_str r1, Nat.le_trans hl (by decide), js_run ms (acc ++ y) M ρ1 G1 H1 Q (R.ge g1 s1) q1⟩
      · exact q1.elim
    · exact q1.elim
theorem de_js {v1 v2 : Expr} {rest : List Expr} {ms : List EM} (h : PJ X (v1 :: v2 :: rest) (ms.map (tD c W))) : DE X c W (.JoinedStr (v1 :: v2 :: rest) pos) (eJs ms) := by
  refine pe_imp (pe_joined h) fun σ H Q q => ?_
  obtain ⟨M, ρ, G, env, R, q⟩ := q
  refine js_run ms Str.empty M ρ G H _ R ?_
  have q' : TQ (RE c) c W M ρ σ H ((jsO ms Str.empty env G).bind fun z G1 => .ok (.d (.str z)) G1) Q := q
  cases hj : jsO ms Str.empty env G with
  | ok z G1 => rw [hj] at q'; exact fun v ρ' H' g s e => by subst e; exact q' _ ρ' H' g s Rep.str
  | er cl fs G1 => rw [hj] at q'; exact q'
  | st => rw [hj] at q'; exact q'
theorem de_js1 (h : DE X c W e me) : DE X c W (.JoinedStr [e] pos) me := pe_joined1 h
/-! str, repr -/
def fStrI : FN := pureN fun
  | [.int i] => if i.natAbs.log2 < 1920 then some (.str (toString i)) else none
  | [.str x] => some (.str x)
  | _ => none
theorem dcall_strI : CallR X (.type "str") (VN c fStrI) := callr_imp (callr_or call_str_int SkE.call_str_str) fun vs H Q q0 => by
  obtain ⟨M, ρ, G, ds, z, s, r, hz, q⟩ := vn_pure q0
  clear q0
  split at hz
  · rename_i i
    split at hz
    · rename_i hl
      cases hz
      cases r with
      | cons ra t => cases t; exact .inl ⟨i, by rw [Rep.of_int ra], hl, q _ _ same_refl .str⟩
    · cases hz
  · rename_i x
    cases hz
    cases r with
    | cons ra t => cases t; exact .inr ⟨x, by rw [Rep.of_str ra], q _ _ same_refl .str⟩
  · cases hz
/-- str(y), repr(y), y of an own class -/
def fOwnS (cl : String) (A : Ar) (g : FM) : FN := fun es G => match es with
  | [.d (.ins k fs)] => if k = cl ∧ A 1 = true then resS (toOpt (g [.d (.ins k fs)] G)) else none
  | _ => none
theorem dcall_strO (hK : c.K = X.K) (hr : Room (lv + 2) X.A) (hs : PySem.W.findIn X.K (.ref (c.C cl)) "__str__" = some (some (.ref f))) (hf : PySem.W.isFn X.K (.ref f) = true) (F : FnG X.prog X.w X.K X.mg X.base c.C c.N lv f A g) :
    CallR X (.type "str") (VN c (fOwnS cl A g)) := by
  intro pins s σ H xs us Q I r ⟨M, ρ, G, es, sr, ra, q⟩
  unfold fOwnS at q
  split at q
  · rename_i k fs
    split at q
    · rename_i hk
      obtain ⟨rfl, hA⟩ := hk
      have sp := spd_opt (A := A) (g := g) (es := [.d (.ins k fs)]) sr ra hA (vq_S q)
      cases ra with
      | cons ra t =>
        cases t
        obtain ⟨p, dx, gs, rfl, z, ea, fl⟩ := Rep.of_ins ra
        cases r with
        | cons rx t2 =>
          cases t2
          cases rx
          obtain ⟨ox, od, J⟩ := inst_at I ea
          refine PySem.W.kso_call hr.in1.in1.units0 I.kIn J hs hf ?_
          rw [hK] at sp
          refine wpAny_mono (wpAny_call (run_fnB (us := [.ref p]) (vs := [.ref p]) rfl F hr.in1.in1 pass0' I (.cons rfl .nil) sp)) (fun w s' hw => ?_) fun _ _ x => x
          obtain ⟨z', H', I', rz, ⟨n, e⟩, qz⟩ := hw
          subst e
          obtain ⟨t, rfl⟩ := rz
          exact ⟨.str n, H', I', ⟨t, rfl⟩, qz⟩
    · exact q.elim
  · exact q.elim
theorem dcall_reprO (hK : c.K = X.K) (hr : Room (lv + 1) X.A) (hs : PySem.W.findIn X.K (.ref (c.C cl)) "__repr__" = some (some (.ref f))) (hf : PySem.W.isFn X.K (.ref f) = true) (F : FnG X.prog X.w X.K X.mg X.base c.C c.N lv f A g) :
    CallR X (.builtin "repr") (VN c (fOwnS cl A g)) := by
  intro pins s σ H xs us Q I r ⟨M, ρ, G, es, sr, ra, q⟩
  unfold fOwnS at q
  split at q
  · rename_i k fs
    split at q
    · rename_i hk
      obtain ⟨rfl, hA⟩ := hk
      have sp := spd_opt (A := A) (g := g) (es := [.d (.ins k fs)]) sr ra hA (vq_S q)
      cases ra with
      | cons ra t =>
        cases t
        obtain ⟨p, dx, gs, rfl, z, ea, fl⟩ := Rep.of_ins ra
        cases r with
        | cons rx t2 =>
          cases t2
          cases rx
          obtain ⟨ox, od, J⟩ := inst_at I ea
          obtain ⟨m, hF⟩ := I.fr
          refine PySem.W.repr_K hr.in1.units0 hF I.ok.mod.kin J hs hf ?_
          rw [hK] at sp
          refine wpAny_mono (wpAny_call (run_fnB (us := [.ref p]) (vs := [.ref p]) rfl F hr.in1 pass0' I (.cons rfl .nil) sp)) (fun w s' hw => ?_) fun _ _ x => x
          obtain ⟨z', H', I', rz, ⟨n, e⟩, qz⟩ := hw
          subst e
          obtain ⟨t, rfl⟩ := rz
          exact ⟨.str n, H', I', ⟨t, rfl⟩, qz⟩
    · exact q.elim
  · exact q.elim
/-! in of whole numbers; is of bools -/
def whols : List DL.D → Option (List Int)
  | [] => some []
  | .int x :: r => (whols r).map (x :: ·)
  | _ => none
theorem whols_of : ∀ {ds : List DL.D} {zs : List Int}, whols ds = some zs → ds = zs.map DL.D.int
  | [], _, h => by cases h; rfl
  | .int x :: r, zs, h => by
    unfold whols at h
    cases hr : whols r with
    | none => rw [hr] at h; cases h
    | some ys => rw [hr] at h; cases h; rw [whols_of hr]; rfl
  | .str _ :: _, _, h => by cases h
  | .non :: _, _, h => by cases h
  | .bl _ :: _, _, h => by cases h
  | .tup _ :: _, _, h => by cases h
  | .lst _ :: _, _, h => by cases h
  | .ins _ _ :: _, _, h => by cases h
  | .cls _ :: _, _, h => by cases h
  | .ty _ :: _, _, h => by cases h
theorem reps_int : ∀ {zs : List Int} {vs : List V}, All2 (Rep c M ρ H) (zs.map DL.D.int) vs → vs = zs.map V.int
  | [], _, .nil => rfl
  | z :: zs, _, .cons r t => by rw [r.of_int, reps_int t]; rfl
theorem any_int {i : Int} : ∀ zs : List Int, inV (.int i) (zs.map V.int) = zs.any (· == i)
  | [] => rfl
  | z :: zs => by
    have h := any_int (i := i) zs
    unfold inV at h ⊢
    rw [List.map_cons, List.any_cons, List.any_cons, h]
    rfl
theorem flat_int : ∀ zs : List Int, (zs.map V.int).all flatV = true
  | [] => rfl
  | z :: zs => by rw [List.map_cons, List.all_cons, flat_int zs]; rfl
def fInI : F2 := pure2 fun
  | .int i, .lst xs => (whols xs).map fun zs => .bl (zs.any (· == i))
  | .int i, .tup xs => (whols xs).map fun zs => .bl (zs.any (· == i))
  | _, _ => none
theorem dop_inI (hK : c.K = X.K) : OpR X (compareOp .In) (V2 c fInI) := opr_imp op_in_seq fun x y H Q q0 => by
  obtain ⟨M, ρ, G, a, b, z, s, ra, rb, hz, q⟩ := v2_pure q0
  clear q0
  split at hz
  · rename_i i xs
    cases hi : whols xs with
    | none => rw [hi] at hz; cases hz
    | some zs =>
      rw [hi] at hz
      cases hz
      obtain ⟨p, vs, rfl, z, rr⟩ := Rep.of_lst rb
      have e := whols_of hi
      subst e
      have ev := reps_int rr
      subst ev
      refine ⟨p, _, rfl, .inl (by rw [← hK]; exact z.sq), by rw [ra.of_int]; rfl, flat_int _, ?_⟩
      rw [ra.of_int, any_int]
      exact q _ _ same_refl .bl
  · rename_i i xs
    cases hi : whols xs with
    | none => rw [hi] at hz; cases hz
    | some zs =>
      rw [hi] at hz
      cases hz
      obtain ⟨p, vs, rfl, z, rr⟩ := Rep.of_tup rb
      have e := whols_of hi
      subst e
      have ev := reps_int rr
      subst ev
      refine ⟨p, _, rfl, .inr (by rw [← hK]; exact z.sq), by rw [ra.of_int]; rfl, flat_int _, ?_⟩
      rw [ra.of_int, any_int]
      exact q _ _ same_refl .bl
  · cases hz
def fIsNotB : F2 := pure2 fun
  | .bl a, .bl b => some (.bl (!decide (a = b)))
  | _, _ => none
theorem dop_isnotB : OpR X (compareOp .IsNot) (V2 c fIsNotB) := opr_imp op_isnot_bl fun x y H Q q => by
  obtain ⟨M, ρ, G, a, b, z, s, ra, rb, hz, q⟩ := v2_pure q
  split at hz
  · rename_i a b
    cases hz
    exact ⟨a, b, ra.of_bl, rb.of_bl, q _ _ same_refl .bl⟩
  · cases hz
def fIsB : F2 := pure2 fun
  | .bl a, .bl b => some (.bl (decide (a = b)))
  | _, _ => none
theorem dop_isB : OpR X (compareOp .Is) (V2 c fIsB) := opr_imp op_is_bl fun x y H Q q => by
  obtain ⟨M, ρ, G, a, b, z, s, ra, rb, hz, q⟩ := v2_pure q
  split at hz
  · rename_i a b
    cases hz
    exact ⟨a, b, ra.of_bl, rb.of_bl, q _ _ same_refl .bl⟩
  · cases hz
end
end DL

set_option Elab.async false
set_option linter.all false
set_option maxRecDepth 100000
set_option maxHeartbeats 4000000
/-! super().__init__(..) of an own error over the hand layer. -/
namespace SX
open PySem PySem.Spec PyProof.Rows L2 PySem.W NdefX
/-- the bound __init__ of the error at x -/
abbrev mw (x : Addr) : Obj := kxs_mw "ValueError.__init__" x
section
variable {P : Program} {w : World} {A : Around} {E : Value → Shared → Prop} {s : Shared}
variable {nm q : Str} {C Nn : Addr} {bs bm : List Value} {hdct : Bool} {sn : List Str} {sub : List Value} {ab : Bool} {col : Option Bool} {dd : Option Addr} {k0 k1 k2 k3 k5 : Option Value}
theorem mw_call {b x t0 : Addr} {rs : List Value} {Q : Value → Shared → Prop} (hC : s.heap.get? C = some (excClassObj nm q C Nn bs bm hdct sn sub ab col dd k0 k1 k2 k3 k5 "ValueError.__new__")) (hx : s.heap.get? x = some (PySem.HandSPX.excO C t0)) (hb : s.heap.get? b = some (mw x))
    (hl : rs.length ≤ sizeLine) (hq : ∀ h' t1, (∀ y o, y ≠ x → s.heap.get? y = some o → h'.get? y = some o) → h'.get? x = some (PySem.HandSPX.excO C t1) → Q .none { s with heap := h' }) : wpAny (model P w) A (call (.ref b) rs) Q E s := by
  obtain ⟨h, g, d, t, os⟩ := s
  refine wpAny_call (codeAny_of_tree ?_)
  show wpAny _ A.in1 (callAny (.ref b) ⟨rs, []⟩) _ _ _
  simp only [callAny]
  refine wpAny_bind (wpAny_load hb ?_)
  have e1 : (Value.type "method-wrapper" == Value.type "method" || Value.type "method-wrapper" == Value.type "builtin_function_or_method" || Value.type "method-wrapper" == Value.type "method-wrapper") = true := by decide
  simp only [mw, kxs_mw, e1, if_true]
  refine KFB.if_so (by decide) ?_
  refine wpAny_bind (check_bound_init PySem.F.excBase_ValueError.toExcCallFacts hC hx rfl ?_)
  refine wpAny_bind (wpAny_pure (wpAny_pure ?_))
  refine ⟨plainId_quiet PySem.F.excBase_ValueError.init.plain _, codeAny_builtin PySem.F.excBase_ValueError.initEntry ?_⟩
  exact exc_init_tree (cls := .ref C) (t0 := t0) (dv := none) (c2 := .none) (c3 := .none) (b4 := .bool false) hx hl fun h' k e' _ => hq h' _ k e'
end

/-- what the text says of a method f of the class at D that says super() -/
structure SupF (P : Program) (K : PySem.W.Frag) (G : NF) (f cc D : Addr) (sf : Str) : Prop where
  cl : G.cl = [(("__class__" : Str), cc)]
  fn : ∃ oc od fd osl ar, K.lookup f = some ⟨oc, od, .func fd, osl⟩ ∧ (fd.params.posonlyargs ++ fd.params.args).head? = some ar ∧ ar.arg = sf
  code : ∃ c1 d1 vs s1 file tf, K.lookup G.c = some ⟨c1, d1, .fields vs, s1⟩ ∧ vs[2]? = some (.str file tf) ∧ ((P.main.file : Str) == file) = true
  cell : ∃ c1 d1 s1, K.lookup cc = some ⟨c1, d1, .cell (some (.ref D)), s1⟩
  clsD : ∃ cd, clsIn K D = some cd
  sup : nsIn K mainGlobals "super" = some none
  ks : G.scope.names.lookup ("super" : Str) = some .globalImplicit
  kc : G.scope.names.lookup ("__class__" : Str) = some .free
  ka : G.scope.names.lookup sf = some .local
  kk : G.scope.kind = .function
  top : (P.main.scope.names.lookup ("super" : Str)).isSome = false
section
variable {CX : CXT} {P : Program} {w : World} {K : PySem.W.Frag} {mg : Str → Option Value} {base : Heap} {N : List Str} {G : NF} {f cc D C a : Addr} {A : Around} {outer : List Env} {s0 s : Shared} {H0 H : Hp} {E : XK} {sf : Str} {pins : List (Addr × Obj)} {σ : L2.St}
/-- super() where an attribute of it is asked: a record for the object at a -/
theorem sup_base {body : List Stmt} {p0 p1 : Pos} {attr : Str} {whole : Sem Value} {ox : Obj} {Q : Value → Shared → Prop} {EE : Value → Shared → Prop} (S : SupF P K G f cc D sf) (I : Inv (ncx CX P w K mg base N G f A outer s0 H0 E) pins σ H s)
    (h0 : N[0]? = some sf) (hs : σ[0]? = some (some (.ref a))) (ha : s.heap.get? a = some ox) (hcl : ox.cls = .ref C) (hnc : ∀ z, ox.data ≠ .cls z) (hsub : mroIn K C (.ref D) = some true) (hat : (attr == ("__class__" : Str)) = false) (hm : mg "super" = none)
    (h : ∀ so s', Inv (ncx CX P w K mg base N G f A outer s0 H0 E) ((so, ks_superObj D a C) :: pins) σ H s' → Q (.ref so) s') :
    _root_.PySem.wpAt (model P w) (A.deeper (envF G f s0.heap.objs.size)) (.func body (envF G f s0.heap.objs.size)) (attributeBase (.Call (.Name "super" p0) [] [] p1) attr (envF G f s0.heap.objs.size) whole) Q EE s := by
  obtain ⟨oc, od, fd, osl, ar, hf, hp, har⟩ := S.fn
  obtain ⟨c1, d1, vs, s1, file, tf, hcode, hvs, hfile⟩ := S.code
  obtain ⟨c2, d2, s2, hcell⟩ := S.cell
  obtain ⟨cd, hD⟩ := S.clsD
  have kin : K.In s.heap := I.kIn
  obtain ⟨oD, hD1, hD2⟩ : ∃ oD, s.heap.get? D = some oD ∧ oD.data = .cls cd := by
    unfold clsIn at hD
    split at hD
    · rename_i e1 e2 e3 e4 ho
      cases hD
      exact ⟨_, kin _ _ ho, rfl⟩
    · cases hD
  obtain ⟨m, hn, hl⟩ := I.loc
  obtain ⟨u, r, l⟩ := hl 0 sf _ h0 hs (.inl S.ka)
  obtain rfl : u = Value.ref a := r
  have hlook : m sf = some (.ref a) := by
    rcases l with ⟨_, z⟩ | ⟨z, _⟩
    · exact z
    · have z' : G.scope.names.lookup sf = some .cell ∨ G.scope.names.lookup sf = some .free := z
      rw [S.ka] at z'
      rcases z' with z' | z' <;> cases z'
  obtain ⟨mb, hb1, hb2⟩ := I.mod.blt
  have kf : (envF G f s0.heap.objs.size).scope.kind = .function := S.kk
  refine ks_wpAt_super_base (env := envF G f s0.heap.objs.size) S.ks S.kc hat rfl (kin _ _ hf) rfl hp rfl (kin _ _ hcode) rfl hvs hfile S.top ?_
  refine ks_loadName_global kf S.ks (Calls.loadGlobal_builtin (env := envF G f s0.heap.objs.size) (I.mod.glob.keeps I.bk) hm (hb1.keeps I.bk) ((hb2 _ (by decide)).trans (show bootBuiltins "super" = some (.type "super") from ?_)) ⟨rfl, ?_⟩)
  · exact PyProof.Rows.Boot.«super»
  refine wpAny_loadName_free kf S.kc (c := cc) (by show G.cl.lookup _ = _; rw [S.cl]; rfl) ⟨_, kin _ _ hcell, rfl⟩ ?_
  rw [har]
  refine wpAny_loadName_local kf S.ka hn hlook ?_
  refine ks_wpAny_isType_cls (h := s.heap) (g := s.gens) hD1 hD2 ⟨rfl, ?_⟩
  refine ks_wpAny_call_super (h := s.heap) hD1 hD2 ha hcl hnc (looks_mroIn kin hsub) fun h' e k => ?_
  exact h _ _ (ClX.pin_new I k (Nat.le_refl _) e fun v z => nomatch z)
/-- super().__init__(e, ..) of an own error: nothing of it is told -/
theorem sup_init {body : List Stmt} {p0 p1 ap pos : Pos} {e : Expr} {es : List Expr} {t : TA} {Q : Value → Shared → Prop} (S : SupF P K G f cc D sf) (I : Inv (ncx CX P w K mg base N G f A outer s0 H0 E) pins σ H s)
    (h0 : N[0]? = some sf) (hs : σ[0]? = some (some (.ref a))) (T : OexC K C) (ea : H a = some (exo a C none)) (hsub : mroIn K C (.ref D) = some true) (hst : nsIn K cStatics "thirdparty.any" = some none) (hsi : ks_superIn K C D "__init__" = some (some (.builtin "ValueError.__init__"))) (hm : mg "super" = none)
    (ha : PA (ncx CX P w K mg base N G f A outer s0 H0 E) (e :: es) t)
    (ht : t σ H fun vs H1 => vs.length ≤ 1000 ∧ H1 a = some (exo a C none) ∧ ∀ s', Inv (ncx CX P w K mg base N G f A outer s0 H0 E) pins σ H1 s' → Q .none s')
    (he : starEach (e :: es) (envF G f s0.heap.objs.size) = (false, eval e (envF G f s0.heap.objs.size)) :: starEach es (envF G f s0.heap.objs.size) := by rfl) (hpl : (backTo pos (starEach es (envF G f s0.heap.objs.size))).any (·.1) = false := by rfl) {pl : Sem Bool}
    (hev : eval (.Call (.Attribute (.Call (.Name "super" p0) [] [] p1) "__init__" ap) (e :: es) [] pos) (envF G f s0.heap.objs.size) = (do
      let ov ← attributeBase (.Call (.Name "super" p0) [] [] p1) "__init__" (envF G f s0.heap.objs.size) (eval (.Call (.Name "super" p0) [] [] p1) (envF G f s0.heap.objs.size))
      standAt ap.atName
      let (f', first) ← holding [ov] (getMethod ov "__init__" pl)
      callWith pos f' first (backTo pos (starEach (e :: es) (envF G f s0.heap.objs.size))) []) := by rfl) :
    _root_.PySem.wpAt (model P w) (A.deeper (envF G f s0.heap.objs.size)) (.func body (envF G f s0.heap.objs.size)) (eval (.Call (.Attribute (.Call (.Name "super" p0) [] [] p1) "__init__" ap) (e :: es) [] pos) (envF G f s0.heap.objs.size)) Q
      (ncx CX P w K mg base N G f A outer s0 H0 E).xe s := by
  obtain ⟨nm, q, Nn, bs, bm, sn, sub, ab, col, dd, k0, k1, k2, k3, k5, hC, hbm⟩ := T.cls
  obtain ⟨t1, ho⟩ := exo_at I.hok ea
  refine ks_wpAt_MethodCall (sup_base S I h0 hs ho rfl (fun z y => nomatch y) hsub (by decide) hm fun so s1 I1 => ?_) hev
  have kin : K.In s1.heap := I1.kIn
  obtain ⟨t2, ho1⟩ := exo_at I1.hok ea
  have hcl : clsIn K C = some { name := nm, bases := bs, mro := .ref C :: bm, ns := Nn, qualname := q, hasDict := true, slotNames := sn, subclasses := sub, abstract := ab, collection := col, hasDel := false } := by unfold clsIn; rw [hC] <;> rfl
  have hve : mroIn K C (.type "ValueError") = some true := by
    have hr : PySem.HandSPX.refsVE (.ref C :: bm) = true := hbm
    unfold mroIn
    rw [hcl, Option.bind_some, if_neg (show ¬ (List.isEmpty (Value.ref C :: bm) = true) from Bool.false_ne_true), PySem.HandSPX.refsVE_contains "ValueError" _ hr]
    decide +kernel
  have IA : InstAt s1.heap a { cls := .ref C, dict := none, data := .fields #[.ref t2, .none, .none, .none, .bool false, .none] } C none := ⟨ho1, rfl, rfl, trivial⟩
  have hne : a ≠ C := ks_ne kin IA hcl
  have hso : s1.heap.get? so = some (ks_superObj D a C) := ClX.pin_at I1
  unfold ks_superIn at hsi
  rw [hcl] at hsi
  have hsi' : alongIn K "__init__" (((Value.ref C :: bm).dropWhile (· != .ref D)).drop 1) = some (some (.builtin "ValueError.__init__")) := hsi
  obtain ⟨hh, g, d, tk, os⟩ := s1
  refine kxs_getMethod kxs_ValueError hso (looks_opaque kin hst) (l₀ := .ref C :: bm) ?_ rfl kin hsi' (IA.type.andThen (looks_mroIn kin hve)) hne (by decide) ?_
  · exact fun A Q E s k q => wpAny_bind ((looks_clsIn kin hcl) A _ E s k (wpAny_pure q))
  have I2 : Inv (ncx CX P w K mg base N G f A outer s0 H0 E) ((hh.objs.size, mw a) :: (so, ks_superObj D a C) :: pins) σ H ⟨hh.push (mw a), g, d, tk + 1, os⟩ :=
    ClX.pin_new (s := ⟨hh, g, d, tk, os⟩) I1 (fun _ _ z => Heap.get?_push_of_some _ z) (Nat.le_refl _) (Heap.get?_push_size hh rfl) (fun v z => nomatch z)
  show wpAny _ _ (callWith pos (.ref hh.objs.size) [] _ []) _ _ _
  rw [he]
  refine kxs_callWith (i := "ValueError.__init__") (x := a) (by show (false || (backTo pos (starEach es (envF G f s0.heap.objs.size))).any (·.1)) = false; rw [hpl]; rfl) (Calls.evalArgs_plain ?_)
  have hrun := ha.run pos _ _ σ H _ I2 ht
  have he' : starEach (e :: es) (ncx CX P w K mg base N G f A outer s0 H0 E).env = (false, eval e (envF G f s0.heap.objs.size)) :: starEach es (envF G f s0.heap.objs.size) := he
  rw [he'] at hrun
  refine thn hrun fun us s2 ⟨vs, H1, I3, r, hl, ea1, k⟩ => ⟨ClX.pin_at I3, ?_⟩
  obtain ⟨t3, ho3⟩ := exo_at I3.hok ea1
  obtain ⟨h2, g2, d2, tk2, os2⟩ := s2
  refine mw_call (s := ⟨h2, g2, d2, tk2, os2⟩) (I3.kIn _ _ hC) ho3 (ClX.pin_at I3) (by show us.length ≤ sizeLine; rw [← r.length, sizeLine_eq]; omega) fun h' t4 kk hx => ?_
  have J := I3.write (t' := tk2) (x := a) (e := a) (o := exo a C none) (by rw [ea1]; exact True.intro) (.inl rfl) kk ⟨_, hx⟩ (exo_ok hx)
  have eu : upd H1 a (exo a C none) = H1 := by
    funext b
    by_cases hb : b = a
    · rw [hb, upd_same, ea1]
    · rw [upd_ne hb]
  rw [eu] at J
  exact k _ (ClX.unpin (ClX.unpin J))
end
end SX

set_option Elab.async false
set_option linter.all false
set_option maxRecDepth 100000
set_option maxHeartbeats 4000000
/-! An own error over ValueError by its __init__, raised where nothing is handled. -/
namespace SX
open PySem PySem.Spec PyProof.Rows L2 PySem.W NdefX
section
variable {CX : CXT} {P : Program} {w : World} {K : PySem.W.Frag} {mg : Str → Option Value} {base : Heap} {N ps : List Str} {G : NF} {f cc D : Addr} {k : Nat} {sf : Str} {dV kV doc pm ctv oc : Value} {od an : Option Addr} {osl : Array (Option Value)} {sp : Sp}
/-- a method that says super(), by its body; the body runs where its own frame is known -/
theorem fn_sup (S : SupF P K G f cc D sf) (lk : K.lookup f = some ⟨oc, od, .func (fnX G.name G.qual G.params G.body G.scope G.cl dV kV doc pm an (.ref G.c) ctv), osl⟩) (hcd : codeIn K (.ref G.c) G.qual = true) (Sc : NScope N ps [("__class__" : Str)] G.scope) (len : ∀ vs H Q E, sp vs H Q E → vs.length = ps.length)
    (hb : ∀ (A : Around) (outer : List Env) (s : Shared) (H : Hp) (vs : List V) (Q : VK) (E : XK), Room k (A.deeper (envF G f s.heap.objs.size)) → sp vs H Q E → ∀ s1, Inv (ncx CX P w K mg base N G f A outer s H E) [] (startF N vs [none]) H s1 →
      _root_.PySem.wpAt (model P w) (A.deeper (envF G f s.heap.objs.size)) (.func G.body (envF G f s.heap.objs.size)) (execs G.body (envF G f s.heap.objs.size)) (SP (ncx CX P w K mg base N G f A outer s H E) [] { nx := fun _ H' => Q .non H', rt := Q }) (ncx CX P w K mg base N G f A outer s H E).xe s1) :
    FnOk P w K mg base CX (k + 1) f (fnX G.name G.qual G.params G.body G.scope G.cl dV kV doc pm an (.ref G.c) ctv) ps sp := by
  refine ⟨len, fun A outer s H args us vs Q E hr e0 hbd r hsp => ?_⟩
  have hl := len _ _ _ _ hsp
  have kin : K.In s.heap := e0.mod.kin.keeps fun b o e => (e0.bs b o e).1
  have lim : s.heap.NoLimit := e0.mod.nolimit.keeps fun b o e => (e0.bs b o e).1
  refine codeAny_call_function hr.depth (kin _ _ lk) rfl Sc.co Sc.gen rfl (codeRec_of kin hcd) (hbd _ _ _ _ ?_)
  refine wpAny_newFunctionEnv Sc.nocell (fun ⟨n, _⟩ hy => Sc.par n (List.of_mem_zip hy).1) (fun h₁ hns hsb => ⟨lim.fresh _ hsb, ?_⟩) Sc.kind
  show codeAny _ _ (.func G.body (envF G f s.heap.objs.size)) _ _
  have kp : ∀ b o, s.heap.get? b = some o → h₁.get? b = some o := fun b o e => hsb.extBut b o (Nat.ne_of_lt (Heap.lt_size e)) (Heap.get?_push_of_some _ e)
  obtain ⟨c1, d1, s1, hcell⟩ := S.cell
  have C : CellsAt G.cl [("__class__" : Str)] [none] s.heap H := by
    have key : ∀ y c, G.cl.lookup y = some c → y = "__class__" ∧ c = cc := fun y c e => by
      rw [S.cl] at e
      by_cases h : y = "__class__"
      · subst h
        have e' : some cc = some c := e
        exact ⟨rfl, (Option.some.inj e').symm⟩
      · have h' : (y == ("__class__" : Str)) = false := by simpa using h
        simp [List.lookup, h'] at e
    have hbase := e0.mod.kin _ _ hcell
    refine ⟨rfl, fun y c e => ?_, fun x y c e1 e2 => ?_, fun i y e => ?_⟩
    · obtain ⟨_, rfl⟩ := key y c e
      exact ⟨(e0.bs _ _ hbase).2, _, _, (e0.bs _ _ hbase).1, rfl⟩
    · exact (key x c e1).1.trans (key y c e2).1.symm
    · have hi : i = 0 := by
        have := (List.getElem?_eq_some_iff.mp e).1
        simpa using this
      subst hi
      have hy : y = "__class__" := by simpa using e.symm
      subst hy
      exact ⟨cc, by rw [S.cl]; rfl, fun v z => by cases z⟩
  have I := inv_startN (CX := CX) (f := f) (E := E) (tk := s.toks + (ps.zip us).length) Sc hr.hd e0 hl r C hns kp
  refine ks_codeAny_funcAt (ks_wpAt_mono (hb A outer s H vs Q E (hr.deeper _) hsp _ I) (fun fl s' hs => ?_) fun e s' hs => hs)
  have fin : ∀ {σ' : L2.St} {H' : Hp} {v : V} {u : Value}, Inv (ncx CX P w K mg base N G f A outer s H E) [] σ' H' s' → RelV v u → Q v H' → CE outer P w H s Q u s' :=
    fun {σ' H' v u} J rv q => ⟨v, H', J.os, J.bare, J.base, J.hok, rv, q⟩
  cases fl with
  | ret u =>
    obtain ⟨v, σ', H', J, rv, q⟩ := hs
    exact fin J rv q
  | next =>
    obtain ⟨σ', H', J, q⟩ := hs
    exact fin (v := V.non) (u := Value.none) J rfl q
  | brk =>
    obtain ⟨_, _, _, q⟩ := hs
    exact False.elim q
  | cont =>
    obtain ⟨_, _, _, q⟩ := hs
    exact False.elim q
end
section
variable {X : Cx} {e : Expr} {es : List Expr} {ta : TA} {p pos : Pos}
/-- C(e, ..) where the exception has no context -/
theorem pmkN_oex {CX : CXT} {x : Str} {C fI : Addr} {k : Nat} {fd : FuncData} {ps : List Str} {sp : Sp} (T : OexC X.K C) (iC : findIn X.K (.ref C) "__init__" = some (some (.ref fI))) (tI : typeIn X.K (.ref fI) = some (.type "function")) (Fi : FnOk X.prog X.w X.K X.mg X.base CX k fI fd ps sp) (hr : Room (k + 1) X.A)
    (hb : Binds X.K fd ps []) (hx : Passes CX X (fun _ _ _ => False)) (hg : Gl X x) (hm : X.mg x = some (.ref C)) (ha : PA X (e :: es) ta) (hdb : (x == ("__debug__" : Str)) = false := by decide)
    (he : starEach (e :: es) X.env = (false, eval e X.env) :: starEach es X.env := by rfl) (hpl : (backTo pos (starEach es X.env)).any (·.1) = false := by rfl) : L2N.PMk X (.Call (.Name x p) (e :: es) [] pos) (tMkO C sp [] ta) := by
  intro pins s σ H Q I h
  obtain ⟨nm, q, Nn, bs, bm, sn, sub, ab, col, dd, k0, k1, k2, k3, k5, hC, hbm⟩ := T.cls
  refine wpAny_Call_Name_kw (ld_glob I hg hm ?_ hdb)
  refine callWith_K (h₀ := X.base) I.ok.mod.kin T.kC (thn (ha.run pos pins s σ H _ I h) fun us s1 ⟨vs, H1, I1, r1, hz, q1⟩ => ⟨I1.kIn, ?_⟩) he hpl
  show wpAny _ _ (call (.ref C) us) _ _ _
  obtain ⟨hp, g, dr, tk, os⟩ := s1
  have hsz : hp.objs.size ≤ hp.objs.size + 1 := Nat.le_succ _
  have hq := q1 (hp.objs.size + 1) (I1.hok.fresh hsz)
  rw [List.append_nil] at hq
  have kk : ∀ b o, hp.get? b = some o → ((hp.push (kdv_tup us)).push (PySem.HandSPX.excO C hp.objs.size)).get? b = some o := fun b o z => Heap.get?_push_of_some _ (Heap.get?_push_of_some _ z)
  have hget : ((hp.push (kdv_tup us)).push (PySem.HandSPX.excO C hp.objs.size)).get? (hp.objs.size + 1) = some (PySem.HandSPX.excO C hp.objs.size) := by heap_get
  have I2 := I1.laid (t' := tk) (a := hp.objs.size + 1) (o := exo (hp.objs.size + 1) C none) (h' := (hp.push (kdv_tup us)).push (PySem.HandSPX.excO C hp.objs.size)) kk hsz (exo_ok hget)
  have r2 : Vals (V.ref (hp.objs.size + 1) :: vs) (Value.ref (hp.objs.size + 1) :: us) := .cons rfl r1
  have hl : (Value.ref (hp.objs.size + 1) :: us).length = ps.length := r2.length.symm.trans (Fi.len _ _ _ _ hq)
  have bd := hb _ (Value.ref (hp.objs.size + 1) :: us) I2.kIn (by rw [List.append_nil]; exact hl)
  rw [List.append_nil] at bd
  refine wpAny_call (PySem.HandSPX.call_own PySem.F.excBase_ValueError (fun Y => PySem.HandSPX.refsVE_contains Y bm hbm) (I1.kIn _ _ hC) (looks_findIn I1.kIn iC) (fun sf => bind_fn I1.kIn sf tI) (by rw [← Paired.length r1, sizeLine_eq]; omega)
    (codeAny_mono (Fi.run _ X.stack _ _ ⟨Value.ref (hp.objs.size + 1) :: us, []⟩ _ _ _ (fun _ _ _ => False) (hr.make C us []) (I2.env0.make C us []) bd r2 hq) fun rs s' hq' => ?_))
  match rs, hq' with
  | .error er, z => exact hx pins σ _ _ er s' I2 z
  | .ok .next, z => exact z.elim
  | .ok .brk, z => exact z.elim
  | .ok .cont, z => exact z.elim
  | .ok (.ret u), ⟨v, H2, os2, bare2, un2, hok2, rv, ev, d, fs, ea, ed, hd1, q2⟩ =>
    subst ev
    obtain ⟨h2, g2, d2, t2, os'⟩ := s'
    obtain ⟨t0, Gh, J, kG, ge, hoe, na⟩ := mk_end0 (d2 := d2) (t2 := t2) I1 hsz kk un2 hok2 os2 bare2 ea ed hd1
    exact ⟨rv, _, _, _, ⟨Gh, g2, d2, t2, os'⟩, _, .ref C, some d, rfl, J, kG, ge, hoe, ⟨rfl, rfl, fun vs z => by cases z; rfl⟩, rfl, rfl, na, rfl, bare2, raises_own T.exC T.tyC, q2⟩
end
end SX

set_option Elab.async false
set_option linter.all false
set_option maxRecDepth 100000
set_option maxHeartbeats 4000000
/-! Own errors of one field: made, raised. -/
namespace DL
open PySem L2 PyProof.Rows NdefX
section
variable {c : RC} {M : Addr → Prop} {ρ : List Addr} {H H' : Hp} {a C : Addr} {dx : Option Addr}
theorem exo_lst {e C : Addr} {d : Option Addr} {xs : List V} : exo e C d ≠ .lst xs := fun z => by
  have z' : HO.ext _ = HO.lst xs := z
  cases z'
theorem exo_ins {e C k : Addr} {d : Option Addr} {y : Addr} {gs : List (Str × V)} : exo e C d ≠ .ins k y gs := fun z => by
  have z' : HO.ext _ = HO.ins k y gs := z
  cases z'
/-- all that is read stands, but what is at a -/
structure Off (a : Addr) (H H' : Hp) : Prop where
  at_ : ∃ e C d, H a = some (exo e C d)
  keep : ∀ b o, b ≠ a → H b = some o → H' b = some o
theorem Off.rd {u : HO} {b : Addr} (f : Off a H H') (hu : ∀ e C d, exo e C d ≠ u) (r : Rd H b u) : Rd H' b u := by
  obtain ⟨e, C, d, z⟩ := f.at_
  have ne : b ≠ a := fun q => by
    rw [q] at r
    rcases r with r | ⟨o, r⟩
    · rw [z] at r; exact hu _ _ _ (Option.some.inj r)
    · rw [z] at r; exact exo_frz (Option.some.inj r)
  rcases r with r | ⟨o, r⟩
  · exact .inl (f.keep _ _ ne r)
  · exact .inr ⟨o, f.keep _ _ ne r⟩
theorem RepN.off (f : Off a H H') : ∀ {n : Nat} {d : D} {v : V}, RepN c M ρ H n d v → RepN c M ρ H' n d v := by
  intro n
  induction n with
  | zero => intro d v h; cases d <;> exact h
  | succ n ih =>
    intro d v h
    cases d with
    | tup xs => obtain ⟨b, vs, e, z, r⟩ := h; exact ⟨b, vs, e, z.imp (fun q => ⟨q.1, f.rd (fun _ _ _ => exo_tup) q.2⟩) id, r.imp fun _ _ q => ih q⟩
    | lst xs => obtain ⟨b, vs, e, z, r⟩ := h; exact ⟨b, vs, e, z.imp (fun q => ⟨q.1, f.rd (fun _ _ _ => exo_lst) q.2⟩) id, r.imp fun _ _ q => ih q⟩
    | ins k fs =>
      obtain ⟨b, dx, gs, e, z, e2, nm, r⟩ := h
      refine ⟨b, dx, gs, e, z, f.keep _ _ (fun q => ?_) e2, nm, r.imp fun _ _ q => ih q⟩
      obtain ⟨_, _, _, z⟩ := f.at_
      rw [q, z] at e2; exact exo_ins (Option.some.inj e2)
    | _ => exact h
theorem Rep.off (f : Off a H H') {d : D} {v : V} (h : Rep c M ρ H d v) : Rep c M ρ H' d v := let ⟨n, q⟩ := h; ⟨n, q.off f⟩
theorem RepE.off (f : Off a H H') {d : EV} {v : V} (h : RepE c M ρ H d v) : RepE c M ρ H' d v := by
  cases d with
  | d x => exact Rep.off f h
  | o i => exact h
theorem SR.off {G : GS} (f : Off a H H') (s : SR c M ρ G H) (na : ¬ M a) (nb : ¬ c.B a) : SR c M ρ G H' := by
  have ne : ∀ b, b ≠ a → H b ≠ none → H' b ≠ none := fun b hb h => by
    cases e : H b with
    | none => exact absurd e h
    | some o => rw [f.keep _ _ hb e]; simp
  refine ⟨s.len, s.nd, s.sep, fun i xs e => ?_, fun b m => ne b (fun q => na (q ▸ m)) (s.mt b m), fun b m => ne b (fun q => nb (q ▸ m)) (s.bt b m)⟩
  obtain ⟨b, vs, p, q, r⟩ := s.at_ i xs e
  refine ⟨b, vs, p, f.keep _ _ (fun z => ?_) q, r.imp fun _ _ h => h.off f⟩
  obtain ⟨_, _, _, y⟩ := f.at_
  rw [z, y] at q; exact exo_lst (Option.some.inj q)
end

/-- the __init__ of an error of one field, the value it takes: ok -/
def SpE (K : PySem.W.Frag) (Cf : String → Addr) (N : String → List Str) (cl : String) (fld : Str) (ok : D → Bool) : Sp := fun vs H Q E => ∃ (B : Addr → Prop) (ρ : List Addr) (G : GS) (a : Addr) (x : D) (v : V), vs = [.ref a, v] ∧ H a = some (exo a (Cf cl) none) ∧ SR ⟨K, Cf, N, B, 0, 0⟩ nM ρ G H ∧
  Rep ⟨K, Cf, N, B, 0, 0⟩ nM ρ H x v ∧ ok x = true ∧ ∀ (d : Addr) (ρ' : List Addr) (H' : Hp), Ge nM ρ H ρ' H' → SR ⟨K, Cf, N, B, 0, 0⟩ nM ρ' G H' → H' d = none → d ≠ a → Q .non (upd (upd H' d (exd d [(fld, v)])) a (exo a (Cf cl) (some d)))
section
variable {P : Program} {w : World} {K : PySem.W.Frag} {mg : Str → Option Value} {base : Heap} {Cf : String → Addr} {Nf : String → List Str} {N : List Str} {F : NF} {f cc : Addr} {k : Nat} {sf pf fld cl : Str} {cn : String} {doc pm ctv oc : Value} {od : Option Addr} {osl : Array (Option Value)}
theorem fn_err1 {p0 p1 ap pos pos2 q1 q2 q3 pos3 : Pos} {e : Expr} {m : EM} {ok : D → Bool} (S : SX.SupF P K F f cc (Cf cn) sf) (lk : K.lookup f = some ⟨oc, od, .func (F.fd doc pm ctv), osl⟩) (hcd : PySem.W.codeIn K (.ref F.c) F.qual = true) (Sc : NScope N [sf, pf] [("__class__" : Str)] F.scope)
    (T : OexC K (Cf cn)) (hst : PySem.W.nsIn K cStatics "thirdparty.any" = some none) (hsi : PySem.W.ks_superIn K (Cf cn) (Cf cn) "__init__" = some (some (.builtin "ValueError.__init__"))) (hsub : PySem.W.mroIn K (Cf cn) (.ref (Cf cn)) = some true) (hm : mg "super" = none)
    (hno : PySem.W.findIn K (.ref (Cf cn)) fld = some none)
    (hbody : F.body = [.Expr (.Call (.Attribute (.Call (.Name "super" p0) [] [] p1) "__init__" ap) [e] [] pos) pos2, .Assign [.Attribute (.Name sf q1) fld q2] (.Name pf q3) pos3])
    (he : ∀ (A : Around) (outer : List Env) (s : Shared) (H : Hp) (E : XK) (B : Addr → Prop), DE (ncx (L2N.CX P w) P w K mg base N F f A outer s H E) ⟨K, Cf, Nf, B, 0, 0⟩ (fun cls d _ H => E cls d H) e m)
    (hok : ∀ x G, ok x = true → ∃ y, m (Sl.no :: Sl.ev (.d x) :: List.replicate (N.length - 2) Sl.no) G = .ok y G) (d1 : (sf == ("__debug__" : Str)) = false := by decide) (d2 : (sf == ("__classdict__" : Str)) = false := by decide) (d3 : (pf == ("__debug__" : Str)) = false := by decide) (d4 : (pf == ("__classdict__" : Str)) = false := by decide)
    (nd : pf ≠ sf := by decide) (hstar : ∀ env, starEach [e] env = (false, eval e env) :: starEach [] env := by intro _; rfl) {pl : Env → Sem Bool}
    (hev : ∀ env, eval (.Call (.Attribute (.Call (.Name "super" p0) [] [] p1) "__init__" ap) [e] [] pos) env = (do
      let ov ← attributeBase (.Call (.Name "super" p0) [] [] p1) "__init__" env (eval (.Call (.Name "super" p0) [] [] p1) env)
      standAt ap.atName
      let (f', first) ← holding [ov] (getMethod ov "__init__" (pl env))
      callWith pos f' first (backTo pos (starEach [e] env)) []) := by intro _; rfl)
    (hsw : ∀ env, swapsWith (.Call (.Attribute (.Call (.Name "super" p0) [] [] p1) "__init__" ap) [e] [] pos) none pos2.line env = pure false := by intro _; rfl) : FnOk P w K mg base (L2N.CX P w) (k + 1) f (F.fd doc pm ctv) [sf, pf] (SpE K Cf Nf cn fld ok) := by
  have hpre : N.take 3 = [sf, pf, ("__class__" : Str)] := Sc.pre
  have hlen : 3 ≤ N.length := by have := congrArg List.length hpre; rw [List.length_take] at this; simp at this; omega
  have g0 : N[0]? = some sf := by rw [← List.getElem?_take_of_lt (j := 3) (by omega), hpre]; rfl
  have g1 : N[1]? = some pf := by rw [← List.getElem?_take_of_lt (j := 3) (by omega), hpre]; rfl
  have lf : F.scope.names.lookup sf = some .local := Sc.par _ (by simp)
  have lp : F.scope.names.lookup pf = some .local := Sc.par _ (by simp)
  refine SX.fn_sup S lk hcd Sc (fun vs H Q E ⟨_, _, _, _, _, _, h, _⟩ => by rw [h]; rfl) fun A outer s H vs Q E hr hsp s1 I => ?_
  obtain ⟨B, ρ, G, a, x, v, rfl, ea, s0, rx, hx, q⟩ := hsp
  rw [hbody]
  have hs0 : (startF N [V.ref a, v] [none])[0]? = some (some (.ref a)) := rfl
  have hs1 : (startF N [V.ref a, v] [none])[1]? = some (some v) := rfl
  obtain ⟨y, hy⟩ := hok x G hx
  have R : Rl ⟨K, Cf, Nf, B, 0, 0⟩ nM ρ G (Sl.no :: Sl.ev (.d x) :: List.replicate (N.length - 2) Sl.no) (startF N [V.ref a, v] [none]) H := by
    refine ⟨s0, by unfold startF; simp; omega, fun _ => 0, fun i sl z => ?_, fun i j o u z => ?_⟩
    · match i, z with
      | 0, z => cases z; trivial
      | 1, z => cases z; exact ⟨v, hs1, rx⟩
      | i + 2, z =>
        have z' : (List.replicate (N.length - 2) Sl.no)[i]? = some sl := z
        rw [List.eq_of_mem_replicate (List.mem_of_getElem? z')]
        trivial
    · have := List.mem_of_getElem? z
      simp at this
  have nρ : a ∉ ρ := fun hm => by
    obtain ⟨i, hi⟩ := List.getElem?_of_mem hm
    have hl : i < G.length := by rw [← s0.len]; exact (List.getElem?_eq_some_iff.mp hi).1
    cases hg : G[i] with
    | lst xs =>
      obtain ⟨b, ws, p, z, _⟩ := s0.at_ i xs (by rw [List.getElem?_eq_getElem hl, hg])
      rw [hi] at p; cases p
      rw [ea] at z; exact exo_lst (Option.some.inj z)
  refine ks_wpAt_execs_cons (ks_wpAt_Expr_any (SX.sup_init S I g0 hs0 T ea hsub hst hsi hm (da_cons (he A outer s H E B) da_nil (hstar _)) ⟨nM, ρ, G, _, R, ?_⟩ (hstar _) (by rfl) (hev _)) (by unfold interactive; simp [Sc.kind]) (hsw _))
  show TQ _ _ _ _ _ _ _ ((m _ G).bind fun z G1 => (Out.ok [] G1).bind fun zs G2 => .ok (z :: zs) G2) _
  rw [hy]
  intro us ρ' H' ge s' r
  refine ⟨by rw [← r.length]; exact Nat.le_of_ble_eq_true rfl, ge.keep _ _ ea nρ, fun s2 J => ?_⟩
  have hc : PSs (ncx (L2N.CX P w) P w K mg base N F f A outer s H E) [.Assign [.Attribute (.Name sf q1) fld q2] (.Name pf q3) pos3] (tOst K fld (tVar 0) (tVar 1)) :=
    pss_one (ps_ost (pe_var g0 (.inl lf) d1 d2) (pe_var g1 (.inl lp) d3 d4) (by rfl))
  refine wpAt_of_wpAny (hc.run [] s2 _ H' { nx := fun _ H' => Q .non H', rt := Q } J ⟨v, hs1, .ref a, hs0, a, Cf cn, rfl, T, hno, .inl ⟨ge.keep _ _ ea nρ, fun d hd hda => q d ρ' H' ge s' hd hda⟩⟩)
end

/-- raise C(e), of one field -/
def sEr (cl : String) (ok : D → Bool) (m : EM) : SM := fun env G => ofE (m env G) env fun e G1 => match e with
  | .d x => if ok x = true then .er cl [x] env G1 else .st
  | _ => .st
section
variable {X : Cx} {c : RC} {W : WX} {e : Expr} {m : EM} {p pos pos' : Pos}
theorem pass_no : Passes (L2N.CX X.prog X.w) X (fun _ _ _ => False) := fun _ _ _ _ _ _ _ ⟨_, _, _, _, _, _, _, _, _, _, _, _, h⟩ => h.elim
theorem ds_raise1 {x fld : Str} {cl : String} {fI : Addr} {k : Nat} {fd : FuncData} {ps : List Str} {ok : D → Bool} (T : OexC X.K (c.C cl)) (iC : PySem.W.findIn X.K (.ref (c.C cl)) "__init__" = some (some (.ref fI))) (tI : PySem.W.typeIn X.K (.ref fI) = some (.type "function"))
    (Fi : FnOk X.prog X.w X.K X.mg X.base (L2N.CX X.prog X.w) k fI fd ps (SpE X.K c.C c.N cl fld ok)) (hN : (c.N cl).take 1 = [fld]) (hK : c.K = X.K) (hr : Room (k + 1) X.A) (hb : Binds X.K fd ps []) (hc : X.calm = true) (tk : L2N.Takes X W) (hg : Gl X x) (hm : X.mg x = some (.ref (c.C cl))) (ha : DE X c W e m)
    (hdb : (x == ("__debug__" : Str)) = false := by decide) (he : starEach [e] X.env = (false, eval e X.env) :: starEach [] X.env := by rfl) : DS X c W (.Raise (some (.Call (.Name x p) [e] [] pos)) none pos') (sEr cl ok m) := by
  refine ps_imp (L2N.ps_raise hc tk (SX.pmkN_oex T iC tI Fi hr hb pass_no hg hm (da_cons ha da_nil he) hdb he (by rfl))) fun Dn σ H q => ?_
  obtain ⟨M, ρ, G, env, R, q⟩ := q
  refine ⟨M, ρ, G, env, R, ?_⟩
  show TQ (RA c) c W M ρ σ H ((m env G).bind fun z G1 => (Out.ok [] G1).bind fun zs G2 => .ok (z :: zs) G2) _
  unfold sEr at q
  cases hm1 : m env G with
  | st => rw [hm1] at q; exact q.elim
  | er cl' fs G1 => rw [hm1] at q; exact fun dd gs ρ' H' g s e' f => q M ρ' σ H' dd gs g.gr (R.ge g s) e' f
  | ok z G1 =>
    rw [hm1] at q
    cases z with
    | o i => exact q.elim
    | d x1 =>
      have q' : SQ c W M ρ H (if ok x1 = true then .er cl [x1] env G1 else .st) Dn := q
      split at q'
      · rename_i hx
        intro vs ρ1 H1 g s r
        cases r with
        | @cons _ v _ _ rv rn =>
        cases rn
        refine ⟨by simp, fun a na => ?_⟩
        have sm : Same H1 (upd H1 a (exo a (c.C cl) none)) := same_upd na
        have sI : SR (sub c M) nM ρ1 G1 (upd H1 a (exo a (c.C cl) none)) := s.in_.same sm
        refine ⟨(sub c M).B, ρ1, G1, a, x1, v, rfl, upd_same, by rw [← hK]; exact sI, by rw [← hK]; exact Rep.cv cv_in (Rep.grow rv (Gr.same sm)), hx, fun d ρ' H' ge s' hd hda => ?_⟩
        rw [← hK] at s'
        have s2 : SR c M ρ' G1 H' := SR.out s'
        have hd1 : H1 d = none := by
          cases z : H1 d with
          | none => rfl
          | some o =>
            obtain ⟨o', y⟩ := ge.there d o (sm d o z)
            rw [hd] at y; cases y
        refine ⟨rfl, d, [(fld, v)], upd_same, by rw [upd_ne hda, upd_same], hd1, ?_⟩
        have hlook : ∀ b, b ≠ a → H1 b ≠ none → b ≠ d := fun b _ z y => z (y ▸ hd1)
        obtain ⟨HF, hHF⟩ : ∃ HF : Hp, HF = upd (del (upd (upd H' d (exd d [(fld, v)])) a (exo a (c.C cl) (some d))) a) d (.xd [(fld, v)]) := ⟨_, rfl⟩
        rw [← hHF]
        have hF : ∀ b o, b ≠ a → H' b = some o → HF b = some o := fun b o hb z => by
          have hbd : b ≠ d := fun y => by rw [y, hd] at z; cases z
          rw [hHF, upd_ne hbd, del_ne hb, upd_ne hb, upd_ne hbd]
          exact z
        have aρ : a ∉ ρ1 := fun hm' => by
          obtain ⟨i, hi⟩ := List.getElem?_of_mem hm'
          have hl : i < G1.length := by rw [← s.len]; exact (List.getElem?_eq_some_iff.mp hi).1
          cases hg' : G1[i] with
          | lst xs =>
            obtain ⟨b, ws, p', z, _⟩ := s.at_ i xs (by rw [List.getElem?_eq_getElem hl, hg'])
            rw [hi] at p'; cases p'
            rw [na] at z; cases z
        have off : Off a H' HF := ⟨⟨_, _, _, ge.keep _ _ upd_same aρ⟩, hF⟩
        have nMa : ¬ M a := fun z => s.mt a z na
        have nBa : ¬ c.B a := fun z => s.bt a z na
        have sF : SR c M ρ' G1 HF := s2.off off nMa nBa
        have g1 : Ge M ρ1 H1 ρ' HF := by
          obtain ⟨ext, e1, e2⟩ := ge.grow
          refine ⟨fun b o z nb => ?_, fun b o z => ?_, ext, e1, fun b hb => ?_⟩
          · have hba : b ≠ a := fun y => by rw [y, na] at z; cases z
            exact hF b o hba (ge.keep b o (sm b o z) nb)
          · have hba : b ≠ a := fun y => by rw [y, na] at z; cases z
            obtain ⟨o', y⟩ := ge.there b o (sm b o z)
            exact ⟨o', hF b o' hba y⟩
          · have := e2 b hb
            by_cases hba : b = a
            · rw [hba, upd_same] at this; cases this
            · rw [upd_ne hba] at this; exact this
        refine q' M ρ' σ HF d [(fld, v)] (g.trans g1).gr (R.ge (g.trans g1) sF) (by rw [hHF, upd_same]) ⟨by simpa using hN.symm, .cons (Rep.grow rv g1.gr) .nil⟩
      · exact q'.elim
end
end DL

set_option Elab.async false
set_option linter.all false
set_option maxRecDepth 100000
set_option maxHeartbeats 4000000
/-! try .. except C as e; e.f; calls within an except suite. -/
namespace DL
open PySem L2 PyProof.Rows
/-- e.f of the error that slot i holds -/
def eXf (i : Nat) (cl : String) (j : Nat) : EM := fun env G => match env[i]? with
  | some (.exn k fs) => if k = cl then (match fs[j]? with
    | some x => .ok (.d x) G
    | none => .st) else .st
  | _ => .st
/-- holds no object of the frame's own -/
def plainS : Sl → Bool
  | .no => true
  | .ev _ => true
  | _ => false
def afterO (i : Nat) (o : OutS) : OutS := match o with
  | .nx env G => if (env.set i .no).all plainS = true then .nx (env.set i .no) G else .st
  | .bk env G => if (env.set i .no).all plainS = true then .bk (env.set i .no) G else .st
  | .ct env G => if (env.set i .no).all plainS = true then .ct (env.set i .no) G else .st
  | .rt e G => .rt e G
  | _ => .st
/-- try: mb, except as slot i: ms, where only the error cl comes -/
def sTryAs (i : Nat) (cl : String) (mb ms : SM) : SM := fun env G => match mb env G with
  | .er k fs env1 G1 => if k = cl ∧ env1.all plainS = true ∧ i < env1.length then afterO i (ms (env1.set i (.exn cl fs)) G1) else .st
  | o => o
section
variable {c : RC} {M M' : Addr → Prop} {ρ ρ' : List Addr} {G : GS} {env : En} {σ : L2.St} {H H' : Hp}
theorem all_set {i : Nat} {env : En} (h : env.all plainS = true) : ∀ (j : Nat) (sl : Sl), (env.set i .no)[j]? = some sl → plainS sl = true := fun j sl e => by
  by_cases hj : j = i
  · subst hj
    by_cases hl : j < env.length
    · rw [List.getElem?_set_self hl] at e; cases e; rfl
    · rw [List.getElem?_eq_none (by simpa using hl)] at e; cases e
  · rw [List.getElem?_set_ne (Ne.symm hj)] at e
    exact List.all_eq_true.mp h sl (List.mem_of_getElem? e)
theorem rl_plain {c' : RC} (v : Cv c M c' M' ρ) (s : SR c' M' ρ G H) (R : Rl c M ρ G env σ H) (h : env.all plainS = true) : Rl c' M' ρ G env σ H := by
  obtain ⟨oa, h1, _⟩ := R.e
  refine ⟨s, R.len, oa, fun i sl e => ?_, fun i j o u e => ?_⟩
  · have hp := List.all_eq_true.mp h sl (List.mem_of_getElem? e)
    match sl, hp, h1 i sl e with
    | .no, _, _ => trivial
    | .ev x, _, ⟨u, a, b⟩ => exact ⟨u, a, b.cv v⟩
  · have hp := List.all_eq_true.mp h _ (List.mem_of_getElem? e)
    cases hp
/-- into the suite -/
theorem rl_suite {a dd : Addr} {cl : String} {fs : List D} {gs : List (Str × V)} {i : Nat} (R : Rl c M ρ G env σ H) (h : env.all plainS = true) (hx : H dd = some (.xd gs)) (f : Flds c M ρ H cl fs gs) (hi : i < σ.length) :
    Rl ⟨c.K, c.C, c.N, c.B, a, dd⟩ nM ρ G (env.set i (.exn cl fs)) (σ.set i (some (.ref a))) H := by
  have v : Cv c M ⟨c.K, c.C, c.N, c.B, a, dd⟩ nM ρ := ⟨rfl, rfl, rfl, fun b z => ⟨z.1, fun y => y, z.2.2⟩⟩
  have s : SR ⟨c.K, c.C, c.N, c.B, a, dd⟩ nM ρ G H := R.s.cv v (fun b hb => ⟨(R.s.sep b hb).1, fun z => z⟩) (fun _ z => z.elim) R.s.bt
  have nρ : dd ∉ ρ := fun hm => by
    obtain ⟨j, hj⟩ := List.getElem?_of_mem hm
    have hl : j < G.length := by rw [← R.s.len]; exact (List.getElem?_eq_some_iff.mp hj).1
    cases hg : G[j] with
    | lst xs =>
      obtain ⟨b, ws, p, z, _⟩ := R.s.at_ j xs (by rw [List.getElem?_eq_getElem hl, hg])
      rw [hj] at p; cases p
      rw [hx] at z; cases z
  obtain ⟨oa, h1, _⟩ := R.e
  have R' := rl_plain v s R h
  obtain ⟨ob, h2, _⟩ := R'.e
  refine ⟨s, by simpa using R.len, ob, fun j sl e => ?_, fun j k o u e => ?_⟩
  · by_cases hj : j = i
    · subst hj
      have hl : j < env.length := by simpa using (List.getElem?_eq_some_iff.mp e).1
      rw [List.getElem?_set_self hl] at e; cases e
      exact ⟨List.getElem?_set_self hi, ⟨fun z => z, nρ⟩, gs, hx, flds_cv v f⟩
    · rw [List.getElem?_set_ne (Ne.symm hj)] at e
      have sg : (σ.set i (some (V.ref a)))[j]? = σ[j]? := List.getElem?_set_ne (Ne.symm hj)
      have hp := List.all_eq_true.mp h sl (List.mem_of_getElem? e)
      match sl, hp, h2 j sl e with
      | .no, _, _ => trivial
      | .ev x, _, ⟨u, p, q⟩ => exact ⟨u, by rw [sg]; exact p, q⟩
  · by_cases hj : j = i
    · subst hj
      have hl : j < env.length := by simpa using (List.getElem?_eq_some_iff.mp e).1
      rw [List.getElem?_set_self hl] at e; cases e
    · rw [List.getElem?_set_ne (Ne.symm hj)] at e
      have hp := List.all_eq_true.mp h _ (List.mem_of_getElem? e)
      cases hp
/-- out of it: the name goes -/
theorem rl_out {a dd : Addr} {i : Nat} (R : Rl ⟨c.K, c.C, c.N, c.B, a, dd⟩ M ρ G env σ H) (h : (env.set i .no).all plainS = true) : Rl c M ρ G (env.set i .no) (σ.set i none) H := by
  have v : Cv ⟨c.K, c.C, c.N, c.B, a, dd⟩ M c M ρ := ⟨rfl, rfl, rfl, fun b z => z⟩
  have s : SR c M ρ G H := R.s.cv v R.s.sep R.s.mt R.s.bt
  obtain ⟨oa, h1, _⟩ := R.e
  refine ⟨s, by simpa using R.len, oa, fun j sl e => ?_, fun j k o u e => ?_⟩
  · have hp := List.all_eq_true.mp h sl (List.mem_of_getElem? e)
    by_cases hj : j = i
    · subst hj
      have hl : j < env.length := by simpa using (List.getElem?_eq_some_iff.mp e).1
      rw [List.getElem?_set_self hl] at e; cases e
      trivial
    · rw [List.getElem?_set_ne (Ne.symm hj)] at e
      have sg : (σ.set i none)[j]? = σ[j]? := List.getElem?_set_ne (Ne.symm hj)
      match sl, hp, h1 j sl e with
      | .no, _, _ => trivial
      | .ev x, _, ⟨u, p, q⟩ => exact ⟨u, by rw [sg]; exact p, q.cv v⟩
  · have hp := List.all_eq_true.mp h _ (List.mem_of_getElem? e)
    cases hp
end
section
variable {X : Cx} {c : RC} {W : WX}
theorem takesS {a : Addr} {pn : List (Addr × Obj)} : L2N.Takes (X.suite a pn) W0 := fun u s' ⟨_, _, _, _, _, _, _, _, _, _, _, _, _, _, _, _, z⟩ => z
theorem de_xf {a dd : Addr} {oe : Obj} {pn : List (Addr × Obj)} {n en : Str} {i j : Nat} {cl : String} {p pos : Pos} (T : XfC X.K (c.C cl)) (hno : PySem.W.findIn X.K (.ref (c.C cl)) n = some none) (hix : ixf n (c.N cl) = some j)
    (hz : L2N.Zn (.ref (c.C cl)) (some dd) oe) (hf : ∃ vs, oe.data = .fields vs) (he : PE (X.suite a ((a, oe) :: pn)) (.Name en p) (tVar i)) (hb : attributeBase (.Name en p) n X.env (eval (.Name en p) X.env) = eval (.Name en p) X.env := by rfl) :
    DE (X.suite a ((a, oe) :: pn)) ⟨c.K, c.C, c.N, c.B, a, dd⟩ W (.Attribute (.Name en p) n pos) (eXf i cl j) := by
  refine pe_imp (pe_xf T hno hz.zc hf he hb) fun σ H Q q => ?_
  obtain ⟨M, ρ, G, env, R, q⟩ := q
  unfold eXf at q
  obtain ⟨oa, h1, _⟩ := R.e
  split at q
  · rename_i k fs hk
    split at q
    · rename_i hc
      subst hc
      split at q
      · rename_i x hx
        obtain ⟨hs, _, gs, hd, f⟩ := h1 i _ hk
        obtain ⟨v, hl, r⟩ := flds_get f hix hx
        exact ⟨_, hs, rfl, rfl, dd, gs, v, rfl, hd, hl, q.ok R.s r⟩
      · exact q.elim
    · exact q.elim
  · exact q.elim
theorem SQ.after {c' : RC} {a dd : Addr} {i : Nat} {M : Addr → Prop} {ρ : List Addr} {H : Hp} {o : OutS} {Dn : Ends} (h : SQ c W M ρ H (afterO i o) Dn) :
    SQ ⟨c.K, c.C, c.N, c.B, a, dd⟩ W0 nM ρ H o { nx := fun σ' H' => Dn.nx (σ'.set i none) H', rt := Dn.rt, bk := fun σ' H' => Dn.bk (σ'.set i none) H', ct := fun σ' H' => Dn.ct (σ'.set i none) H' } := by
  have gr : ∀ {M' : Addr → Prop} {ρ' : List Addr} {H' : Hp}, Gr nM ρ H M' ρ' H' → Gr M ρ H M' ρ' H' := fun g => ⟨fun a o e n _ => g.keep a o e n fun z => z, g.there, g.grow, fun a z => (g.mine a z).elim (fun y => y.elim) .inr⟩
  cases o with
  | nx env G =>
    have h' : SQ c W M ρ H (if (env.set i .no).all plainS = true then .nx (env.set i .no) G else .st) Dn := h
    split at h'
    · rename_i hp
      exact fun M' ρ' σ' H' g R => h' M' ρ' _ H' (gr g) (rl_out R hp)
    · exact h'.elim
  | bk env G =>
    have h' : SQ c W M ρ H (if (env.set i .no).all plainS = true then .bk (env.set i .no) G else .st) Dn := h
    split at h'
    · rename_i hp
      exact fun M' ρ' σ' H' g R => h' M' ρ' _ H' (gr g) (rl_out R hp)
    · exact h'.elim
  | ct env G =>
    have h' : SQ c W M ρ H (if (env.set i .no).all plainS = true then .ct (env.set i .no) G else .st) Dn := h
    split at h'
    · rename_i hp
      exact fun M' ρ' σ' H' g R => h' M' ρ' _ H' (gr g) (rl_out R hp)
    · exact h'.elim
  | rt e G => exact fun M' ρ' v H' g s r => h M' ρ' v H' (gr g) (SR.cv (c := ⟨c.K, c.C, c.N, c.B, a, dd⟩) (M := M') ⟨rfl, rfl, rfl, fun b z => z⟩ s s.sep s.mt s.bt) (RepE.cv (c := ⟨c.K, c.C, c.N, c.B, a, dd⟩) (M := M') (c' := c) (M' := M') ⟨rfl, rfl, rfl, fun b z => z⟩ r)
  | er cl fs e G => exact h.elim
  | st => exact h
theorem ds_tryas {x n : Str} {cl : String} {i : Nat} {body suite : List Stmt} {b₀ : Stmt} {np pos pos' : Pos} {mb ms : SM} {hc0 : Value} (hs : X.stack = X.env :: X.outer) (hf : X.env.frame = some X.env.locals) (hN : X.N.Nodup) (hi : X.N[i]? = some n) (hln : X.env.kindOf n = some .local)
    (hc : Names X x hc0) (tk : L2N.Takes X W) (hex : PySem.W.exmOne X.K (.ref (c.C cl)) hc0 = some true)
    (hb : ∀ (W : WX) (pn : List (Addr × Obj)) (xe : Value → Shared → Prop), L2N.Takes (X.tr pn xe) W → DSs (X.tr pn xe) c W body mb)
    (hsu : ∀ (a dd : Addr) (oe : Obj) (pn : List (Addr × Obj)), L2N.Zn (.ref (c.C cl)) (some dd) oe → (∃ vs, oe.data = .fields vs) → DSs (X.suite a ((a, oe) :: pn)) ⟨c.K, c.C, c.N, c.B, a, dd⟩ W0 (b₀ :: suite) ms) :
    DS X c W (.Try body [.ExceptHandler (some (.Name x np)) (some n) (b₀ :: suite) pos'] [] [] pos) (sTryAs i cl mb ms) := by
  have hps := L2N.ps_try_as (X := X) (x := x) (n := n) (c := hc0) (i := i) (body := body) (suite := suite) (b₀ := b₀) (np := np) (pos := pos) (pos' := pos') (Wout := W) (tb := fun W => tDS c W mb)
    (ts := fun a cls d Dn σ H => ∃ dd, cls = .ref (c.C cl) ∧ d = some dd ∧ tDS ⟨c.K, c.C, c.N, c.B, a, dd⟩ W0 ms Dn σ H) hs hf hN hi hln hc tk (fun W pn xe tk' _ => hb W pn xe tk') (fun a oe cls d pn hz hfl => ⟨fun pins s σ H D I q => ?_⟩)
  · refine ps_imp hps fun Dn σ H q => ?_
    obtain ⟨M, ρ, G, env, R, q⟩ := q
    refine ⟨M, ρ, G, env, R, ?_⟩
    unfold sTryAs at q
    cases hm : mb env G with
    | nx e G1 => rw [hm] at q; exact q
    | bk e G1 => rw [hm] at q; exact q
    | ct e G1 => rw [hm] at q; exact q
    | rt e G1 => rw [hm] at q; exact q
    | st => rw [hm] at q; exact q
    | er k fs env1 G1 =>
      rw [hm] at q
      have q' : SQ c W M ρ H (if k = cl ∧ env1.all plainS = true ∧ i < env1.length then afterO i (ms (env1.set i (.exn cl fs)) G1) else .st) Dn := q
      split at q'
      · rename_i hk
        obtain ⟨rfl, hp, hl⟩ := hk
        intro M' ρ' σ' H' dd gs g R' hx f
        refine ⟨true, hex, fun _ a na => ⟨dd, rfl, rfl, nM, ρ', G1, _, rl_suite R' hp hx f (Nat.lt_of_lt_of_le hl R'.len), SQ.after (c' := c) (SQ.grow q' g)⟩, fun z => by cases z⟩
      · exact q'.elim
  · obtain ⟨dd, rfl, rfl, q⟩ := q
    exact (hsu a dd oe pn hz hfl).run pins s σ H D I q
end

/-! ### defs called where an error is handled -/
open L2H in
abbrev FnGH (P : Program) (w : World) (K : PySem.W.Frag) (mg : Str → Option Value) (base : Heap) (C : String → Addr) (N : String → List Str) (k : Nat) (f : Addr) (n : Ar) (g : FM) : Prop := ∃ fd ps, Binds K fd ps [] ∧ L2H.FnH P w K mg base (L2N.CX P w) k f fd ps (Spd K C N n g)
section
variable {P : Program} {w : World} {K : PySem.W.Frag} {mg : Str → Option Value} {base : Heap} {C : String → Addr} {N : String → List Str}
theorem fngh_of {x qual : Str} {st : Stmt} {f : Addr} {fd : FuncData} {Nm ps : List Str} {k : Nat} {m : SM} (F : Fun K x qual st f fd) (S : FnScope Nm ps (defScope st)) (bd : Binds K fd ps [])
    (hb : ∀ (cdv : Value) (A : Around) (outer : List Env) (s : Shared) (H : Hp) (E : XK) (B : Addr → Prop) (p : Addr × Obj), L2H.RoomH k (A.deeper (envOfC qual (defScope st) s.heap.objs.size f cdv)) → L2H.Hot1 A p →
      DSs (L2H.cxH (L2N.CX P w) P w K mg base Nm qual (defScope st) f cdv A outer s H E p) ⟨K, C, N, B, 0, 0⟩ (fun cls d _ H => E cls d H) (defBody st) m) : FnGH P w K mg base C N (k + 1) f (arN ps.length) (runB Nm.length m) := by
  have hlN : ps.length ≤ Nm.length := by have := congrArg List.length S.pre; rw [List.length_take] at this; omega
  refine ⟨fd, ps, bd, ?_⟩
  obtain ⟨oc, od, kV, doc, pm, an, cdv, ct, osl, rfl, lk, hcd⟩ := F.ex
  refine L2H.fn_ofH lk hcd S (fun vs H Q E h => by simpa [arN] using h.1) fun A outer s H vs Q E p hot hr hsp => ?_
  obtain ⟨hl, B, ρ, G, es, s0, r, q⟩ := hsp
  exact ⟨_, hb cdv A outer s H E B p hr hot, nM, ρ, G, _, rl_start s0 r (by rw [show vs.length = ps.length by simpa [arN] using hl]; exact hlN), sq_of q⟩
end
section
variable {X : Cx} {c : RC} {W : WX} {e a b : Expr} {es : List Expr} {ma mb : EM} {mr : AM} {pos p : Pos}
theorem de_callH {x : Str} {k : Nat} {n : Ar} {f : Addr} {g : FM} (F : FnGH X.prog X.w X.K X.mg X.base c.C c.N k f n g) (hK : c.K = X.K) (hr : L2H.RoomH k X.A) (hh : L2H.HotC X) (hg : Gl X x) (hm : X.mg x = some (.ref f)) (hk : PySem.W.keepIn X.K (.ref f) = true) (tk : L2N.Takes X W) (ha : DA X c W (e :: es) mr)
    (hdb : (x == ("__debug__" : Str)) = false := by decide) (he : starEach (e :: es) X.env = (false, eval e X.env) :: starEach es X.env := by rfl) (hpl : (backTo pos (starEach es X.env)).any (·.1) = false := by rfl) :
    DE X c W (.Call (.Name x p) (e :: es) [] pos) (eCall n g mr) := by
  obtain ⟨fd, ps, bd, F⟩ := F
  refine ⟨fun pins s σ H Q I h => ?_⟩
  obtain ⟨M, ρ, G, env, R, q⟩ := h
  refine wpAny_Call_Name_kw (ld_glob I hg hm ?_ hdb)
  have h' : tDA c W mr σ H fun vs H1 => Spd c.K c.C c.N n g vs H1 Q (WE W σ) := ⟨M, ρ, G, env, R, (TQ.bind (R := RA c) q).imp fun v H1 ⟨ρ1, G1, e1, g1, s1, r1, q1⟩ => spd_of s1 r1 q1⟩
  refine PySem.W.callWith_K (h₀ := X.base) I.ok.mod.kin hk (thn (PA.run ha pos pins s σ H _ I h') fun us s1 ⟨vs, H1, I1, r, q⟩ => ⟨I1.kIn, ?_⟩) he hpl
  rw [hK] at q
  exact L2H.run_fnH (E := fun σ => WE W σ) F hr hh bd (L2N.passAt tk σ) I1 r q
/-- in the suite -/
theorem hot_suite {a : Addr} {oe : Obj} {cls : Value} {d : Option Addr} {pn : List (Addr × Obj)} (hz : L2N.Zn cls d oe) (hf : ∃ vs, oe.data = .fields vs) : L2H.HotC (X.suite a ((a, oe) :: pn)) := by
  obtain ⟨vs, hd⟩ := hf
  exact ⟨(a, oe), ⟨rfl, vs, hd, hz.2.2 vs hd⟩, List.mem_cons_self⟩
theorem room_suite {k : Nat} {a : Addr} {pn : List (Addr × Obj)} (r : Room k X.A) : L2H.RoomH k (X.suite a pn).A := ⟨r.dp, r.un⟩
end
end DL

set_option Elab.async false
set_option linter.all false
set_option maxRecDepth 100000
set_option maxHeartbeats 4000000
/-! what a printed text says of an own error of one field. -/
namespace DL
open PySem L2 PyProof.Rows NdefX
abbrev nfo (st : Stmt) (nm qual : Str) (cc c : Addr) : NF := ⟨nm, qual, defArgs st, defBody st, defScope st, [(("__class__" : Str), cc)], c⟩
structure ErrF (P : Program) (K : PySem.W.Frag) (mg : Str → Option Value) (Ca f : Addr) (fd : FuncData) (st : Stmt) (nm qual sf pf fld : Str) : Prop where
  ex : ∃ (cc c : Addr) (oc doc pm ctv : Value) (od : Option Addr) (osl : Array (Option Value)), fd = (nfo st nm qual cc c).fd doc pm ctv ∧ K.lookup f = some ⟨oc, od, .func ((nfo st nm qual cc c).fd doc pm ctv), osl⟩ ∧ PySem.W.codeIn K (.ref c) qual = true ∧ SX.SupF P K (nfo st nm qual cc c) f cc Ca sf
  T : OexC K Ca
  ini : PySem.W.findIn K (.ref Ca) "__init__" = some (some (.ref f))
  ty : PySem.W.typeIn K (.ref f) = some (.type "function")
  hst : PySem.W.nsIn K cStatics "thirdparty.any" = some none
  hsi : PySem.W.ks_superIn K Ca Ca "__init__" = some (some (.builtin "ValueError.__init__"))
  hsub : PySem.W.mroIn K Ca (.ref Ca) = some true
  hm : mg "super" = none
  hno : PySem.W.findIn K (.ref Ca) fld = some none
  bd : Binds K fd [sf, pf] []
  xf : XfC K Ca
theorem clsIn_of {K : PySem.W.Frag} {C : Addr} (T : OexC K C) : ∃ cd, PySem.W.clsIn K C = some cd := by
  obtain ⟨nm, q, N, bs, bm, sn, sub, ab, col, dd, k0, k1, k2, k3, k5, hC, hbm⟩ := T.cls
  exact ⟨_, by unfold PySem.W.clsIn; rw [hC] <;> rfl⟩
/-- the values whose text is short -/
def okI : D → Bool
  | .int i => decide (i.natAbs.log2 < 1920)
  | _ => false
theorem jsO_ok {env : En} {G : GS} : ∀ (ms : List EM) (acc : Str), (∀ m ∈ ms, ∃ y : Str, m env G = .ok (.d (.str y)) G ∧ y.length ≤ 2000) → acc.length + 2000 * ms.length ≤ 1000000 → ∃ z, jsO ms acc env G = .ok z G
  | [], acc, _, _ => ⟨acc, rfl⟩
  | m :: ms, acc, h, hl => by
    obtain ⟨y, hy, hyl⟩ := h m List.mem_cons_self
    have hla : (acc ++ y).length ≤ acc.length + 2000 := by rw [Str.length_append]; omega
    have hll : 2000 * (m :: ms).length = 2000 * ms.length + 2000 := by simp [Nat.mul_add]
    obtain ⟨z, hz⟩ := jsO_ok ms (acc ++ y) (fun m' hm => h m' (List.mem_cons_of_mem _ hm)) (by omega)
    refine ⟨z, ?_⟩
    unfold jsO
    rw [hy]
    show (if (acc ++ y).length ≤ 1000000 then jsO ms (acc ++ y) env G else .st) = _
    rw [if_pos (by omega), hz]
theorem eJs_ok {env : En} {G : GS} {ms : List EM} (h : ∀ m ∈ ms, ∃ y : Str, m env G = .ok (.d (.str y)) G ∧ y.length ≤ 2000) (hl : ms.length ≤ 100) : ∃ y, eJs ms env G = .ok y G := by
  obtain ⟨z, hz⟩ := jsO_ok ms Str.empty h (by have : Str.empty.length = 0 := rfl; omega)
  exact ⟨_, by unfold eJs; rw [hz]; rfl⟩
theorem fmt_ok {i : Int} {env : En} {G : GS} {j : Nat} (he : env[j]? = some (.ev (.d (.int i)))) (hi : i.natAbs.log2 < 1920) : ∃ y : Str, eUn fFmt (eVar j) env G = .ok (.d (.str y)) G ∧ y.length ≤ 2000 := by
  refine ⟨toString i, ?_, Nat.le_trans (PyProof.Rows.int_text_len_1921 hi) (by decide)⟩
  unfold eUn eVar
  rw [he]
  show lift (fFmt (.d (.int i)) G) = _
  unfold fFmt pure1
  show lift ((if i.natAbs.log2 < 1920 then some (D.str (toString i)) else none).map fun z => (EV.d z, G)) = _
  rw [if_pos hi]
  rfl
theorem str_ok {x : Str} {env : En} {G : GS} (h : x.length ≤ 2000 := by decide) : ∃ y : Str, eC (.str x) env G = .ok (.d (.str y)) G ∧ y.length ≤ 2000 := ⟨x, rfl, h⟩
section
variable {P : Program} {w : World} {K : PySem.W.Frag} {mg : Str → Option Value} {base : Heap} {Cf : String → Addr} {Nf : String → List Str} {N : List Str} {f : Addr} {sf pf fld nm qual : Str} {cn : String} {fd : FuncData} {st : Stmt}
theorem err_ok {p0 p1 ap pos pos2 q1 q2 q3 pos3 : Pos} {e : Expr} {m : EM} {ok : D → Bool} (T : ErrF P K mg (Cf cn) f fd st nm qual sf pf fld) (Sc : NScope N [sf, pf] [("__class__" : Str)] (defScope st))
    (hbody : defBody st = [.Expr (.Call (.Attribute (.Call (.Name "super" p0) [] [] p1) "__init__" ap) [e] [] pos) pos2, .Assign [.Attribute (.Name sf q1) fld q2] (.Name pf q3) pos3])
    (he : ∀ (cc c : Addr) (A : Around) (outer : List Env) (s : Shared) (H : Hp) (E : XK) (B : Addr → Prop), DE (ncx (L2N.CX P w) P w K mg base N (nfo st nm qual cc c) f A outer s H E) ⟨K, Cf, Nf, B, 0, 0⟩ (fun cls d _ H => E cls d H) e m)
    (hok : ∀ x G, ok x = true → ∃ y, m (Sl.no :: Sl.ev (.d x) :: List.replicate (N.length - 2) Sl.no) G = .ok y G) (d1 : (sf == ("__debug__" : Str)) = false := by decide) (d2 : (sf == ("__classdict__" : Str)) = false := by decide) (d3 : (pf == ("__debug__" : Str)) = false := by decide) (d4 : (pf == ("__classdict__" : Str)) = false := by decide)
    (nd : pf ≠ sf := by decide) (hstar : ∀ env, starEach [e] env = (false, eval e env) :: starEach [] env := by intro _; rfl) {pl : Env → Sem Bool}
    (hev : ∀ env, eval (.Call (.Attribute (.Call (.Name "super" p0) [] [] p1) "__init__" ap) [e] [] pos) env = (do
      let ov ← attributeBase (.Call (.Name "super" p0) [] [] p1) "__init__" env (eval (.Call (.Name "super" p0) [] [] p1) env)
      standAt ap.atName
      let (f', first) ← holding [ov] (getMethod ov "__init__" (pl env))
      callWith pos f' first (backTo pos (starEach [e] env)) []) := by intro _; rfl)
    (hsw : ∀ env, swapsWith (.Call (.Attribute (.Call (.Name "super" p0) [] [] p1) "__init__" ap) [e] [] pos) none pos2.line env = pure false := by intro _; rfl) : FnOk P w K mg base (L2N.CX P w) 1 f fd [sf, pf] (SpE K Cf Nf cn fld ok) := by
  obtain ⟨cc, c, oc, doc, pm, ctv, od, osl, rfl, lk, hcd, S⟩ := T.ex
  exact fn_err1 (k := 0) S lk hcd Sc T.T T.hst T.hsi T.hsub T.hm T.hno hbody (he cc c) hok d1 d2 d3 d4 nd hstar hev hsw
end
section
open ClX
variable {X : Cx} {c : RC} {W : WX} {pos apos : Pos} {m : Str} {lv : Nat} {pl : Sem Bool}
theorem de_cmeth0 {x : Str} {p' : Pos} {cl : String} {mc : Value} {pr gf : Addr} {A : Ar} {g : FM} (hK : c.K = X.K) (hg : Gl X x) (hm : X.mg x = some (.ref (c.C cl))) (r : CRead X.K (c.C cl) mc) (cm : CMet X.K (c.C cl) mc m pr gf) (F : FnG X.prog X.w X.K X.mg X.base c.C c.N lv gf A g) (hr : Room lv X.A) (tk : L2N.Takes X W)
    (hdb : (x == ("__debug__" : Str)) = false := by decide) (ht : MRow X (.Name x p') m apos [] pos pl := by rfl) :
    DE X c W (.Call (.Attribute (.Name x p') m apos) [] [] pos) (eCMeth cl A g aNil) := by
  refine ⟨fun pins s σ H Q I q => ?_⟩
  refine PySem.W.methodCall_KW (pl := pl) (ld_glob I hg hm ?_ hdb) ht
  refine getmethcm_ok I r cm fun s2 I2 => ?_
  obtain ⟨M, ρ, G, env, R, q⟩ := q
  have q2 : Spd c.K c.C c.N A g [.ref (c.C cl)] H Q (WE W σ) := spd_of (es1 := [.d (.cls cl)]) R.s (.cons Rep.cls .nil) q
  refine PySem.W.callWith_M0 (K := X.K) ⟨pin_at I2, I2.kIn⟩ cm.fi ?_
  rw [hK] at q2
  exact run_cmA F hr (L2N.passAt tk σ) I2 .nil q2
end
theorem roomH_units {k : Nat} {A : Around} (r : L2H.RoomH k A) : A.units + 64 < cLine := by have := r.un; omega
end DL
namespace L2H
theorem RoomH.units {k : Nat} {A : PySem.Around} (r : RoomH k A) : A.units + 64 < PySem.cLine := DL.roomH_units r
end L2H

set_option Elab.async false
set_option linter.all false
set_option maxRecDepth 100000
set_option maxHeartbeats 4000000
/-! isinstance(e, C) of the error that a suite handles. -/
namespace DL
open PySem L2 PyProof.Rows
def eIsE (i : Nat) (cl : String) (b : Bool) : EM := fun env G => match env[i]? with
  | some (.exn k _) => if k = cl then .ok (.d (.bl b)) G else .st
  | _ => .st
/-- what isinstance wants to know of an error class -/
structure IsxC (K : PySem.W.Frag) (C : Addr) : Prop where
  ca : PySem.W.findIn K (.ref C) "__class__" = some (some (.builtin "object.__class__"))
  cm : PySem.W.mroIn K C (.type "object") = some true
section
variable {X : Cx} {c : RC} {W : WX} {a dd : Addr} {oe : Obj} {pn : List (Addr × Obj)} {cl : String}
theorem call_isx {Ca : Addr} {u : Value} {vc : V} {b : Bool} (T : XfC X.K Ca) (O : OexC X.K Ca) (S : IsxC X.K Ca) (hk : IsiK X.K) (hz : L2N.Zn (.ref Ca) (some dd) oe) (hf : ∃ vs, oe.data = .fields vs) (rc : ∀ u', RelV vc u' → u' = u) (e : PySem.W.kitOne X.K (.ref Ca) u = some b) :
    CallR (X.suite a ((a, oe) :: pn)) (.builtin "isinstance") (fun xs H Q => xs = [.ref a, vc] ∧ (∃ gs, H dd = some (.xd gs)) ∧ Q (.bl b) H) := by
  intro pins s σ H xs us Q I r h
  obtain ⟨rfl, ⟨gs, hd⟩, q⟩ := h
  cases r with
  | @cons _ u0 _ _ r0 r1 =>
  cases r1 with
  | @cons _ u1 _ _ r1 r2 =>
  cases r2
  obtain rfl : u0 = Value.ref a := r0
  obtain rfl := rc u1 r1
  obtain ⟨ha, _⟩ := I.pin (a, oe) (List.mem_append_left _ List.mem_cons_self)
  obtain ⟨vs, hv⟩ := hf
  have hx : ObjOk X.prog X.w H s.heap dd (.xd gs) := I.hok dd _ hd
  obtain ⟨mA, hns, _⟩ := hx
  obtain ⟨od, ho, _⟩ := lookIn_ns hns
  have J : PySem.W.InstAt s.heap a oe Ca (some od) := ⟨ha, hz.1, by unfold PySem.W.notCls; rw [hv] <;> rfl, by rw [hz.2.1]; exact ho⟩
  obtain ⟨cd, hcd⟩ := clsIn_of O
  exact PySem.W.kia_one (PySem.W.kitx_exc (by rw [hcd]; rfl) T.ga T.gg T.exC S.ca hk.cn hk.ct S.cm) I.kIn J e (fun z => nomatch z) fun tk => ⟨.bl b, H, I.kept (t' := tk) fun _ _ z => z, rfl, q⟩
theorem de_isx {u : Value} {vc : V} {b : Bool} {i : Nat} {en : Str} {ec : Expr} {p q pos : Pos} (T : XfC X.K (c.C cl)) (O : OexC X.K (c.C cl)) (S : IsxC X.K (c.C cl)) (hk : IsiK X.K) (e : PySem.W.kitOne X.K (.ref (c.C cl)) u = some b) (rc : ∀ u', RelV vc u' → u' = u) (hno : X.mg "isinstance" = none) (hgl : Gl X "isinstance") (hbt : bootBuiltins "isinstance" = some (.builtin "isinstance"))
    (hz : L2N.Zn (.ref (c.C cl)) (some dd) oe) (hf : ∃ vs, oe.data = .fields vs) (he : PE (X.suite a ((a, oe) :: pn)) (.Name en q) (tVar i)) (hc : PE (X.suite a ((a, oe) :: pn)) ec (tC vc))
    (h1 : starEach [.Name en q, ec] X.env = (false, eval (.Name en q) X.env) :: starEach [ec] X.env := by rfl) (h2 : starEach [ec] X.env = (false, eval ec X.env) :: starEach [] X.env := by rfl) (hpl : (backTo pos (starEach [ec] X.env)).any (·.1) = false := by rfl) :
    DE (X.suite a ((a, oe) :: pn)) ⟨c.K, c.C, c.N, c.B, a, dd⟩ W (.Call (.Name "isinstance" p) [.Name en q, ec] [] pos) (eIsE i cl b) := by
  refine pe_imp (pe_callB (X := X.suite a ((a, oe) :: pn)) (call_isx T O S hk hz hf rc e) hgl hno hbt (pa_cons he (pa_cons hc pa_nil h2) h1) (by decide) (by decide) h1 hpl) fun σ H Q z => ?_
  obtain ⟨M, ρ, G, env, R, z⟩ := z
  unfold eIsE at z
  obtain ⟨oa, h3, _⟩ := R.e
  split at z
  · rename_i k fs hk
    split at z
    · rename_i hcl
      subst hcl
      obtain ⟨hs, _, gs, hd, f⟩ := h3 i _ hk
      exact ⟨_, hs, rfl, ⟨gs, hd⟩, z.ok R.s Rep.bl⟩
    · exact z.elim
  · exact z.elim
end
end DL

set_option Elab.async false
set_option linter.all false
set_option maxRecDepth 100000
set_option maxHeartbeats 4000000
/-! names in a chain, pairs unpacked, instances called, a class in a variable called. -/
namespace DL
open PySem L2 PyProof.Rows StX ClX
/-! ### x = y = e -/
def sSet2 (i j : Nat) (m : EM) : SM := fun env G => ofE (m env G) env fun e G1 => .nx ((env.set i (.ev e)).set j (.ev e)) G1
/-- (x, y, ..) = e: one slot after another -/
def setAll : List Nat → List D → En → Option En
  | [], [], env => some env
  | i :: is, x :: xs, env => setAll is xs (env.set i (.ev (.d x)))
  | _, _, _ => none
def sUnp (is : List Nat) (m : EM) : SM := fun env G => ofE (m env G) env fun e G1 => match e with
  | .d (.tup xs) => (match setAll is xs env with
    | some env' => .nx env' G1
    | none => .st)
  | _ => .st
section
variable {X : Cx} {c : RC} {W : WX} {e t1 t2 : Expr} {es : List Expr} {me : EM} {pos : Pos}
theorem ds_set2 {i j : Nat} (he : DE X c W e me) (h1 : PG X t1 (gName i)) (h2 : PG X t2 (gName j)) (ha : (assignEach [t1, t2] X.env).map (·.2) = [assign t1 X.env, assign t2 X.env] := by rfl) (hw : swappedStores [t1, t2] e X.env = pure none := by rfl) :
    DS X c W (.Assign [t1, t2] e pos) (sSet2 i j me) := by
  refine ps_imp (ps_asg2 he h1 h2 ha hw) fun Dn σ H q => ?_
  obtain ⟨M, ρ, G, env, R, q⟩ := q
  refine ⟨M, ρ, G, env, R, (SQ.ofE (R := RE c) R q).imp fun v H1 ⟨ρ1, G1, e1, g1, R1, r1, q1⟩ => ?_⟩
  exact q1 M ρ1 _ H1 Gr.refl ((R1.set r1).set r1)
/-- names as targets -/
def gNames : List Nat → TGs
  | [] => gNil
  | i :: is => gCons (gName i) (gNames is)
theorem gnames_run {M : Addr → Prop} {ρ : List Addr} {G : GS} {H : Hp} {Q : L2.St → Hp → Prop} : ∀ (is : List Nat) (xs : List D) (vs : List V) (env env' : En) (σ : L2.St), Rl c M ρ G env σ H → All2 (Rep c M ρ H) xs vs → setAll is xs env = some env' →
    (∀ σ', Rl c M ρ G env' σ' H → Q σ' H) → gNames is vs σ H Q
  | [], [], _, env, env', σ, R, .nil, h, k => by
    cases h
    exact ⟨rfl, k σ R⟩
  | i :: is, x :: xs, _, env, env', σ, R, .cons (b := v) r t, h, k => by
    refine ⟨v, _, rfl, ?_⟩
    exact gnames_run is xs _ (env.set i (.ev (.d x))) env' (σ.set i (some v)) (R.set (x := .d x) r) t h k
  | [], _ :: _, _, _, _, _, _, _, h, _ => by cases h
  | _ :: _, [], _, _, _, _, _, _, h, _ => by cases h
theorem ds_unp {is : List Nat} {n k : Nat} {pt : Pos} (hc : X.calm = true) (hK : c.K = X.K) (he : DE X c W e me) (hg : PGs X es (gNames is)) (hl : is.length = n) (hn : (assignEach es X.env).length = n := by rfl) (hst : (assignEach es X.env).findIdx? (·.1) = none := by rfl)
    (hs : swapsWithSole [.Tuple es k pt] e pos.line X.env = pure false := by rfl) (hw : swappedStores [.Tuple es k pt] e X.env = pure none := by rfl) (h1 : (assignEach [.Tuple es k pt] X.env).map (·.2) = [assign (.Tuple es k pt) X.env] := by rfl) :
    DS X c W (.Assign [.Tuple es k pt] e pos) (sUnp is me) := by
  refine ps_imp (ps_asg he (pg_tup (n := n) hc hg hn hst) hs hw h1) fun Dn σ H q => ?_
  obtain ⟨M, ρ, G, env, R, q⟩ := q
  refine ⟨M, ρ, G, env, R, (SQ.ofE (R := RE c) R q).imp fun v H1 ⟨ρ1, G1, e1, g1, R1, r1, q1⟩ => ?_⟩
  split at q1
  · rename_i xs
    split at q1
    · rename_i env' hx
      obtain ⟨a, vs, rfl, z, rr⟩ := Rep.of_tup r1
      have len : ∀ (is : List Nat) (xs : List D) (env env' : En), setAll is xs env = some env' → xs.length = is.length := by
        intro is
        induction is with
        | nil => intro xs env env' h; cases xs <;> first | rfl | cases h
        | cons i is ih => intro xs env env' h; cases xs with
          | nil => cases h
          | cons x xs => simp [ih xs _ _ h]
      refine ⟨a, vs, rfl, by rw [← hK]; exact z.sq, by rw [← rr.length, len _ _ _ _ hx, hl], gnames_run is xs vs env env' σ R1 rr hx fun σ' R' => ?_⟩
      exact q1 M ρ1 σ' H1 Gr.refl R'
    · exact q1.elim
  · exact q1.elim
end
/-! ### instances called -/
def eCallO (ms : List (String × (Ar × FM))) (mo : EM) (r : AM) : EM := eMeth ms mo r
structure HasO (P : Program) (w : World) (K : PySem.W.Frag) (mg : Str → Option Value) (base : Heap) (C : String → Addr) (N : String → List Str) (lv : Nat) (k : String) (A : Ar) (g : FM) : Prop where
  cl : Cls K (C k)
  fn : ∃ f, CallO K (C k) f ∧ FnG P w K mg base C N lv f A g
section
variable {X : Cx} {c : RC} {W : WX} {e fe : Expr} {es : List Expr} {me mf : EM} {mr : AM} {pos p : Pos} {lv : Nat} {ms : List (String × (Ar × FM))}
theorem de_callO (hK : c.K = X.K) (hr : Room lv X.A) (tk : L2N.Takes X W) (h : ∀ k A g, kfn ms k = some (A, g) → HasO X.prog X.w X.K X.mg X.base c.C c.N lv k A g) (hf : DE X c W fe mf) (ha : DA X c W (e :: es) mr)
    (ht : eval (.Call fe (e :: es) [] pos) X.env = (do callWith pos (← eval fe X.env) [] (backTo pos (starEach (e :: es) X.env)) (backToKw pos (keywordEach [] X.env))) := by rfl)
    (he : starEach (e :: es) X.env = (false, eval e X.env) :: starEach es X.env := by rfl) (hpl : (backTo pos (starEach es X.env)).any (·.1) = false := by rfl) :
    DE X c W (.Call fe (e :: es) [] pos) (eCallO ms mf mr) := by
  refine ⟨fun pins s σ H Q I q => ?_⟩
  obtain ⟨M, ρ, G, env, R, q⟩ := q
  unfold eCallO eMeth at q
  have h' : tD c W mf σ H fun x H1 => ∃ k fs A g, kfn ms k = some (A, g) ∧ ∃ ρ1 G1, Rl c M ρ1 G1 env σ H1 ∧ RepE c M ρ1 H1 (.d (.ins k fs)) x ∧ TQ (RE c) c W M ρ1 σ H1 ((mr env G1).bind fun xs G2 => if A (xs.length + 1) = true then g (.d (.ins k fs) :: xs) G2 else .st) Q := by
    refine ⟨M, ρ, G, env, R, (TQ.bind (R := RE c) q).imp fun v H1 ⟨ρ1, G1, e1, g1, s1, r1, q1⟩ => ?_⟩
    split at q1
    · rename_i k fs
      split at q1
      · rename_i A g hk
        exact ⟨k, fs, A, g, hk, ρ1, G1, R.ge g1 s1, r1, q1⟩
      · exact q1.elim
    · exact q1.elim
  refine Call_ (thn (PE.run hf pins s σ H _ I h') fun u s1 ⟨x, H1, I1, rx, k, fs, A, g, hk, ρ1, G1, R1, r1, q1⟩ => ?_) ht
  obtain ⟨a, dx, gs, rfl, z, ea, fl⟩ := Rep.of_ins r1
  obtain rfl : u = Value.ref a := rx
  obtain ⟨cl, f, co, F⟩ := h k A g hk
  have aρ : a ∉ ρ1 := z.2.2
  have h2 : tDA c W mr σ H1 fun vs H2 => InsC X H2 a (c.C k) ∧ Spd c.K c.C c.N A g (.ref a :: vs) H2 Q (WE W σ) := by
    refine ⟨M, ρ1, G1, env, R1, (TQ.bind (R := RA c) q1).imp fun vs H2 ⟨ρ2, G2, e2, g2, s2, r2, q2⟩ => ?_⟩
    exact ⟨.inr ⟨dx, gs, g2.keep _ _ ea aρ⟩, spd_of (es1 := .d (.ins k fs) :: e2) s2 (.cons (r1.grow g2.gr) r2) q2⟩
  refine callO_with (thn (PA.run ha pos pins s1 σ H1 _ I1 h2) fun us s2 ⟨vs, H2, I2, r, hi, q2⟩ => ?_) he hpl
  obtain ⟨ox, od, J, hd⟩ := insC_at I2 hi
  rw [hK] at q2
  exact ⟨⟨c.C k, ox, od, J, hd⟩, wpAny_call (PySem.W.kco_code I2.kIn J hd co.at_ co.fn co.fi (run_fnA (us := .ref a :: us) (vs := .ref a :: vs) F hr (L2N.passAt tk σ) I2 (.cons rfl r) q2))⟩
/-- cls(..), the class in slot i -/
def eMakeV (i : Nat) (cl : String) (A : Ar) (g : IM) (r : AM) : EM := fun env G => match env[i]? with
  | some (.ev (.d (.cls k))) => if k = cl then eMake cl A g r env G else .st
  | _ => .st
theorem de_makeV {i k : Nat} {x : Str} {cl : String} {A : Ar} {g : IM} {f : Addr} (Mc : Mk X.K (c.C cl) f) (F : FnI X.prog X.w X.K X.mg X.base c.C c.N k f cl A g) (hK : c.K = X.K) (hr : Room (k + 1) X.A) (tk : L2N.Takes X W) (hv : PE X (.Name x p) (tVar i)) (ha : DA X c W (e :: es) mr)
    (ht : eval (.Call (.Name x p) (e :: es) [] pos) X.env = (do callWith pos (← eval (.Name x p) X.env) [] (backTo pos (starEach (e :: es) X.env)) (backToKw pos (keywordEach [] X.env))) := by rfl)
    (he : starEach (e :: es) X.env = (false, eval e X.env) :: starEach es X.env := by rfl) (hpl : (backTo pos (starEach es X.env)).any (·.1) = false := by rfl) :
    DE X c W (.Call (.Name x p) (e :: es) [] pos) (eMakeV i cl A g mr) := by
  refine ⟨fun pins s σ H Q I h => ?_⟩
  obtain ⟨M, ρ, G, env, R, q⟩ := h
  unfold eMakeV at q
  obtain ⟨oa, h1, _⟩ := R.e
  split at q
  · rename_i k' hk
    split at q
    · rename_i hcl
      subst hcl
      obtain ⟨v, hs, r⟩ := h1 i _ hk
      obtain rfl := Rep.of_cls r
      have t0 : tVar i σ H fun y H1 => y = .ref (c.C k') ∧ tD c W (eMake k' A g mr) σ H1 Q := ⟨_, hs, rfl, M, ρ, G, env, R, q⟩
      refine Call_ (thn (hv.run pins s σ H _ I t0) fun u s1 ⟨y, H1, I1, ry, ey, q1⟩ => ?_) ht
      subst ey
      obtain rfl : u = Value.ref (c.C k') := ry
      refine PySem.W.callWith_K (h₀ := X.base) I.ok.mod.kin Mc.kp (thn (PA.run ha pos pins s1 σ H1 _ I1 (tda_make q1)) fun us s2 ⟨vs, H2, I2, r2, q2⟩ => ⟨I2.kIn, ?_⟩) he hpl
      rw [hK] at q2
      exact run_makeA Mc F hr (L2N.passAt tk σ) I2 r2 q2
    · exact q.elim
  · exact q.elim
end
end DL

set_option Elab.async false
set_option linter.all false
set_option maxRecDepth 100000
set_option maxHeartbeats 4000000
/-! keywords; super().__init__(..) of a plain class. -/
namespace DL
open PySem L2 PyProof.Rows StX ClX NdefX
/-- n written values, then k keywords' values -/
def aApp (n k : Nat) (a b : AM) : AM := fun env G => (a env G).bind fun xs G1 => (b env G1).bind fun ys G2 => if xs.length = n ∧ ys.length = k then .ok (xs ++ ys) G2 else .st
def DK (X : Cx) (c : RC) (W : WX) (kws : List Keyword) (m : AM) : Prop := PK X kws (tDA c W m)
theorem pk_imp {X : Cx} {kws : List Keyword} {t t' : TA} (h : PK X kws t) (k : ∀ σ H Q, t' σ H Q → t σ H Q) : PK X kws t' := ⟨fun pos pins s σ H Q I q => h.run pos pins s σ H Q I (k σ H Q q)⟩
section
variable {X : Cx} {c : RC} {W : WX} {e : Expr} {es : List Expr} {kws : List Keyword} {me : EM} {mr mk : AM} {pos p kpos : Pos} {nm : Option Str} {M : Addr → Prop} {ρ : List Addr} {σ : L2.St} {H : Hp}
theorem dk_nil : DK X c W [] aNil := pk_imp pk_nil fun σ H Q ⟨M, ρ, G, env, R, q⟩ => q.ok R.s .nil
theorem dk_cons (he : DE X c W e me) (hr : DK X c W kws mr) : DK X c W (⟨nm, e, kpos⟩ :: kws) (aCons me mr) := by
  refine pk_imp (pk_cons he hr) fun σ H Q q => ?_
  obtain ⟨M, ρ, G, env, R, q⟩ := q
  refine ⟨M, ρ, G, env, R, (TQ.bind (R := RE c) q).imp fun v H1 ⟨ρ1, G1, e1, g1, s1, r1, q1⟩ => ?_⟩
  refine ⟨M, ρ1, G1, env, R.ge g1 s1, (TQ.bind (R := RA c) q1).imp fun u H2 ⟨ρ2, G2, e2, g2, s2, r2, q2⟩ => ?_⟩
  exact q2.ok s2 (.cons (r1.grow g2.gr) r2)
/-- what is wanted of written values and keywords, one behind the other -/
theorem app_split {n k : Nat} {α : Type} {f : List EV → GS → Out EV} {Q : VK} {env : En} {G : GS} (R : Rl c M ρ G env σ H) (q : TQ (RE c) c W M ρ σ H ((aApp n k mr mk env G).bind f) Q) :
    tDA c W mr σ H fun vs H1 => tDA c W mk σ H1 fun zs H2 => vs.length = n ∧ zs.length = k ∧ ∃ ρ2 G2 es2, SR c M ρ2 G2 H2 ∧ All2 (RepE c M ρ2 H2) es2 (vs ++ zs) ∧ Ge M ρ H ρ2 H2 ∧ TQ (RE c) c W M ρ2 σ H2 (f es2 G2) Q := by
  have q0 := TQ.bind (R := RA c) q
  unfold aApp at q0
  refine ⟨M, ρ, G, env, R, (TQ.bind (R := RA c) q0).imp fun vs H1 ⟨ρ1, G1, e1, g1, s1, r1, q1⟩ => ?_⟩
  refine ⟨M, ρ1, G1, env, R.ge g1 s1, (TQ.bind (R := RA c) q1).imp fun zs H2 ⟨ρ2, G2, e2, g2, s2, r2, q2⟩ => ?_⟩
  split at q2
  · rename_i hl
    have rr : All2 (RepE c M ρ2 H2) (e1 ++ e2) (vs ++ zs) := All2.append (repEs_grow r1 g2.gr) r2
    obtain ⟨ρ3, G3, e3, g3, s3, r3, q3⟩ := q2 (vs ++ zs) ρ2 H2 Ge.refl s2 rr
    exact ⟨by rw [← r1.length]; exact hl.1, by rw [← r2.length]; exact hl.2, ρ3, G3, e3, s3, r3, g3, q3⟩
  · exact q2.elim
theorem app_split2 {n k : Nat} {Q' : List V → Hp → Prop} {env : En} {G : GS} (R : Rl c M ρ G env σ H) (q : TQ (RA c) c W M ρ σ H (aApp n k mr mk env G) Q') :
    tDA c W mr σ H fun vs H1 => tDA c W mk σ H1 fun zs H2 => vs.length = n ∧ zs.length = k ∧ Q' (vs ++ zs) H2 := by
  unfold aApp at q
  refine ⟨M, ρ, G, env, R, (TQ.bind (R := RA c) q).imp fun vs H1 ⟨ρ1, G1, e1, g1, s1, r1, q1⟩ => ?_⟩
  refine ⟨M, ρ1, G1, env, R.ge g1 s1, (TQ.bind (R := RA c) q1).imp fun zs H2 ⟨ρ2, G2, e2, g2, s2, r2, q2⟩ => ?_⟩
  split at q2
  · rename_i hl
    exact ⟨by rw [← r1.length]; exact hl.1, by rw [← r2.length]; exact hl.2, q2.ok s2 (All2.append (repEs_grow r1 g2.gr) r2)⟩
  · exact q2.elim
/-- an instance is made by a call with keywords -/
theorem run_makeKA {CX : CXT} {k n : Nat} {f C : Addr} {fd : FuncData} {ps ks : List Str} {sp : Sp} {E : XK} {Q : VK} {s : Shared} {pins : List (Addr × Obj)} {vs zs : List V} {us ws : List Value}
    (Mc : Mk X.K C f) (F : FnOk X.prog X.w X.K X.mg X.base CX k f fd ps sp) (hr : Room (k + 1) X.A) (hb : KBn X.K fd ps (n + 1) ks (· ++ ·) (· ++ ·)) (hx : PassesAt CX X σ E) (I : Inv X pins σ H s) (r : Vals vs us) (rz : Vals zs ws) (l1 : vs.length = n) (l2 : zs.length = ks.length)
    (h : ∀ x dx, H x = Option.none → H dx = Option.none → dx ≠ x → sp (V.ref x :: vs ++ zs) (upd (upd H dx (.own x)) x (.ins C dx [])) (fun v H2 => v = .non ∧ Q (.ref x) H2) E) :
    wpAny (model X.prog X.w) X.A (call (.ref C) us (ks.zip ws)) (EP X pins σ Q) X.xe s := by
  let m := s.heap.objs.size
  have q := h (m + 1) m (I.hok.fresh (Nat.le_succ m)) (I.hok.fresh (Nat.le_refl m)) (Nat.ne_of_lt m.lt_succ_self)
  have J := Inv.made (C := C) I
  have ra : Vals (V.ref (m + 1) :: vs) (Value.ref (m + 1) :: us) := .cons rfl r
  have n1 : (Value.ref (m + 1) :: us).length = n + 1 := ra.length.symm.trans (congrArg Nat.succ l1)
  have z := F.run _ X.stack _ _ ⟨Value.ref (m + 1) :: us, ks.zip ws⟩ _ _ _ E (hr.make C us (ks.zip ws)) (J.env0.make C us (ks.zip ws)) (hb.to _ _ ws J.kIn n1 (rz.length.symm.trans l2)) (hb.rel ra rz) q
  refine wpAny_call (make_map (f := f) I.kIn Mc.makes Mc.init (beq_iff_eq.mp Mc.fn) (codeAny_mono z fun res s' y => ?_))
  match res, y with
  | .error e, y => exact hx pins _ _ e s' J y
  | .ok (.ret u), y =>
    rcases J.after y with ⟨v, H3, J3, rv, hv, q3⟩
    cases hv
    exact ⟨rv, V.ref (m + 1), H3, J3, rfl, q3⟩
  | .ok .next, y => exact y.elim
  | .ok .brk, y => exact y.elim
  | .ok .cont, y => exact y.elim
theorem de_makeK {k n m : Nat} {x : Str} {cl : String} {A : Ar} {g : IM} {f : Addr} {fd : FuncData} {ps ks : List Str} (Mc : Mk X.K (c.C cl) f) (F : FnOk X.prog X.w X.K X.mg X.base (L2N.CX X.prog X.w) k f fd ps (SpI X.K c.C c.N cl A g)) (hb : KBn X.K fd ps (n + 1) ks (· ++ ·) (· ++ ·)) (hl : ks.length = m) (hK : c.K = X.K) (hr : Room (k + 1) X.A) (hg : Gl X x) (hm : X.mg x = some (.ref (c.C cl))) (tk : L2N.Takes X W)
    (ha : DA X c W (e :: es) mr) (hkw : DK X c W kws mk) (hall : (backToKw pos (keywordEach kws X.env)).all (·.1.isSome) = true := by rfl) (hks : (backToKw pos (keywordEach kws X.env)).filterMap (·.1) = ks := by rfl) (hdb : (x == ("__debug__" : Str)) = false := by decide)
    (he : starEach (e :: es) X.env = (false, eval e X.env) :: starEach es X.env := by rfl) (hpl : ((backTo pos (starEach (e :: es) X.env)).any (·.1) || (backToKw pos (keywordEach kws X.env)).any (·.1.isNone)) = false := by rfl) :
    DE X c W (.Call (.Name x p) (e :: es) kws pos) (eMake cl A g (aApp n m mr mk)) := by
  subst hl
  refine ⟨fun pins s σ H Q I h => ?_⟩
  obtain ⟨M, ρ, G, env, R, q⟩ := h
  refine wpAny_Call_Name_kw (ld_glob I hg hm ?_ hdb)
  have t0 := app_split (α := Unit) R q
  refine PySem.W.callWith_KW (h₀ := X.base) I.ok.mod.kin Mc.kp hall (thn (PA.run ha pos pins s σ H _ I t0) fun us s1 ⟨vs, H1, I1, r, q1⟩ => ?_) hpl he
  refine thn (PK.run hkw pos pins s1 σ H1 _ I1 q1) fun ws s2 ⟨zs, H2, I2, rz, l1, l2, ρ2, G2, es2, s3, r3, g3, q3⟩ => ⟨I2.kIn, ?_⟩
  rw [hks]
  refine run_makeKA Mc F hr hb (L2N.passAt tk σ) I2 r rz l1 l2 fun x dx hx hd hne => ?_
  rw [← hK]
  exact spi_of s3 r3 q3 hx hd hne
end
/-! ### super().m(.., k = v) -/
section
open PySem.W
variable {CX : CXT} {P : Program} {w : World} {K : PySem.W.Frag} {mg : Str → Option Value} {base : Heap} {N : List Str} {G : NF} {f f2 cc D C a : Addr} {A : Around} {outer : List Env} {s0 s : Shared} {H0 H : Hp} {E : XK} {sf : Str} {pins : List (Addr × Obj)} {σ : L2.St}
theorem sup_meth {body : List Stmt} {p0 p1 ap pos : Pos} {m : Str} {args : List Expr} {kws : List Keyword} {Q : Value → Shared → Prop} {EE : Value → Shared → Prop} {dx : Addr} {gs : List (Str × V)} (S : SX.SupF P K G f cc D sf) (I : Inv (ncx CX P w K mg base N G f A outer s0 H0 E) pins σ H s)
    (h0 : N[0]? = some sf) (hs : σ[0]? = some (some (.ref a))) (ea : H a = some (.ins C dx gs)) (hcl : ∃ cd, clsIn K C = some cd) (hsub : mroIn K C (.ref D) = some true) (hst : nsIn K cStatics "thirdparty.any" = some none) (hsi : ks_superIn K C D m = some (some (.ref f2))) (ht2 : typeIn K (.ref f2) = some (.type "function")) (hm : mg "super" = none)
    (hat : (m == ("__class__" : Str)) = false) {pl : Sem Bool}
    (hev : eval (.Call (.Attribute (.Call (.Name "super" p0) [] [] p1) m ap) args kws pos) (envF G f s0.heap.objs.size) = (do
      let ov ← attributeBase (.Call (.Name "super" p0) [] [] p1) m (envF G f s0.heap.objs.size) (eval (.Call (.Name "super" p0) [] [] p1) (envF G f s0.heap.objs.size))
      standAt ap.atName
      let (f', first) ← holding [ov] (getMethod ov m pl)
      callWith pos f' first (backTo pos (starEach args (envF G f s0.heap.objs.size))) (backToKw pos (keywordEach kws (envF G f s0.heap.objs.size)))))
    (k : ∀ so q s', Inv (ncx CX P w K mg base N G f A outer s0 H0 E) ((q, methodObj (.ref f2) (.ref a)) :: (so, ks_superObj D a C) :: pins) σ H s' → PySem.wpAny (model P w) (A.deeper (envF G f s0.heap.objs.size)) (callWith pos (.ref q) [] (backTo pos (starEach args (envF G f s0.heap.objs.size))) (backToKw pos (keywordEach kws (envF G f s0.heap.objs.size)))) Q EE s') :
    _root_.PySem.wpAt (model P w) (A.deeper (envF G f s0.heap.objs.size)) (.func body (envF G f s0.heap.objs.size)) (eval (.Call (.Attribute (.Call (.Name "super" p0) [] [] p1) m ap) args kws pos) (envF G f s0.heap.objs.size)) Q EE s := by
  obtain ⟨mA, O, _⟩ := ins_get I.hok ea
  obtain ⟨od, J, _⟩ := O.look
  rw [hev]
  refine _root_.PySem.wpAt_bind (_root_.PySem.wpAt_mono (Q := fun ov s1 => PySem.wpAny (model P w) (A.deeper (envF G f s0.heap.objs.size)) (getMethod ov m pl) (fun fx s2 => PySem.wpAny (model P w) (A.deeper (envF G f s0.heap.objs.size)) (callWith pos fx.1 fx.2 (backTo pos (starEach args (envF G f s0.heap.objs.size))) (backToKw pos (keywordEach kws (envF G f s0.heap.objs.size)))) Q EE s2) EE s1)
    (SX.sup_base S I h0 hs J.at_ J.cls (fun z y => nomatch y) hsub hat hm fun so s1 I1 => ?_) (fun ov s1 h1 => _root_.PySem.wpAt_of_wpAny (wpAny_bind (wpAny_standAt (wpAny_bind (wpAny_holding (wpAny_mono h1 (fun fx s2 h2 => ?_) fun _ _ z => z)))))) fun _ _ z => z)
  · have kin : K.In s1.heap := I1.kIn
    obtain ⟨mA2, O2, _⟩ := ins_get I1.hok ea
    obtain ⟨od2, J2, _⟩ := O2.look
    obtain ⟨cd, hcd⟩ := hcl
    have hne : a ≠ C := ks_ne kin J2 hcd
    have hso : s1.heap.get? so = some (ks_superObj D a C) := ClX.pin_at I1
    unfold ks_superIn at hsi
    rw [hcd] at hsi
    obtain ⟨of, hof, hofc⟩ : ∃ of, s1.heap.get? f2 = some of ∧ of.cls = .type "function" := by
      have ht' : (K.lookup f2).map (·.cls) = some (.type "function") := ht2
      cases z : K.lookup f2 with
      | none => rw [z] at ht'; cases ht'
      | some of => rw [z] at ht'; exact ⟨of, kin _ _ z, Option.some.inj ht'⟩
    obtain ⟨hh, gg, dd, tk, os⟩ := s1
    refine ks_wpAny_getMethod_super hso (looks_opaque kin hst) (l₀ := cd.mro) ?_ rfl kin hsi hof hofc hne hat ?_
    · exact fun A Q E s k q => wpAny_bind ((looks_clsIn kin hcd) A _ E s k (wpAny_pure q))
    · exact k so hh.objs.size _ (ClX.pin_new (s := ⟨hh, gg, dd, tk, os⟩) I1 (fun _ _ z => Heap.get?_push_of_some _ z) (Nat.le_refl _) (Heap.get?_push_size hh rfl) (fun v z => nomatch z))
  · exact h2
end
/-! ### super().__init__(.., k = v) -/
/-- the arguments, then the __init__ above -/
def runS (n : Nat) (cl : String) (mr : AM) (A : Ar) (g : IM) : IM := fun es G => match mr (envI n cl es) G with
  | .ok xs G1 => if A xs.length = true then g xs G1 else .st
  | .er c fs G1 => .er c fs G1
  | .st => .st
section
variable {P : Program} {w : World} {K : PySem.W.Frag} {mg : Str → Option Value} {base : Heap} {Cf : String → Addr} {Nf : String → List Str} {N ps ks : List Str} {F : NF} {f f2 cc D : Addr} {k k2 n : Nat} {sf : Str} {cl : String} {dV kV doc pm ctv oc : Value} {od an : Option Addr} {osl : Array (Option Value)}
theorem fn_supI {p0 p1 ap pos pos2 : Pos} {e : Expr} {es : List Expr} {kws : List Keyword} {mr mk : AM} {A2 : Ar} {g2 : IM} {fd2 : FuncData} {ps2 : List Str} (S : SX.SupF P K F f cc D sf) (lk : K.lookup f = some ⟨oc, od, .func (PySem.W.fnX F.name F.qual F.params F.body F.scope F.cl dV kV doc pm an (.ref F.c) ctv), osl⟩) (hcd : PySem.W.codeIn K (.ref F.c) F.qual = true)
    (Sc : NScope N (sf :: ps) [("__class__" : Str)] F.scope) (hst : PySem.W.nsIn K cStatics "thirdparty.any" = some none) (hsi : PySem.W.ks_superIn K (Cf cl) D "__init__" = some (some (.ref f2))) (hsub : PySem.W.mroIn K (Cf cl) (.ref D) = some true) (hm : mg "super" = none) (ht2 : PySem.W.typeIn K (.ref f2) = some (.type "function")) (hf2 : PySem.W.fnIn K f2 = true)
    (hcls : ∃ cd, PySem.W.clsIn K (Cf cl) = some cd) (F2 : FnOk P w K mg base (L2N.CX P w) k2 f2 fd2 ps2 (SpI K Cf Nf cl A2 g2)) (hb2 : KBn K fd2 ps2 (n + 1) ks (· ++ ·) (· ++ ·)) (hk : k2 ≤ k)
    (hbody : F.body = [.Expr (.Call (.Attribute (.Call (.Name "super" p0) [] [] p1) "__init__" ap) (e :: es) kws pos) pos2])
    (he : ∀ (A : Around) (outer : List Env) (s : Shared) (H : Hp) (E : XK) (B : Addr → Prop) (x : Addr), Room k (A.deeper (envF F f s.heap.objs.size)) → DA (ncx (L2N.CX P w) P w K mg base N F f A outer s H E) ⟨K, Cf, Nf, B, x, 0⟩ (fun cls d _ H => E cls d H) (e :: es) mr ∧ DK (ncx (L2N.CX P w) P w K mg base N F f A outer s H E) ⟨K, Cf, Nf, B, x, 0⟩ (fun cls d _ H => E cls d H) kws mk)
    (hall : ∀ env, (backToKw pos (keywordEach kws env)).all (·.1.isSome) = true := by intro _; rfl) (hks : ∀ env, (backToKw pos (keywordEach kws env)).filterMap (·.1) = ks := by intro _; rfl)
    (hstar : ∀ env, starEach (e :: es) env = (false, eval e env) :: starEach es env := by intro _; rfl) (hpl : ∀ env, ((backTo pos (starEach (e :: es) env)).any (·.1) || (backToKw pos (keywordEach kws env)).any (·.1.isNone)) = false := by intro _; rfl) {pl : Env → Sem Bool}
    (hev : ∀ env, eval (.Call (.Attribute (.Call (.Name "super" p0) [] [] p1) "__init__" ap) (e :: es) kws pos) env = (do
      let ov ← attributeBase (.Call (.Name "super" p0) [] [] p1) "__init__" env (eval (.Call (.Name "super" p0) [] [] p1) env)
      standAt ap.atName
      let (f', first) ← holding [ov] (getMethod ov "__init__" (pl env))
      callWith pos f' first (backTo pos (starEach (e :: es) env)) (backToKw pos (keywordEach kws env))) := by intro _; rfl)
    (hsw : ∀ env, swapsWith (.Call (.Attribute (.Call (.Name "super" p0) [] [] p1) "__init__" ap) (e :: es) kws pos) none pos2.line env = pure false := by intro _; rfl) :
    FnOk P w K mg base (L2N.CX P w) (k + 1) f (PySem.W.fnX F.name F.qual F.params F.body F.scope F.cl dV kV doc pm an (.ref F.c) ctv) (sf :: ps) (SpI K Cf Nf cl (arN ps.length) (runS N.length cl (aApp n ks.length mr mk) A2 g2)) := by
  have hpre : N.take (ps.length + 2) = sf :: ps ++ [("__class__" : Str)] := Sc.pre
  have hlen : ps.length + 2 ≤ N.length := by have := congrArg List.length hpre; rw [List.length_take] at this; simp at this; omega
  have g0 : N[0]? = some sf := by rw [← List.getElem?_take_of_lt (j := ps.length + 2) (by omega), hpre]; rfl
  refine SX.fn_sup S lk hcd Sc (fun vs H Q E ⟨x, rest, h, hl, _⟩ => by rw [h]; simpa [arN] using hl) fun A outer s H vs Q E hr hsp s1 I => ?_
  obtain ⟨x, rest, rfl, hl, B, ρ, G, es0, dx, s0, r, hx, hB, q⟩ := hsp
  have hl' : rest.length = ps.length := by simpa [arN] using hl
  have hstart : startF N (V.ref x :: rest) [none] = L2.start N (V.ref x :: rest) := by
    unfold startF L2.start
    congr 1
    have : N.length - (V.ref x :: rest).length = (N.length - (V.ref x :: rest).length - 1) + 1 := by simp; omega
    rw [this, List.replicate_succ]
    rfl
  rw [hstart] at I
  have R := rl_init (c := ⟨K, Cf, Nf, B, x, 0⟩) (Nm := N) s0 r hx (by rw [hl']; omega)
  have hs0 : (L2.start N (V.ref x :: rest))[0]? = some (some (.ref x)) := rfl
  rw [hbody]
  refine ks_wpAt_execs_cons (ks_wpAt_Expr_any (sup_meth S I g0 hs0 hx hcls hsub hst hsi ht2 hm (by decide) (hev _) fun so qa s2 I2 => ?_) (by unfold interactive; simp [Sc.kind]) (hsw _))
  obtain ⟨ha, hkw⟩ := he A outer s H E B x hr
  have xρ : x ∉ ρ := fun z => (s0.sep x z).2 rfl
  have t0 : TQ (RA (⟨K, Cf, Nf, B, x, 0⟩ : RC)) (⟨K, Cf, Nf, B, x, 0⟩ : RC) (fun cls d _ H => E cls d H) (· = x) ρ (L2.start N (V.ref x :: rest)) H (aApp n ks.length mr mk (envI N.length cl es0) G) (fun vs H2 => ∃ ρ2 G2 es2, Ge (· = x) ρ H ρ2 H2 ∧ SR (⟨K, Cf, Nf, B, x, 0⟩ : RC) (· = x) ρ2 G2 H2 ∧ All2 (RepE (⟨K, Cf, Nf, B, x, 0⟩ : RC) (· = x) ρ2 H2) es2 vs ∧
      (match (if A2 es2.length = true then g2 es2 G2 else .st) with
      | .ok fs G' => ∀ dy gs ρ' H', Gr (· = x) ρ H nM ρ' H' → SR (⟨K, Cf, Nf, B, x, 0⟩ : RC) nM ρ' G' H' → H' x = some (.ins (Cf cl) dy gs) → Flds (⟨K, Cf, Nf, B, x, 0⟩ : RC) nM ρ' H' cl fs gs → Q .non H'
      | .er c2 fs G' => ∀ dd gs ρ' H', Gr (· = x) ρ H nM ρ' H' → SR (⟨K, Cf, Nf, B, x, 0⟩ : RC) nM ρ' G' H' → H' dd = some (.xd gs) → Flds (⟨K, Cf, Nf, B, x, 0⟩ : RC) nM ρ' H' c2 fs gs → E (.ref (Cf c2)) (some dd) H'
      | .st => False)) := by
    unfold runS at q
    cases hm1 : aApp n ks.length mr mk (envI N.length cl es0) G with
    | st => rw [hm1] at q; exact q.elim
    | er c2 fs G1 =>
      rw [hm1] at q
      exact fun dd gs ρ' H' g s e' f => q dd gs ρ' H' g.gr.nm s.drop e' (flds_cv cv_drop f)
    | ok xs G1 =>
      rw [hm1] at q
      exact fun v ρ' H' g s rv => ⟨ρ', G1, xs, g, s, rv, q⟩
  have t1 := app_split2 (W := fun cls d _ H => E cls d H) (σ := L2.start N (V.ref x :: rest)) R t0
  refine PySem.W.callWith_of (P := PySem.W.MethP K qa f2 (.ref x)) (hpl _) (PySem.W.keeps_M hf2) (PyProof.Rows.evalArgs_kw2 (hall _) (thn (PA.run ha pos _ s2 _ H _ I2 t1) fun us s3 ⟨vs, H1, I3, r1, q1⟩ => thn (PK.run hkw pos _ s3 _ H1 _ I3 q1) fun ws s4 ⟨zs, H2, I4, rz, l1, l2, ρ2, G2, es2, ge, s2', r2, q2⟩ => ⟨⟨ClX.pin_at I4, I4.kIn⟩, ?_⟩) (hstar _))
  rw [hks (envF F f s.heap.objs.size)]
  have hA2 : A2 es2.length = true := by
    cases hA : A2 es2.length with
    | true => rfl
    | false => rw [hA] at q2; exact q2.elim
  rw [if_pos hA2] at q2
  have n1 : (Value.ref x :: us).length = n + 1 := by rw [List.length_cons, ← r1.length, l1]
  have n2 : ws.length = ks.length := rz.length.symm.trans l2
  have rv : Vals (V.ref x :: vs) (Value.ref x :: us) := .cons rfl r1
  have hx2 : H2 x = some (.ins (Cf cl) dx []) := ge.keep _ _ hx xρ
  have g0' : Gr (· = x) ρ H (· = x) ρ2 H2 := ge.gr
  have sp : SpI K Cf Nf cl A2 g2 (V.ref x :: vs ++ zs) H2 (fun v H3 => v = .non ∧ Q .non H3) E := by
    refine ⟨x, vs ++ zs, rfl, by rw [← r2.length]; exact hA2, B, ρ2, G2, es2, dx, s2', r2, hx2, hB, ?_⟩
    cases hg : g2 es2 G2 with
    | ok fs G' => rw [hg] at q2; exact fun dy gs ρ' H' g s h1 h2 => ⟨rfl, q2 dy gs ρ' H' (g0'.trans g) s h1 h2⟩
    | er c2 fs G' => rw [hg] at q2; exact fun dd gs ρ' H' g s h1 h2 => q2 dd gs ρ' H' (g0'.trans g) s h1 h2
    | st => rw [hg] at q2; exact q2
  have tk : L2N.Takes (ncx (L2N.CX P w) P w K mg base N F f A outer s H E) (fun cls d _ H => E cls d H) := takesF rfl rfl rfl rfl
  have room : Room k2 (ncx (L2N.CX P w) P w K mg base N F f A outer s H E).A := hr.mono hk
  refine wpAny_call (PySem.W.method_call (ClX.pin_at I4) (codeAny_mono (F2.run _ (ncx (L2N.CX P w) P w K mg base N F f A outer s H E).stack s4 H2 ⟨Value.ref x :: us, ks.zip ws⟩ _ _ _ E room I4.env0 (hb2.to s4 (Value.ref x :: us) ws I4.kIn n1 n2) (hb2.rel rv rz) sp) fun res s5 y => ?_))
  match res, y with
  | .error er, y => exact L2N.passAt tk (L2.start N (V.ref x :: rest)) _ _ _ er s5 I4 y
  | .ok .next, y => exact y.elim
  | .ok .brk, y => exact y.elim
  | .ok .cont, y => exact y.elim
  | .ok (.ret u), y =>
    obtain ⟨v, H3, I5, rv', hv, q3⟩ := I4.after y
    subst hv
    exact _root_.PySem.wpAt_of_wpAny (wpAny_execs_nil ⟨_, H3, ClX.unpin (ClX.unpin I5), q3⟩)
end
end DL

set_option Elab.async false
set_option linter.all false
set_option maxRecDepth 100000
set_option maxHeartbeats 4000000
/-! own truth in a test; texts in a tuple of texts. -/
namespace DL
open PySem PySem.Calls PySem.Spec L2 PyProof.Rows StX ClX
def truO (cl : String) (A : Ar) (g : FM) : EV → GS → Option (Bool × GS) := fun e G => match e with
  | .d (.ins k fs) => if k = cl ∧ A 1 = true then (match g [.d (.ins k fs)] G with
    | .ok (.d (.bl b)) G' => some (b, G')
    | _ => none) else none
  | _ => none
section
variable {X : Cx} {c : RC} {W : WX} {e : Expr} {me : EM} {cl : String} {A : Ar} {g : FM} {f : Addr} {lv : Nat} {M : Addr → Prop} {ρ : List Addr} {σ : L2.St} {H : Hp}
theorem db_truO (hK : c.K = X.K) (hr : Room lv X.A) (tk : L2N.Takes X W) (hs : PySem.W.findIn X.K (.ref (c.C cl)) "__bool__" = some (some (.ref f))) (hf : PySem.W.isFn X.K (.ref f) = true) (F : FnG X.prog X.w X.K X.mg X.base c.C c.N lv f A g) (he : DE X c W e me)
    (hp : ∀ whole, isTrue e X.env whole = (do let v ← whole; standAt e.pos; holding [v] (truthy v)) := by intro _; rfl) : DB X c W e (bOf (truO cl A g) me) := by
  refine ⟨fun pins s σ H Q I q => ?_⟩
  obtain ⟨M, ρ, G, env, R, q⟩ := q
  have h' : tD c W me σ H fun x H1 => ∃ fs ρ1 G1, SR c M ρ1 G1 H1 ∧ RepE c M ρ1 H1 (.d (.ins cl fs)) x ∧ A 1 = true ∧ TQ (RE c) c W M ρ1 σ H1 (match g [.d (.ins cl fs)] G1 with | .ok (.d (.bl b)) G' => .ok (.d (.bl b)) G' | _ => .st) (fun v H2 => ∃ b, v = .bl b ∧ Q b H2) := by
    refine ⟨M, ρ, G, env, R, (TQ.bind (R := RE c) q).imp fun v H1 ⟨ρ1, G1, e1, g1, s1, r1, q1⟩ => ?_⟩
    unfold truO at q1
    split at q1
    · rename_i k fs
      split at q1
      · rename_i hk
        obtain ⟨rfl, hA⟩ := hk
        refine ⟨fs, ρ1, G1, s1, r1, hA, ?_⟩
        split at q1
        · rename_i b G' hg
          exact fun v ρ' H' g s r => ⟨b, Rep.of_bl r, q1 b ρ' H' g s rfl⟩
        · exact q1.elim
      · exact q1.elim
    · exact q1.elim
  refine isTrue_plain (thn (PE.run he pins s σ H _ I h') fun u s1 ⟨x, H1, I1, rx, fs, ρ1, G1, s1', r1, hA, q1⟩ => ?_) (hp _)
  obtain ⟨a, dx, gs, rfl, z, ea, fl⟩ := Rep.of_ins r1
  obtain rfl : u = Value.ref a := rx
  obtain ⟨ox, od, J⟩ := inst_at I1 ea
  obtain ⟨m, hF⟩ := I1.fr
  have q2 : TQ (RE c) c W M ρ1 σ H1 (if A [EV.d (.ins cl fs)].length = true then g [.d (.ins cl fs)] G1 else .st) (fun v H2 => ∃ b, v = .bl b ∧ Q b H2) := by
    rw [if_pos (show A [EV.d (.ins cl fs)].length = true from hA)]
    split at q1
    · rename_i b G' hg
      first
      | (rw [hg]; exact q1)
      | exact q1
    · exact q1.elim
  have sp := spd_of (es1 := [.d (.ins cl fs)]) s1' (.cons r1 .nil) q2
  rw [hK] at sp
  refine PySem.W.truthy_K hF I1.ok.mod.kin J hs hf (wpAny_mono (wpAny_call (run_fnA (us := [.ref a]) (vs := [.ref a]) F hr (L2N.passAt tk σ) I1 (.cons rfl .nil) sp)) (fun w s' hw => ?_) fun _ _ x => x)
  obtain ⟨z', H', I', rz, b, e, qz⟩ := hw
  subst e
  cases rz
  exact ⟨H', I', qz⟩
end
def texts : List DL.D → Option (List Str)
  | [] => some []
  | .str x :: r => (texts r).map (x :: ·)
  | _ => none
section
variable {X : Cx} {c : RC} {M : Addr → Prop} {ρ : List Addr} {H : Hp}
theorem texts_of : ∀ {xs : List DL.D} {zs : List Str} {vs : List V}, texts xs = some zs → All2 (Rep c M ρ H) xs vs → vs = zs.map V.str
  | [], _, _, h, .nil => by cases h; rfl
  | .str x :: r, zs, _, h, .cons r1 t => by
    unfold texts at h
    cases hr : texts r with
    | none => rw [hr] at h; cases h
    | some ys =>
      rw [hr] at h
      cases h
      rw [r1.of_str, texts_of hr t]
      rfl
  | .non :: _, _, _, h, _ => by cases h
  | .bl _ :: _, _, _, h, _ => by cases h
  | .int _ :: _, _, _, h, _ => by cases h
  | .tup _ :: _, _, _, h, _ => by cases h
  | .lst _ :: _, _, _, h, _ => by cases h
  | .ins _ _ :: _, _, _, h, _ => by cases h
  | .cls _ :: _, _, _, h, _ => by cases h
  | .ty _ :: _, _, _, h, _ => by cases h
theorem any_str {x : Str} : ∀ zs : List Str, inV (.str x) (zs.map V.str) = zs.any (· == x)
  | [] => rfl
  | z :: zs => by
    have h := any_str (x := x) zs
    unfold inV at h ⊢
    rw [List.map_cons, List.any_cons, List.any_cons, h]
    rfl
theorem flat_str : ∀ zs : List Str, (zs.map V.str).all flatV = true
  | [] => rfl
  | z :: zs => by rw [List.map_cons, List.all_cons, flat_str zs]; rfl
def gInS (neg : Bool) : DL.D → DL.D → Option DL.D
  | .str x, .lst xs => (texts xs).map fun zs => .bl (zs.any (· == x) != neg)
  | .str x, .tup xs => (texts xs).map fun zs => .bl (zs.any (· == x) != neg)
  | _, _ => none
theorem ins_core {neg : Bool} {a b z : DL.D} {x y : V} {G : GS} {Q : VK} (hK : c.K = X.K) (s : SR c M ρ G H) (ra : Rep c M ρ H a x) (rb : Rep c M ρ H b y) (hz : gInS neg a b = some z) (q : ∀ (v : V) (H' : Hp), Same H H' → Rep c M ρ H' z v → Q v H') : rIn X.K neg x y H Q := by
  unfold gInS at hz
  split at hz
  · rename_i t xs
    cases hi : texts xs with
    | none => rw [hi] at hz; cases hz
    | some zs =>
      rw [hi] at hz
      cases hz
      obtain ⟨p, vs, rfl, z, rr⟩ := Rep.of_lst rb
      have ev := texts_of hi rr
      subst ev
      refine ⟨p, _, rfl, .inl (by rw [← hK]; exact z.sq), by rw [ra.of_str]; rfl, flat_str _, ?_⟩
      rw [ra.of_str, any_str]
      cases neg with
      | true => rw [if_pos rfl, show (!zs.any (· == t)) = (zs.any (· == t) != true) by cases zs.any (· == t) <;> rfl]; exact q _ _ same_refl .bl
      | false => rw [if_neg Bool.false_ne_true]; rw [show zs.any (· == t) = (zs.any (· == t) != false) by cases zs.any (· == t) <;> rfl]; exact q _ _ same_refl .bl
  · rename_i t xs
    cases hi : texts xs with
    | none => rw [hi] at hz; cases hz
    | some zs =>
      rw [hi] at hz
      cases hz
      obtain ⟨p, vs, rfl, z, rr⟩ := Rep.of_tup rb
      have ev := texts_of hi rr
      subst ev
      refine ⟨p, _, rfl, .inr (by rw [← hK]; exact z.sq), by rw [ra.of_str]; rfl, flat_str _, ?_⟩
      rw [ra.of_str, any_str]
      cases neg with
      | true => rw [if_pos rfl, show (!zs.any (· == t)) = (zs.any (· == t) != true) by cases zs.any (· == t) <;> rfl]; exact q _ _ same_refl .bl
      | false => rw [if_neg Bool.false_ne_true]; rw [show zs.any (· == t) = (zs.any (· == t) != false) by cases zs.any (· == t) <;> rfl]; exact q _ _ same_refl .bl
  · cases hz
def fInS : F2 := pure2 (gInS false)
def fNotInS : F2 := pure2 (gInS true)
theorem dop_inS (hK : c.K = X.K) : OpR X (compareOp .In) (V2 c fInS) := opr_imp op_in_seq fun x y H Q q0 => by
  obtain ⟨M, ρ, G, a, b, z, s, ra, rb, hz, q⟩ := v2_pure q0
  exact ins_core hK s ra rb hz q
theorem dop_notinS (hK : c.K = X.K) : OpR X (compareOp .NotIn) (V2 c fNotInS) := opr_imp op_notIn_seq fun x y H Q q0 => by
  obtain ⟨M, ρ, G, a, b, z, s, ra, rb, hz, q⟩ := v2_pure q0
  exact ins_core hK s ra rb hz q
end
end DL

set_option Elab.async false
set_option linter.all false
set_option maxRecDepth 100000
set_option maxHeartbeats 4000000
/-! what a printed text says of defs with keyword-only parameters, of an __init__ that says super(). -/
namespace DL
open PySem L2 PyProof.Rows StX ClX NdefX
section
variable {P : Program} {w : World} {K : PySem.W.Frag} {mg : Str → Option Value} {base : Heap} {C : String → Addr} {N : String → List Str}
/-- an __init__, every parameter bound -/
theorem fnoi_of {x qual s1 : Str} {st : Stmt} {f : Addr} {fd : FuncData} {Nm ps : List Str} {k : Nat} {cl : String} {m : SM} (F : Fun K x qual st f fd) (S : FnScope Nm (s1 :: ps) (defScope st))
    (hb : ∀ (cdv : Value) (A : Around) (outer : List Env) (s : Shared) (H : Hp) (E : XK) (B : Addr → Prop) (x : Addr), Room k (A.deeper (envOfC qual (defScope st) s.heap.objs.size f cdv)) →
      DSs (cxOf (L2N.CX P w) P w K mg base Nm qual (defScope st) f cdv A outer s H E) ⟨K, C, N, B, x, 0⟩ (fun cls d _ H => E cls d H) (defBody st) m) : FnOk P w K mg base (L2N.CX P w) (k + 1) f fd (s1 :: ps) (SpI K C N cl (arN ps.length) (runI Nm.length cl m)) := by
  have hlN : (s1 :: ps).length ≤ Nm.length := by have := congrArg List.length S.pre; rw [List.length_take] at this; omega
  obtain ⟨oc, od, kV, doc, pm, an, cdv, ct, osl, rfl, lk, hcd⟩ := F.ex
  refine fn_of lk hcd S (fun vs H Q E ⟨x, rest, e, hl, _⟩ => by rw [e]; simpa [arN] using hl) fun A outer s H vs Q E hr hsp => ?_
  obtain ⟨x, rest, rfl, hl, B, ρ, G, es, dx, s0, r, hx, hB, q⟩ := hsp
  have hl' : rest.length = ps.length := by simpa [arN] using hl
  refine ⟨_, hb cdv A outer s H E B x hr, (· = x), ρ, G, envI Nm.length cl es, rl_init (c := ⟨K, C, N, B, x, 0⟩) (Nm := Nm) s0 r hx (by rw [hl']; exact hlN), ?_⟩
  refine sq_init (c := ⟨K, C, N, B, x, 0⟩) (k := cl) ?_
  unfold IQ
  unfold runI at q
  cases ho : retI cl (m (envI Nm.length cl es) G) with
  | ok fs G' => rw [ho] at q; exact q
  | er c2 fs G' => rw [ho] at q; exact q
  | st => rw [ho] at q; exact q
theorem _root_.L2.Fun.kbn {x qual : Str} {st : Stmt} {f : Addr} {fd : FuncData} {ps ks : List Str} {n : Nat} (F : Fun K x qual st f fd)
    (h : ∀ (kV doc pm : Value) (an : Option Addr) (cdv ct : Value) (us ws : List Value), us.length = n → ws.length = ks.length → bindArgs (PySem.W.fnOf x qual (defArgs st) (defBody st) (defScope st) .none kV doc pm an cdv ct) ⟨us, ks.zip ws⟩ = pure (ps.zip (us ++ ws))) : KBn K fd ps n ks (· ++ ·) (· ++ ·) := by
  obtain ⟨oc, od, kV, doc, pm, an, cdv, ct, osl, rfl, lk, hcd⟩ := F.ex
  exact ⟨fun s us ws _ l1 l2 => .of_eq (h kV doc pm an cdv ct us ws l1 l2), fun r1 r2 => r1.append r2⟩
/-- an __init__ of the class at D that says super().__init__ -/
structure SupI (P : Program) (K : PySem.W.Frag) (mg : Str → Option Value) (D f : Addr) (fd : FuncData) (st : Stmt) (qual sf : Str) (f2 : Addr) : Prop where
  ex : ∃ (cc c : Addr) (oc dV kV doc pm ctv : Value) (od an : Option Addr) (osl : Array (Option Value)), fd = PySem.W.fnX (nfo st "__init__" qual cc c).name (nfo st "__init__" qual cc c).qual (nfo st "__init__" qual cc c).params (nfo st "__init__" qual cc c).body (nfo st "__init__" qual cc c).scope (nfo st "__init__" qual cc c).cl dV kV doc pm an (.ref (nfo st "__init__" qual cc c).c) ctv ∧
    K.lookup f = some ⟨oc, od, .func fd, osl⟩ ∧ PySem.W.codeIn K (.ref c) qual = true ∧ SX.SupF P K (nfo st "__init__" qual cc c) f cc D sf
  hst : PySem.W.nsIn K cStatics "thirdparty.any" = some none
  hsi : PySem.W.ks_superIn K D D "__init__" = some (some (.ref f2))
  hsub : PySem.W.mroIn K D (.ref D) = some true
  hm : mg "super" = none
  ht2 : PySem.W.typeIn K (.ref f2) = some (.type "function")
  hf2 : PySem.W.fnIn K f2 = true
  hcls : PySem.W.isClsIn K D = true
theorem supi_ok {p0 p1 ap pos pos2 : Pos} {e : Expr} {es : List Expr} {kws : List Keyword} {mr mk : AM} {A2 : Ar} {g2 : IM} {fd fd2 : FuncData} {ps ps2 ks Nm : List Str} {f f2 : Addr} {st : Stmt} {qual sf : Str} {cl : String} {k k2 n m : Nat} (T : SupI P K mg (C cl) f fd st qual sf f2) (Sc : NScope Nm (sf :: ps) [("__class__" : Str)] (defScope st))
    (F2 : FnOk P w K mg base (L2N.CX P w) k2 f2 fd2 ps2 (SpI K C N cl A2 g2)) (hb2 : KBn K fd2 ps2 (n + 1) ks (· ++ ·) (· ++ ·)) (hk : k2 ≤ k) (hl : ks.length = m)
    (hbody : defBody st = [.Expr (.Call (.Attribute (.Call (.Name "super" p0) [] [] p1) "__init__" ap) (e :: es) kws pos) pos2])
    (he : ∀ (cc c : Addr) (A : Around) (outer : List Env) (s : Shared) (H : Hp) (E : XK) (B : Addr → Prop) (x : Addr), Room k (A.deeper (envF (nfo st "__init__" qual cc c) f s.heap.objs.size)) → DA (ncx (L2N.CX P w) P w K mg base Nm (nfo st "__init__" qual cc c) f A outer s H E) ⟨K, C, N, B, x, 0⟩ (fun cls d _ H => E cls d H) (e :: es) mr ∧ DK (ncx (L2N.CX P w) P w K mg base Nm (nfo st "__init__" qual cc c) f A outer s H E) ⟨K, C, N, B, x, 0⟩ (fun cls d _ H => E cls d H) kws mk)
    (hall : ∀ env, (backToKw pos (keywordEach kws env)).all (·.1.isSome) = true := by intro _; rfl) (hks : ∀ env, (backToKw pos (keywordEach kws env)).filterMap (·.1) = ks := by intro _; rfl)
    (hstar : ∀ env, starEach (e :: es) env = (false, eval e env) :: starEach es env := by intro _; rfl) (hpl : ∀ env, ((backTo pos (starEach (e :: es) env)).any (·.1) || (backToKw pos (keywordEach kws env)).any (·.1.isNone)) = false := by intro _; rfl) {pl : Env → Sem Bool}
    (hev : ∀ env, eval (.Call (.Attribute (.Call (.Name "super" p0) [] [] p1) "__init__" ap) (e :: es) kws pos) env = (do
      let ov ← attributeBase (.Call (.Name "super" p0) [] [] p1) "__init__" env (eval (.Call (.Name "super" p0) [] [] p1) env)
      standAt ap.atName
      let (f', first) ← holding [ov] (getMethod ov "__init__" (pl env))
      callWith pos f' first (backTo pos (starEach (e :: es) env)) (backToKw pos (keywordEach kws env))) := by intro _; rfl)
    (hsw : ∀ env, swapsWith (.Call (.Attribute (.Call (.Name "super" p0) [] [] p1) "__init__" ap) (e :: es) kws pos) none pos2.line env = pure false := by intro _; rfl) :
    FnOk P w K mg base (L2N.CX P w) (k + 1) f fd (sf :: ps) (SpI K C N cl (arN ps.length) (runS Nm.length cl (aApp n m mr mk) A2 g2)) := by
  subst hl
  obtain ⟨cc, c, oc, dV, kV, doc, pm, ctv, od, an, osl, rfl, lk, hcd, S⟩ := T.ex
  exact fn_supI S lk hcd Sc T.hst T.hsi T.hsub T.hm T.ht2 T.hf2 (Option.isSome_iff_exists.mp T.hcls) F2 hb2 hk hbody (he cc c) hall hks hstar hpl hev hsw
/-- a constant of a class that is a tuple of texts -/
structure TupC (K : PySem.W.Frag) (C : Addr) (nm : Str) (ts : List Str) : Prop where
  ex : ∃ a : Addr, ClX.CVal K C (.type "type") nm (.ref a) (.ref a) ∧ KT K a (ts.map V.str)
theorem rep_texts {c : RC} {M : Addr → Prop} {ρ : List Addr} {H : Hp} : ∀ ts : List Str, All2 (Rep c M ρ H) (ts.map DL.D.str) (ts.map V.str)
  | [] => .nil
  | t :: ts => .cons .str (rep_texts ts)
theorem de_ctup {X : Cx} {c : RC} {W : WX} {x fn : Str} {p' pos : Pos} {cl : String} {ts : List Str} (hK : c.K = X.K) (hg : Gl X x) (hm : X.mg x = some (.ref (c.C cl))) (r : CRead X.K (c.C cl) (.type "type")) (k : TupC X.K (c.C cl) fn ts) (hdb : (x == ("__debug__" : Str)) = false := by decide)
    (hb : attributeBase (.Name x p') fn X.env (eval (.Name x p') X.env) = eval (.Name x p') X.env := by rfl) : DE X c W (.Attribute (.Name x p') fn pos) (eC (.tup (ts.map .str))) := by
  obtain ⟨a, cv, kt⟩ := k.ex
  exact de_cval hg hm r cv (fun M ρ H => Rep.tup (.inr (by rw [hK]; exact kt)) (rep_texts ts)) hdb hb
theorem kfo_all {lv : Nat} : ∀ {ms : List (String × (Ar × FM))}, (∀ p ∈ ms, HasO P w K mg base C N lv p.1 p.2.1 p.2.2) → ∀ k A g, kfn ms k = some (A, g) → HasO P w K mg base C N lv k A g
  | [], _, k, A, g, h => by cases h
  | (k', a') :: r, hh, k, A, g, h => by
    unfold kfn at h
    by_cases e : k' = k
    · subst e; rw [if_pos rfl] at h; cases h; exact hh _ List.mem_cons_self
    · rw [if_neg e] at h; exact kfo_all (fun p hp => hh p (List.mem_cons_of_mem _ hp)) k A g h
end
end DL

set_option Elab.async false
set_option linter.all false
set_option maxRecDepth 100000
set_option maxHeartbeats 4000000
namespace DL
open PySem L2 PyProof.Rows StX ClX NdefX
/-- ==, the right side's class below the left side's: the right side is asked first -/
theorem cmp_first {prog : Program} {w : World} {A : Around} {E : Value → Shared → Prop} {s : Shared} {K : PySem.W.Frag} {x y C D f : Addr} {ox oy : Obj} {od od' : Option Obj} {Q : Value → Shared → Prop} (hr : A.units < cLine) (kin : K.In s.heap) (J1 : PySem.W.InstAt s.heap x ox C od) (J2 : PySem.W.InstAt s.heap y oy D od')
    (hne : C ≠ D) (hs : PySem.W.subIn K (.ref D) (.ref C) = some true) (h2 : PySem.W.findIn K (.ref D) "__eq__" = some (some (.ref f))) (hf : PySem.W.isFn K (.ref f) = true)
    (hc : wpAny (model prog w) A (call (.ref f) [.ref y, .ref x]) (PySem.W.CmpBack Q) E s) : wpAny (model prog w) A (richCompare .Eq (.ref x) (.ref y)) Q E s := by
  unfold richCompare
  refine wpAny_holding (wpAny_bind (wpAny_cRoomFor hr ?_))
  dsimp only [oneThing?, cmpInfo]
  refine wpAny_bind (J1.type A _ E s (fun _ _ h => h) ?_)
  refine wpAny_bind (J2.type A _ E s (fun _ _ h => h) ?_)
  have b : (Value.ref C != Value.ref D) = true := by
    rw [bne_iff_ne]
    intro e
    exact hne (Value.ref.inj e)
  rw [if_pos b]
  refine wpAny_bind (PySem.W.looks_subIn kin hs A _ E s (fun _ _ h => h) ?_)
  rw [if_pos rfl]
  unfold tryCompare
  refine wpAny_bind (wpAny_bind (PySem.W.ifBound_K kin J2 h2 hf (wpAny_mono hc (fun v s' h => ?_) fun _ _ h => h)))
  cases v
  all_goals first
    | exact h.elim
    | exact wpAny_pure (wpAny_bind (wpAny_rule (wpAny_pure h)))
/-- x == y, both of own classes with the same __eq__; cs: the classes that a left side may be of, each with those below it; the right side is asked first where its class is below the left one's -/
def fEqS (cs : List (String × List String)) (A : Ar) (g : FM) : F2 := fun x y G => match x, y with
  | .d (.ins k fs), .d (.ins k' fs') => (match cs.lookup k, cs.lookup k' with
    | some bl, some _ => if A 2 = true then (if k' ∈ bl then resB (toOpt (g [.d (.ins k' fs'), .d (.ins k fs)] G)) else resB (toOpt (g [.d (.ins k fs), .d (.ins k' fs')] G))) else none
    | _, _ => none)
  | _, _ => none
section
variable {X : Cx} {c : RC} {M : Addr → Prop} {ρ : List Addr} {σ : L2.St} {H : Hp} {G : GS} {lv : Nat} {cl : String} {A : Ar} {g : FM} {f : Addr} {Y : Around}
structure EqSub (K : PySem.W.Frag) (C : String → Addr) (f : Addr) (cs : List (String × List String)) : Prop where
  eq : ∀ p ∈ cs, PySem.W.findIn K (.ref (C p.1)) "__eq__" = some (some (.ref f))
  sub : ∀ p ∈ cs, ∀ k' ∈ p.2, PySem.W.subIn K (.ref (C k')) (.ref (C p.1)) = some true ∧ C p.1 ≠ C k'
  not : ∀ p ∈ cs, ∀ p' ∈ cs, p'.1 ∉ p.2 → PySem.W.notFirst K (C p.1) (.ref (C p'.1)) = true
theorem ne_sub {K : PySem.W.Frag} {a b : Addr} (h1 : PySem.W.subIn K (.ref b) (.ref a) = some true) (h2 : PySem.W.subIn K (.ref a) (.ref b) = some false) : a ≠ b := by
  intro e
  subst e
  rw [h1] at h2
  cases h2
theorem lookup_mem {α : Type} {k : String} {b : α} : ∀ {l : List (String × α)}, l.lookup k = some b → (k, b) ∈ l
  | [], h => by cases h
  | (k', b') :: l, h => by
    rw [List.lookup_cons] at h
    by_cases e : (k == k') = true
    · rw [e] at h
      injection h with h
      rw [eq_of_beq e, h]
      exact List.mem_cons_self
    · rw [Bool.eq_false_iff.mpr e] at h
      exact List.mem_cons_of_mem _ (lookup_mem h)
theorem dop_eqS {cs : List (String × List String)} (hK : c.K = X.K) (hr : Room lv X.A) (S : EqSub X.K c.C f cs) (hf : PySem.W.isFn X.K (.ref f) = true)
    (F : FnG X.prog X.w X.K X.mg X.base c.C c.N lv f A g) : OpR X (compareOp .Eq) (V2 c (fEqS cs A g)) := by
  intro pins s σ H x y v u Q I rx ry ⟨M, ρ, G, a, b, sr, ra, rb, q⟩
  unfold fEqS at q
  split at q
  · rename_i k fs k' fs'
    split at q
    · rename_i bl bl' h1 h2
      split at q
      · rename_i hA
        obtain ⟨p, dx, gs, rfl, z, ea, fl⟩ := Rep.of_ins ra
        obtain ⟨p', dx', gs', rfl, z', ea', fl'⟩ := Rep.of_ins rb
        cases (show v = Value.ref p from rx)
        cases (show u = Value.ref p' from ry)
        obtain ⟨ox, od, J⟩ := inst_at I ea
        obtain ⟨ox', od', J'⟩ := inst_at I ea'
        obtain ⟨m, hF⟩ := I.fr
        show wpAny (model X.prog X.w) X.A (richCompare .Eq (.ref p) (.ref p')) (EP X pins σ Q) X.xe s
        split at q
        · rename_i hk
          obtain ⟨hs, hne⟩ := S.sub _ (lookup_mem h1) _ hk
          have sp := spd_opt (A := A) (g := g) (es := [.d (.ins k' fs'), .d (.ins k fs)]) sr (.cons rb (.cons ra .nil)) hA (vq_B q)
          refine cmp_first hr.units0 I.kIn J J' hne hs (S.eq _ (lookup_mem h2)) hf ?_
          rw [hK] at sp
          refine wpAny_mono (wpAny_call (run_fnA (us := [.ref p', .ref p]) (vs := [.ref p', .ref p]) F hr pass0' I (.cons rfl (.cons rfl .nil)) sp)) (fun w s' hw => ?_) fun _ _ x => x
          obtain ⟨z', H', I', rz, ⟨b, e⟩, qz⟩ := hw
          subst e
          cases rz
          exact ⟨.bl b, H', I', rfl, qz⟩
        · rename_i hk
          have sp := spd_opt (A := A) (g := g) (es := [.d (.ins k fs), .d (.ins k' fs')]) sr (.cons ra (.cons rb .nil)) hA (vq_B q)
          refine PySem.W.cmp_K (op := .Eq) hr.units0 hF I.ok.mod.kin J J'.type (S.not _ (lookup_mem h1) _ (lookup_mem h2) hk) (S.eq _ (lookup_mem h1)) hf ?_
          rw [hK] at sp
          refine wpAny_mono (wpAny_call (run_fnA (us := [.ref p, .ref p']) (vs := [.ref p, .ref p']) F hr pass0' I (.cons rfl (.cons rfl .nil)) sp)) (fun w s' hw => ?_) fun _ _ x => x
          obtain ⟨z', H', I', rz, ⟨b, e⟩, qz⟩ := hw
          subst e
          cases rz
          exact ⟨.bl b, H', I', rfl, qz⟩
      · exact q.elim
    · exact q.elim
  · exact q.elim
end
end DL

set_option Elab.async false
set_option linter.all false
set_option maxRecDepth 100000
set_option maxHeartbeats 4000000
/-! tuples cut and joined; == of own classes that share their __eq__, with a plain value at the right -/
namespace DL
open PySem L2 PyProof.Rows StX ClX NdefX
section
variable {X : Cx} {c : RC} {W : WX} {e : Expr} {me : EM} {pos p2 : Pos} {M : Addr → Prop} {ρ : List Addr} {σ : L2.St} {H : Hp} {G : GS} {lv : Nat} {A : Ar} {g : FM} {f : Addr}
def eSlT (m : EM) (lo hi : OM) : EM := fun env G => (m env G).bind fun x G1 => (lo env G1).bind fun l G2 => (hi env G2).bind fun h G3 => match x with
  | .d (.tup xs) => .ok (.d (.tup (cutL xs l h))) G3
  | _ => .st
theorem de_slT {lo hi : Option Expr} {ml mh : OM} (hK : c.K = X.K) (he : DE X c W e me) (hl : DO X c W lo ml) (hh : DO X c W hi mh) : DE X c W (.Subscript e (.Slice lo hi none p2) pos) (eSlT me ml mh) := by
  refine pe_imp (pe_slice sl_tupA he hl hh) fun σ H Q q => ?_
  obtain ⟨M, ρ, G, env, R, q⟩ := q
  refine ⟨M, ρ, G, env, R, (TQ.bind (R := RE c) q).imp fun v H1 ⟨ρ1, G1, e1, g1, s1, r1, q1⟩ => ?_⟩
  refine ⟨M, ρ1, G1, env, R.ge g1 s1, (TQ.bind (R := RO) q1).imp fun l H2 ⟨ρ2, G2, l', g2, s2, r2, q2⟩ => ?_⟩
  refine ⟨M, ρ2, G2, env, (R.ge g1 s1).ge g2 s2, (TQ.bind (R := RO) q2).imp fun h H3 ⟨ρ3, G3, h', g3, s3, r3, q3⟩ => ?_⟩
  obtain rfl : l = l' := r2.symm
  obtain rfl : h = h' := r3.symm
  split at q3
  · have r0 := RepE.grow (RepE.grow r1 g2.gr) g3.gr
    obtain ⟨p, vs, rfl, z, rr⟩ := Rep.of_tup r0
    have hlen := rr.length
    refine ⟨p, vs, rfl, by rw [← hK]; exact z.sq, fun hw => ?_, fun _ p' hp => ?_⟩
    · have hc : ∀ zs : List D, zs.length = vs.length → cutL zs l h = zs := fun zs hz => by
        unfold cutL
        rw [hz, hw.1, hw.2, List.drop_zero, Nat.sub_zero, ← hz, List.take_length]
      rw [hc _ hlen] at q3
      exact q3.ok s3 r0
    · have sm : Same H3 (upd H3 p' (.tup (cutV vs l h))) := same_upd hp
      refine q3.okS s3 sm (Rep.tup (.inl ⟨s3.fresh hp, .inl upd_same⟩) (reps_grow ?_ (Gr.same sm)))
      unfold cutL cutV
      rw [rr.length]
      exact all2_take _ (all2_drop _ rr)
  · exact q3.elim
/-- tuple + tuple -/
def fCat : F2 := fun x y G => match x, y with
  | .d (.tup (a :: xs)), .d (.tup (b :: ys)) => if (a :: xs).length + (b :: ys).length ≤ lstMax then some (.d (.tup ((a :: xs) ++ (b :: ys))), G) else none
  | _, _ => none
theorem all2_app {α β : Type} {R : α → β → Prop} : ∀ {xs : List α} {ys : List β} {us : List α} {vs : List β}, All2 R xs ys → All2 R us vs → All2 R (xs ++ us) (ys ++ vs)
  | _, _, _, _, .nil, k => k
  | _, _, _, _, .cons h t, k => .cons h (all2_app t k)
theorem dop_cat (hK : c.K = X.K) : OpR X (binaryOp .Add) (V2 c fCat) := opr_imp op_catT fun x y H Q q => by
  obtain ⟨M, ρ, G, a, b, s, ra, rb, q⟩ := q
  unfold fCat at q
  split at q
  · rename_i a xs b ys
    split at q
    · rename_i hl
      obtain ⟨p, us, rfl, z, rr⟩ := Rep.of_tup ra
      obtain ⟨p', vs, rfl, z', rr'⟩ := Rep.of_tup rb
      refine ⟨p, p', us, vs, rfl, rfl, by rw [← hK]; exact z.sq, by rw [← hK]; exact z'.sq, ?_, ?_, ?_, ?_⟩
      · cases rr; exact fun h => by cases h
      · rw [← rr.length, ← rr'.length]; exact lst_ok hl
      · cases rr'; exact fun h => by cases h
      · intro _ q' hq
        have sm : Same H (upd H q' (.tup (us ++ vs))) := same_upd hq
        exact q _ _ _ (Ge.same sm) (s.same sm) (Rep.tup (.inl ⟨s.fresh hq, .inl upd_same⟩) (reps_grow (all2_app rr rr') (Gr.same sm)))
    · exact q.elim
  · exact q.elim
/-- x == y: x of a class out of cs, all with the same __eq__; y plain, of the types nt -/
def fEqM (nt : List Tg) (cs : List String) (A : Ar) (g : FM) : F2 := fun x y G => match x, y with
  | .d (.ins k fs), .d b => if k ∈ cs ∧ A 2 = true ∧ noC b = true ∧ tgOf b ∈ nt then resB (toOpt (g [.d (.ins k fs), .d b] G)) else none
  | _, _ => none
theorem dop_eqM {nt : List Tg} {cs : List String} (hK : c.K = X.K) (hr : Room lv X.A) (hn : ∀ k ∈ cs, ∀ t ∈ nt, PySem.W.notFirst X.K (c.C k) (t.v c.C) = true) (hs : ∀ k ∈ cs, PySem.W.findIn X.K (.ref (c.C k)) "__eq__" = some (some (.ref f))) (hf : PySem.W.isFn X.K (.ref f) = true)
    (F : FnG X.prog X.w X.K X.mg X.base c.C c.N lv f A g) : OpR X (compareOp .Eq) (V2 c (fEqM nt cs A g)) := by
  intro pins s σ H x y v u Q I rx ry ⟨M, ρ, G, a, b, sr, ra, rb, q⟩
  unfold fEqM at q
  split at q
  · rename_i k fs b'
    split at q
    · rename_i hk
      obtain ⟨hk, hA, hc, ht⟩ := hk
      have sp := spd_opt (A := A) (g := g) (es := [.d (.ins k fs), .d b']) sr (.cons ra (.cons rb .nil)) hA (vq_B q)
      obtain ⟨p, dx, gs, rfl, z, ea, fl⟩ := Rep.of_ins ra
      cases (show v = Value.ref p from rx)
      obtain ⟨ox, od, J⟩ := inst_at I ea
      obtain ⟨m, hF⟩ := I.fr
      show wpAny (model X.prog X.w) X.A (richCompare .Eq (.ref p) u) (EP X pins σ Q) X.xe s
      refine PySem.W.cmp_K (op := .Eq) hr.units0 hF I.ok.mod.kin J (tyl_of hK I rb ry hc) (hn _ hk _ ht) (hs _ hk) hf ?_
      rw [hK] at sp
      refine wpAny_mono (wpAny_call (run_fnA (us := [.ref p, u]) (vs := [.ref p, y]) F hr pass0' I (.cons rfl (.cons ry .nil)) sp)) (fun w s' hw => ?_) fun _ _ x => x
      obtain ⟨z', H', I', rz, ⟨b, e⟩, qz⟩ := hw
      subst e
      cases rz
      exact ⟨.bl b, H', I', rfl, qz⟩
    · exact q.elim
  · exact q.elim
end
end DL

set_option Elab.async false
set_option linter.all false
set_option maxRecDepth 100000
set_option maxHeartbeats 4000000
/-! == of tuples that hold own instances -/
namespace DL
open PySem PySem.Calls PySem.Spec L2 PyProof.Rows StX ClX NdefX
/-- pair by pair, until two differ -/
def EqL (prog : Program) (w : World) (A : Around) (E : Value → Shared → Prop) : List (Value × Value) → (Bool → Shared → Prop) → Shared → Prop
  | [], Q, s => Q true s
  | (x, y) :: r, Q, s => wpAny (model prog w) A (eqBool x y) (fun k s' => if k = true then EqL prog w A E r Q s' else Q false s') E s
theorem tup_eq_in {prog : Program} {w : World} (l b : Addr) (its its2 : Array Value) : MeetsIn prog w (Builtin.«tuple.__eq__» ⟨[.ref l, .ref b], []⟩) (fun A R s => IsTup s.heap l its ∧ IsTup s.heap b its2 ∧
    EqL prog w A.in1 (fun e s' => R (.error e) s') (its.toList.zip its2.toList) (fun k s' => R (.ok (.ret (.bool (k && (its.size == its2.size))))) s') s) :=
  .of_wp fun A R s ⟨t1, t2, h⟩ => by
    unfold Builtin.«tuple.__eq__»
    refine wpAny_bind (wpAny_pure ?_)
    refine wpAny_bind (wpAny_isInstance (T := "tuple") (U := "tuple") (by obtain ⟨o, h1, h2, _⟩ := t2; exact ⟨o, h1, h2⟩) F.isi_sub_tuple ?_)
    rw [if_neg (show ¬ ((!true) = true) by decide)]
    refine wpAny_bind (tupleItemsOf_ t1 ?_)
    refine wpAny_bind (tupleItemsOf_ t2 ?_)
    refine wpAny_bind ?_
    refine wpAny_forIn_list _ (fun rest st s => st = (none, ()) ∧ EqL prog w A.in1 (fun e s' => R (.error e) s') rest (fun k s' => R (.ok (.ret (.bool (k && (its.size == its2.size))))) s') s) _ ?step ?nil _ _ ⟨rfl, h⟩
    case nil =>
      rintro _ s ⟨rfl, q⟩
      refine wpAny_pure ⟨_, rfl, ?_⟩
      exact q
    case step =>
      rintro ⟨x, y⟩ rest _ s ⟨rfl, q⟩
      refine wpAny_bind (wpAny_mono q (fun k s' q => ?_) fun _ _ y => y)
      cases k with
      | true =>
        rw [if_neg (show ¬ ((!true) = true) by decide)]
        exact wpAny_pure ⟨rfl, q⟩
      | false =>
        rw [if_pos (show ((!false) = true) by decide)]
        refine wpAny_bind (wpAny_pure (wpAny_pure ?_))
        exact wpAny_pure ⟨_, rfl, q⟩
/-- a scalar field in which two instances differ: they are two objects -/
def df : List D → List D → Bool
  | .int a :: xs, .int b :: ys => decide (a ≠ b) || df xs ys
  | _ :: xs, _ :: ys => df xs ys
  | _, _ => false
open Classical in
/-- two items: bools, or two of an own class with its own __eq__ that leaves the store -/
noncomputable def elE (cl : String) (A : Ar) (g : FM) : D → D → GS → Option Bool
  | .bl a, .bl b, _ => some (a == b)
  | .ins k fs, .ins k' fs', G => if h : k = cl ∧ k' = cl ∧ A 2 = true ∧ ∃ b, g [.d (.ins cl fs), .d (.ins cl fs')] G = .ok (.d (.bl b)) G ∧ (b = true ∨ df fs fs' = true) then some (choose h.2.2.2) else none
  | _, _, _ => none
open Classical in
theorem elE_ins {cl : String} {A : Ar} {g : FM} {fs fs' : List D} {G : GS} {b : Bool} (hA : A 2 = true) (h : g [.d (.ins cl fs), .d (.ins cl fs')] G = .ok (.d (.bl b)) G) (hd : b = true ∨ df fs fs' = true) : elE cl A g (.ins cl fs) (.ins cl fs') G = some b := by
  have e : ∃ b, g [.d (.ins cl fs), .d (.ins cl fs')] G = .ok (.d (.bl b)) G ∧ (b = true ∨ df fs fs' = true) := ⟨b, h, hd⟩
  show (if h : cl = cl ∧ cl = cl ∧ A 2 = true ∧ ∃ b, g [.d (.ins cl fs), .d (.ins cl fs')] G = .ok (.d (.bl b)) G ∧ (b = true ∨ df fs fs' = true) then some (choose h.2.2.2) else none) = some b
  rw [dif_pos ⟨rfl, rfl, hA, e⟩]
  have z := (Classical.choose_spec e).1
  have z := h.symm.trans z
  injection z with z
  injection z with z
  injection z with z
  rw [← z]
noncomputable def elL (cl : String) (A : Ar) (g : FM) : List D → List D → GS → Option Bool
  | x :: xs, y :: ys, G => (elE cl A g x y G).bind fun b => if b = true then elL cl A g xs ys G else some false
  | _, _, _ => some true
/-- tuple == tuple -/
noncomputable def fEqT (cl : String) (A : Ar) (g : FM) : F2 := fun x y G => match x, y with
  | .d (.tup xs), .d (.tup ys) => (elL cl A g xs ys G).map fun b => (.d (.bl (b && (xs.length == ys.length))), G)
  | _, _ => none
section
variable {X : Cx} {c : RC} {M : Addr → Prop} {ρ : List Addr} {σ : L2.St} {H : Hp} {G : GS} {lv : Nat} {cl : String} {A : Ar} {g : FM} {f : Addr} {Y : Around}
theorem df_ne {p p' dx dx' : Addr} {C C' : Addr} {gs gs' : List (Str × V)} : ∀ {fs fs' : List D} {vs vs' : List V}, All2 (Rep c M ρ H) fs vs → All2 (Rep c M ρ H) fs' vs' → df fs fs' = true → vs ≠ vs'
  | [], _, _, _, _, _, h => by cases h
  | x :: xs, [], _, _, _, _, h => by cases x <;> cases h
  | x :: xs, y :: ys, _, _, .cons r t, .cons r' t', h => by
    intro e
    injection e with e1 e2
    subst e1
    have ih := df_ne (p := p) (p' := p') (dx := dx) (dx' := dx') (C := C) (C' := C') (gs := gs) (gs' := gs') t t'
    unfold df at h
    split at h
    · rename_i a _ b _ h1 h2
      injection h1 with h1 h3
      injection h2 with h2 h4
      subst h1 h2 h3 h4
      have z : V.int a = V.int b := r.of_int.symm.trans r'.of_int
      injection z with z
      subst z
      simp only [ne_eq, not_true_eq_false, decide_false, Bool.false_or] at h
      exact ih h e2
    · rename_i h1 h2
      injection h1 with h1 h3
      injection h2 with h2 h4
      subst h3 h4
      exact ih h e2
    · cases h
theorem all2_snd : ∀ {fs : List D} {gs : List (Str × V)}, All2 (fun p q => Rep c M ρ H p q.2) fs gs → All2 (Rep c M ρ H) fs (gs.map Prod.snd)
  | _, _, .nil => .nil
  | _, _, .cons h t => .cons h (all2_snd t)
theorem fl_vals {k : String} {fs : List D} {gs : List (Str × V)} (fl : Flds c M ρ H k fs gs) : All2 (Rep c M ρ H) fs (gs.map Prod.snd) := by
  obtain ⟨_, r⟩ := fl
  exact all2_snd r
/-- one pair -/
theorem elE_run {pins : List (Addr × Obj)} {s : Shared} {x y : D} {v v' : V} {u u' : Value} {b : Bool} (hK : c.K = X.K) (fr : Y.frames = X.A.frames) (hr : Room lv Y) (hs : PySem.W.findIn X.K (.ref (c.C cl)) "__eq__" = some (some (.ref f))) (hf : PySem.W.isFn X.K (.ref f) = true) (F : FnG X.prog X.w X.K X.mg X.base c.C c.N lv f A g)
    (I : Inv X pins σ H s) (sr : SR c M ρ G H) (rx : Rep c M ρ H x v) (ry : Rep c M ρ H y v') (ux : RelV v u) (uy : RelV v' u') (h : elE cl A g x y G = some b) :
    wpAny (model X.prog X.w) Y (eqBool u u') (fun k s' => k = b ∧ ∃ H' ρ', Inv X pins σ H' s' ∧ Ge M ρ H ρ' H' ∧ SR c M ρ' G H') X.xe s := by
  unfold elE at h
  split at h
  · rename_i _ a b'
    injection h with h
    cases rx.of_bl
    cases ry.of_bl
    cases ux
    cases uy
    exact SeqAt.EqAt.inModel (SeqAt.EqAt.bool_bool a b') X.prog X.w _ _ ⟨h, H, ρ, I, Ge.refl, sr⟩
  · rename_i _ k fs k' fs'
    split at h
    · rename_i hh
      injection h with h
      obtain ⟨rfl, rfl, hA, hex⟩ := hh
      have hb := Classical.choose_spec hex
      rw [h] at hb
      obtain ⟨hg, hd⟩ := hb
      obtain ⟨p, dx, gs, rfl, z, ea, fl⟩ := Rep.of_ins rx
      obtain ⟨p', dx', gs', rfl, z', ea', fl'⟩ := Rep.of_ins ry
      cases (show u = Value.ref p from ux)
      cases (show u' = Value.ref p' from uy)
      unfold eqBool
      refine wpAny_holding ?_
      by_cases hp : p = p'
      · subst hp
        rw [if_pos (beq_self_eq_true _)]
        refine wpAny_bind (wpAny_rule (wpAny_pure ⟨?_, H, ρ, I, Ge.refl, sr⟩))
        rcases hd with hd | hd
        · exact hd.symm
        · rw [ea] at ea'
          injection ea' with e
          injection e with _ _ e
          subst e
          exact absurd rfl (df_ne (p := p) (p' := p) (dx := dx) (dx' := dx) (C := p) (C' := p) (gs := gs) (gs' := gs) (fl_vals fl) (fl_vals fl') hd)
      · rw [if_neg (show ¬ (Value.ref p == Value.ref p') = true from fun e => hp (by have := eq_of_beq e; injection this))]
        obtain ⟨ox, od, J⟩ := inst_at I ea
        obtain ⟨ox', od', J'⟩ := inst_at I ea'
        obtain ⟨m, hF⟩ := I.fr
        have sp := spd_opt (A := A) (g := g) (es := [.d (.ins k' fs), .d (.ins k' fs')]) (Q := fun v H' => v = .bl b ∧ ∃ ρ', Ge M ρ H ρ' H' ∧ SR c M ρ' G H') sr (.cons rx (.cons ry .nil)) hA (by
          rw [hg]
          intro v ρ' H' ge s r
          exact ⟨Rep.of_bl r, ρ', ge, s⟩)
        refine wpAny_bind (PySem.W.cmp_K (op := .Eq) hr.units0 hF I.ok.mod.kin J J'.type (by unfold PySem.W.notFirst; rw [beq_self_eq_true]; rfl) hs hf ?_)
        rw [hK] at sp
        refine wpAny_mono (wpAny_call (run_fnB (us := [.ref p, .ref p']) (vs := [.ref p, .ref p']) fr F hr pass0' I (.cons rfl (.cons rfl .nil)) sp)) (fun w s' hw => ?_) fun _ _ x => x
        obtain ⟨z', H', I', rz, e, ρ', ge, sr'⟩ := hw
        subst e
        cases rz
        exact wpAny_truthy_bool ⟨rfl, H', ρ', I', ge, sr'⟩
    · cases h
  · cases h
theorem elL_nil {ys : List D} : elL cl A g [] ys G = some true := by cases ys <;> rfl
theorem elL_nil2 {x : D} {xs : List D} : elL cl A g (x :: xs) [] G = some true := rfl
theorem elL_cons {x y : D} {xs ys : List D} : elL cl A g (x :: xs) (y :: ys) G = (elE cl A g x y G).bind fun b => if b = true then elL cl A g xs ys G else some false := rfl
theorem eqL_nil {prog : Program} {w : World} {B : Around} {E : Value → Shared → Prop} {Q : Bool → Shared → Prop} {s : Shared} : EqL prog w B E [] Q s = Q true s := rfl
theorem eqL_cons {prog : Program} {w : World} {B : Around} {E : Value → Shared → Prop} {Q : Bool → Shared → Prop} {s : Shared} {x y : Value} {r : List (Value × Value)} : EqL prog w B E ((x, y) :: r) Q s = wpAny (model prog w) B (eqBool x y) (fun k s' => if k = true then EqL prog w B E r Q s' else Q false s') E s := rfl
theorem elL_run {pins : List (Addr × Obj)} {b : Bool} {Q : Bool → Shared → Prop} (hK : c.K = X.K) (fr : Y.frames = X.A.frames) (hr : Room lv Y) (hs : PySem.W.findIn X.K (.ref (c.C cl)) "__eq__" = some (some (.ref f))) (hf : PySem.W.isFn X.K (.ref f) = true) (F : FnG X.prog X.w X.K X.mg X.base c.C c.N lv f A g)
    (xs : List D) : ∀ {ys : List D} {vs ws : List V} {us zs : List Value} {s : Shared} {H : Hp} {ρ : List Addr}, Inv X pins σ H s → SR c M ρ G H → All2 (Rep c M ρ H) xs vs → All2 (Rep c M ρ H) ys ws → Vals vs us → Vals ws zs → elL cl A g xs ys G = some b →
      (∀ s' H' ρ', Inv X pins σ H' s' → Ge M ρ H ρ' H' → SR c M ρ' G H' → Q b s') → EqL X.prog X.w Y X.xe (us.zip zs) Q s := by
  induction xs with
  | nil =>
    intro ys vs ws us zs s H ρ I sr r1 r2 u1 u2 h q
    rw [elL_nil] at h
    cases r1
    cases u1
    rw [List.zip_nil_left, eqL_nil, show true = b by injection h]
    exact q s H ρ I Ge.refl sr
  | cons x xs ih =>
    intro ys vs ws us zs s H ρ I sr r1 r2 u1 u2 h q
    cases r2 with
    | nil =>
      rw [elL_nil2] at h
      cases u2
      rw [List.zip_nil_right, eqL_nil, show true = b by injection h]
      exact q s H ρ I Ge.refl sr
    | cons ry ty =>
      cases r1 with
      | cons rx tx =>
        cases u1 with
        | cons ux tu =>
          cases u2 with
          | cons uy tv =>
            rw [elL_cons] at h
            rw [List.zip_cons_cons, eqL_cons]
            obtain ⟨k, e, h⟩ := Option.bind_eq_some_iff.mp h
            refine wpAny_mono (elE_run hK fr hr hs hf F I sr rx ry ux uy e) (fun k' s' hk => ?_) fun _ _ x => x
            obtain ⟨rfl, H', ρ', I', ge, sr'⟩ := hk
            cases k' with
            | true =>
              rw [if_pos rfl] at h
              rw [if_pos rfl]
              exact ih I' sr' (reps_grow tx ge.gr) (reps_grow ty ge.gr) tu tv h fun s2 H2 ρ2 I2 g2 sr2 => q s2 H2 ρ2 I2 (ge.trans g2) sr2
            | false =>
              rw [if_neg (by decide)] at h
              rw [if_neg (by decide)]
              rw [show false = b by injection h]
              exact q s' H' ρ' I' ge sr'
theorem dop_eqT (hK : c.K = X.K) (hr : Room (lv + 1) X.A) (hs : PySem.W.findIn X.K (.ref (c.C cl)) "__eq__" = some (some (.ref f))) (hf : PySem.W.isFn X.K (.ref f) = true)
    (F : FnG X.prog X.w X.K X.mg X.base c.C c.N lv f A g) : OpR X (compareOp .Eq) (V2 c (fEqT cl A g)) := by
  intro pins s σ H x y v u Q I rx ry ⟨M, ρ, G, a, b, sr, ra, rb, q⟩
  unfold fEqT at q
  split at q
  · rename_i xs ys
    cases e : elL cl A g xs ys G with
    | none => rw [e] at q; exact q.elim
    | some k =>
      rw [e] at q
      obtain ⟨p, vs, rfl, z, rr⟩ := Rep.of_tup ra
      obtain ⟨p', ws, rfl, z', rr'⟩ := Rep.of_tup rb
      cases (show v = Value.ref p from rx)
      cases (show u = Value.ref p' from ry)
      obtain ⟨its, r, pl, _⟩ := I.tuple (show SqT X.K H p vs by rw [← hK]; exact z.sq)
      obtain ⟨its', r', pl', _⟩ := I.tuple (show SqT X.K H p' ws by rw [← hK]; exact z'.sq)
      show wpAny (model X.prog X.w) X.A (richCompare .Eq (.ref p) (.ref p')) (EP X pins σ Q) X.xe s
      have t1 : s.TypeIs (.ref p) "tuple" := by obtain ⟨o, h1, h2, _⟩ := pl; exact ⟨o, h1, h2⟩
      have t2 : s.TypeIs (.ref p') "tuple" := by obtain ⟨o, h1, h2, _⟩ := pl'; exact ⟨o, h1, h2⟩
      refine wpAny_richCompare_same_room t1 t2 PySem.F.slot_tuple_eq ?_ hr.units0
      refine call_meetsIn PySem.F.slot_tuple_eq t1 PySem.F.entry_tuple_eq (PySem.F.args_tuple_eq_2 _ _) (tup_eq_in p p' its.toArray its'.toArray) ⟨pl, pl', ?_⟩
      refine elL_run (Y := X.A.in1) hK rfl hr.in1 hs hf F _ I sr rr rr' r r' e fun s' H' ρ' I' ge sr' => ?_
      have l1 : its.toArray.size = xs.length := by rw [List.size_toArray, ← r.length, rr.length]
      have l2 : its'.toArray.size = ys.length := by rw [List.size_toArray, ← r'.length, rr'.length]
      refine ⟨fun h => (by cases h), .bl (k && (xs.length == ys.length)), H', I', ?_, q _ ρ' H' ge sr' Rep.bl⟩
      rw [l1, l2]
      rfl
  · exact q.elim
end
/-- a def whose only parameter is a star -/
theorem bind_star0 {B : List Value → Sem (List (Str × Value))} {pv : Str} (h0 : B [] = (newTuple [] >>= fun t => pure [(pv, t)])) (h1 : ∀ (r : Value) (rs : List Value), B (r :: rs) = (newTuple (r :: rs) >>= fun t => pure [(pv, t)])) :
    ∀ (us rest : List Value), us.length = ([] : List Str).length → B (us ++ rest) = (newTuple rest >>= fun t => pure (([] : List Str).zip us ++ [(pv, t)]))
  | [], [], _ => h0
  | [], r :: rs, _ => h1 r rs
  | _ :: _, _, h => by cases h
end DL

set_option Elab.async false
set_option linter.all false
set_option maxRecDepth 100000
set_option maxHeartbeats 4000000
namespace DL
open PySem L2 PyProof.Rows StX ClX

/-! ### the frame's own lists -/
section
variable {X : Cx} {c : RC} {W : WX} {e o a : Expr} {es : List Expr} {sts : List Stmt} {me mi : EM} {mr : AM} {mb : SM} {pos p p2 apos : Pos} {M : Addr → Prop} {ρ : List Addr} {σ : L2.St} {H : Hp} {G : GS} {env : En}
/-- from here on the list is read alone -/
def frzE (i : Nat) (env : En) : En := match (env[i]? : Option Sl) with
  | some (.own (.lst xs)) => env.set i (.ev (.d (.lst xs)))
  | _ => env
theorem rl_frz (i : Nat) (R : Rl c M ρ G env σ H) : ∃ M', (∀ a, M' a → M a) ∧ Rl c M' ρ G (frzE i env) σ H := by
  unfold frzE
  split
  rotate_left
  · exact ⟨M, fun _ h => h, R⟩
  rename_i xs hi
  obtain ⟨oa, h1, h2⟩ := R.e
  obtain ⟨hσ, ⟨hm, hB⟩, vs, hH, rr⟩ := h1 i _ hi
  have hr : oa i ∉ ρ := fun z => (R.s.sep _ z).2 hm
  have cv : Cv c M c (fun a => M a ∧ a ≠ oa i) ρ := ⟨rfl, rfl, rfl, fun a h => ⟨h.1, fun z => h.2.1 z.1, h.2.2⟩⟩
  have gr : Gr M ρ H (fun a => M a ∧ a ≠ oa i) ρ H := ⟨fun _ _ e _ _ => e, fun _ o e => ⟨o, e⟩, ⟨[], by simp, by simp⟩, fun _ h => .inl h.1⟩
  refine ⟨fun a => M a ∧ a ≠ oa i, fun _ h => h.1, R.s.cv cv (fun a h => ⟨(R.s.sep a h).1, fun z => (R.s.sep a h).2 z.1⟩) (fun a z => R.s.mt a z.1) R.s.bt, by simpa using R.len, oa, fun j sl e => ?_, fun j k o u e1 e2 e3 => ?_⟩
  · rcases env_set e with ⟨rfl, rfl⟩ | ⟨hj, e⟩
    · exact ⟨_, hσ, Rep.lst (.inl ⟨⟨hB, fun z => z.2 rfl, hr⟩, .inl hH⟩) (reps_grow rr gr)⟩
    · have h := h1 j sl e
      match sl, h with
      | .no, _ => trivial
      | .ev e, ⟨v, a, b⟩ => exact ⟨v, a, b.grow gr⟩
      | .own (.lst ys), ⟨a, b, vs, d, f⟩ => exact ⟨a, ⟨⟨b.1, fun z => hj (h2 j i _ _ e hi z)⟩, b.2⟩, vs, d, reps_grow f gr⟩
      | .own (.ins k fs), ⟨a, o2, b, dx, gs, d, f⟩ => exact ⟨a, o2, ⟨b, fun z => hj (h2 j i _ _ e hi (o2.trans z))⟩, dx, gs, d, flds_grow f gr⟩
      | .exn k fs, ⟨a, b⟩ => exact ⟨a, b.grow gr⟩
  · rcases env_set e1 with ⟨_, z⟩ | ⟨_, e1⟩
    · cases z
    · rcases env_set e2 with ⟨_, z⟩ | ⟨_, e2⟩
      · cases z
      · exact h2 j k _ _ e1 e2 e3
def sFrz (i : Nat) (m : SM) : SM := fun env G => m (frzE i env) G
theorem dss_frz {m : SM} {i : Nat} (h : DSs X c W sts m) : DSs X c W sts (sFrz i m) := by
  refine pss_imp h fun Dn σ H q => ?_
  obtain ⟨M, ρ, G, env, R, q⟩ := q
  obtain ⟨M', hM, R'⟩ := rl_frz i R
  exact ⟨M', ρ, G, _, R', SQ.grow q ⟨fun _ _ e _ _ => e, fun _ o e => ⟨o, e⟩, ⟨[], by simp, by simp⟩, fun _ h => .inl (hM _ h)⟩⟩

/-- the value is a new list, that nobody else has -/
def RF (c : RC) (ρ0 : List Addr) (H0 : Hp) : (Addr → Prop) → List Addr → Hp → List D × GS → V → Prop := fun M ρ' H' p v => ∃ a vs, v = .ref a ∧ ¬ c.B a ∧ H0 a = none ∧ Ge M ρ0 H0 ρ' H' ∧ H' a = some (.lst vs) ∧ All2 (Rep c (fun b => M b ∨ b = a) ρ' H') p.1 vs ∧ SR c (fun b => M b ∨ b = a) ρ' p.2 H'
abbrev FM' := En → GS → Out (List D × GS)
def tF (c : RC) (W : WX) (m : FM') : TE := fun σ H Q => ∃ M ρ G env, Rl c M ρ G env σ H ∧ TQ (RF c ρ H) c W M ρ σ H (m env G) Q
def DF (X : Cx) (c : RC) (W : WX) (e : Expr) (m : FM') : Prop := PE X e (tF c W m)
/-- the frame has it as its own -/
theorem rl_own {i : Nat} {M : Addr → Prop} {ρ' : List Addr} {H' : Hp} {G' : GS} {a : Addr} {xs : List D} {vs : List V} (R : Rl c M ρ G env σ H) (g : Ge M ρ H ρ' H') (hB : ¬ c.B a) (h0 : H a = none) (hH : H' a = some (.lst vs)) (rr : All2 (Rep c (fun b => M b ∨ b = a) ρ' H') xs vs) (s : SR c (fun b => M b ∨ b = a) ρ' G' H') :
    Gr M ρ H (fun b => M b ∨ b = a) ρ' H' ∧ Rl c (fun b => M b ∨ b = a) ρ' G' (env.set i (.own (.lst xs))) (σ.set i (some (.ref a))) H' := by
  have gr : Gr M ρ H (fun b => M b ∨ b = a) ρ' H' := ⟨fun b o e n _ => g.keep b o e n, g.there, g.grow, fun b z => z.elim .inl fun e => .inr (by rw [e]; exact h0)⟩
  have nr : ∀ b, M b → b ∉ ρ := fun b hm hr => (R.s.sep b hr).2 hm
  have na : ∀ b, M b → b ≠ a := fun b hm e => R.s.mt b hm (by rw [e]; exact h0)
  obtain ⟨oa, h1, h2⟩ := R.e
  have mo : ∀ j o, env[j]? = some (.own o) → M (oa j) := fun j o e => by
    have h := h1 j _ e
    match o, h with
    | .lst ys, ⟨_, b, _⟩ => exact b.1
    | .ins k fs, ⟨_, o2, b, _⟩ => rw [o2]; exact b
  obtain ⟨ob, hb1, hb2⟩ : ∃ ob : Nat → Addr, ob i = a ∧ ∀ j, j ≠ i → ob j = oa j := ⟨fun j => if j = i then a else oa j, if_pos rfl, fun j h => if_neg h⟩
  refine ⟨gr, s, by simpa using R.len, ob, fun j sl e => ?_, fun j k o u e1 e2 e3 => ?_⟩
  · rcases env_set e with ⟨rfl, rfl⟩ | ⟨hj, e⟩
    · have hl : j < env.length := by
        have := (List.getElem?_eq_some_iff.mp e).1
        rwa [List.length_set] at this
      refine ⟨?_, ?_, vs, ?_, rr⟩
      · rw [List.getElem?_set_self (Nat.lt_of_lt_of_le hl R.len), hb1]
      · rw [hb1]; exact ⟨.inr rfl, hB⟩
      · rw [hb1]; exact hH
    · have h := h1 j sl e
      have sg : (σ.set i (some (.ref a)))[j]? = σ[j]? := List.getElem?_set_ne (Ne.symm hj)
      match sl, h with
      | .no, _ => trivial
      | .ev e, ⟨v, x, b⟩ => exact ⟨v, by rw [sg]; exact x, b.grow gr⟩
      | .own (.lst ys), ⟨x, b, vs, d, f⟩ => exact ⟨by rw [sg, hb2 j hj]; exact x, by rw [hb2 j hj]; exact ⟨.inl b.1, b.2⟩, vs, by rw [hb2 j hj]; exact g.keep _ _ d (nr _ b.1), reps_grow f gr⟩
      | .own (.ins k fs), ⟨x, o2, b, dx, gs, d, f⟩ => exact ⟨by rw [sg]; exact x, by rw [hb2 j hj]; exact o2, .inl b, dx, gs, g.keep _ _ d (nr _ b), flds_grow f gr⟩
      | .exn k fs, ⟨x, b⟩ => exact ⟨by rw [sg]; exact x, b.grow gr⟩
  · rcases env_set e1 with ⟨hj, _⟩ | ⟨hj, e1⟩
    · rcases env_set e2 with ⟨hk, _⟩ | ⟨hk, e2⟩
      · rw [hj, hk]
      · rw [hj, hb1, hb2 k hk] at e3
        exact absurd e3.symm (na _ (mo k _ e2))
    · rcases env_set e2 with ⟨hk, _⟩ | ⟨hk, e2⟩
      · rw [hk, hb1, hb2 j hj] at e3
        exact absurd e3 (na _ (mo j _ e1))
      · rw [hb2 j hj, hb2 k hk] at e3
        exact h2 j k _ _ e1 e2 e3
def sOwn (i : Nat) (m : FM') : SM := fun env G => ofE (m env G) env fun p _ => .nx (env.set i (.own (.lst p.1))) p.2
/-- an expression ahead of the rest of a statement, its value new -/
theorem SQ.ofF {m : Out (List D × GS)} {k : List D × GS → GS → OutS} {Dn : Ends} (Rr : Rl c M ρ G env σ H) (h : SQ c W M ρ H (DL.ofE m env k) Dn) :
    TQ (RF c ρ H) c W M ρ σ H m (fun v H1 => ∃ ρ1 G1 e, Ge M ρ H ρ1 H1 ∧ RF c ρ H M ρ1 H1 e v ∧ SQ c W M ρ H (k e G1) Dn) := by
  cases m with
  | ok e G => exact fun v ρ1 H1 g s r => ⟨ρ1, G, e, g, r, h⟩
  | er cl fs G => exact fun dd gs ρ1 H1 g s e f => h M ρ1 σ H1 dd gs g.gr (Rr.ge g s) e f
  | st => exact h
theorem ds_own {m : FM'} {i : Nat} {x : Str} {pos' : Pos} (hN : X.N.Nodup) (hi : X.N[i]? = some x) (hx : Loc X.env.scope x) (he : DF X c W e m) (hs : swapsWith e (some (.Name x pos')) pos.line X.env = pure false := by rfl)
    (hf : X.fn x = true ∨ X.env.scope.names.lookup x = some .local := by first | exact .inl rfl | exact .inr rfl | assumption) : DS X c W (.Assign [.Name x pos'] e pos) (sOwn i m) := by
  refine ps_imp (ps_set hN hi hx he hs hf) fun Dn σ H q => ?_
  obtain ⟨M, ρ, G, env, R, q⟩ := q
  refine ⟨M, ρ, G, env, R, (SQ.ofF R q).imp fun v H1 ⟨ρ1, G1, e1, g1, r1, q1⟩ => ?_⟩
  obtain ⟨a, vs, rfl, hB, h0, g, hH, rr, s⟩ := r1
  obtain ⟨gr, R1⟩ := rl_own (i := i) R g hB h0 hH rr s
  exact q1 _ ρ1 _ H1 gr R1
/-- a new list at a free address -/
theorem rf_new {ρ1 : List Addr} {H1 : Hp} {G1 : GS} {ds : List D} {vs : List V} {a : Addr} (g : Ge M ρ H ρ1 H1) (s : SR c M ρ1 G1 H1) (rr : All2 (Rep c M ρ1 H1) ds vs) (ha : H1 a = none) : SR c M ρ1 G1 (upd H1 a (.lst vs)) ∧ Ge M ρ H ρ1 (upd H1 a (.lst vs)) ∧ RF c ρ H M ρ1 (upd H1 a (.lst vs)) (ds, G1) (.ref a) := by
  have sm : Same H1 (upd H1 a (.lst vs)) := same_upd ha
  have fx := s.fresh ha
  have h0 : H a = none := by
    cases e : H a with
    | none => rfl
    | some o => obtain ⟨o', q⟩ := g.there a o e; rw [ha] at q; cases q
  have g1 : Gr M ρ1 H1 (fun b => M b ∨ b = a) ρ1 (upd H1 a (.lst vs)) := ⟨fun b o q _ _ => sm b o q, fun b o q => ⟨o, sm b o q⟩, ⟨[], by simp, by simp⟩, fun b z => z.elim .inl fun e => .inr (by rw [e]; exact ha)⟩
  refine ⟨s.same sm, g.trans (Ge.same sm), a, vs, rfl, fx.1, h0, g.trans (Ge.same sm), upd_same, reps_grow rr g1, s.len, s.nd, fun b hb => ⟨(s.sep b hb).1, fun z => z.elim (s.sep b hb).2 fun e => fx.2.2 (by rw [← e]; exact hb)⟩, fun i xs e => ?_, fun b z => z.elim (fun z => same_ne sm (s.mt b z)) fun e => by rw [e, upd_same]; simp, fun b z => same_ne sm (s.bt b z)⟩
  obtain ⟨b, us, p, q, r⟩ := s.at_ i xs e
  exact ⟨b, us, p, sm _ _ q, repEs_grow r g1⟩
def nLst (r : AM) : FM' := fun env G => (r env G).bind fun xs G1 => match datas xs with
  | some ds => if ds.length ≤ lstMax then .ok (ds, G1) G1 else .st
  | none => .st
theorem df_lst (ha : DA X c W es mr) : DF X c W (.List es pos) (nLst mr) := by
  refine pe_imp (pe_lst ha) fun σ H Q q => ?_
  obtain ⟨M, ρ, G, env, R, q⟩ := q
  refine ⟨M, ρ, G, env, R, ?_⟩
  unfold nLst at q
  cases hm : mr env G with
  | st => rw [hm] at q; exact q
  | er cl fs G1 => rw [hm] at q; exact q
  | ok xs G1 =>
    rw [hm] at q
    intro v ρ1 H1 g1 s1 r1
    have q1 : TQ (RF c ρ H) c W M ρ σ H (match datas xs with
      | some ds => if ds.length ≤ lstMax then .ok (ds, G1) G1 else .st
      | none => .st) Q := q
    split at q1
    · rename_i ds hd
      split at q1
      · rename_i hl
        have rr := datas_rep hd r1
        refine ⟨by rw [← rr.length]; exact lst_ok hl, fun p hp => ?_⟩
        obtain ⟨s2, g2, rf⟩ := rf_new g1 s1 rr hp
        exact q1 (.ref p) ρ1 _ g2 s2 rf
      · exact q1.elim
    · exact q1.elim
def nLc (k : Nat) (vs : List Nat) (mr : LM) (mt : BM) (me : EM) : FM' := eLcG (fun ys G => .ok (ys, G) G) k vs mr mt me
theorem finF {k : Nat} {vs : List Nat} {mt : BM} {me : EM} {mr : LM} {Q : VK} : ∀ (ρ1 ρ' : List Addr) (G1 G' : GS) (H1 H2 : Hp) (D : Addr) (done : List DL.D) (envw : En) (σw : L2.St), Ge M ρ H ρ1 H1 → SR c M ρ1 G1 H1 → H1 D = none → LcI c M ρ1 H1 D ρ' G' envw σw H2 done → TQ (RF c ρ H) c W M ρ1 σ H1 (.ok (done, G') G') Q → Q (.ref D) H2 := by
  intro ρ1 ρ' G1 G' H1 H2 D done envw σw g1 s1 hD L q6
  obtain ⟨acc, hA, ra⟩ := L.at_
  have fx := s1.fresh hD
  have sM : SR c M ρ' G' H2 := L.s.cv cv_less (fun a h => ⟨(L.s.sep a h).1, fun z => (L.s.sep a h).2 (.inl z)⟩) (fun a z => L.s.mt a (.inl z)) L.s.bt
  have h0 : H D = none := by
    cases e : H D with
    | none => rfl
    | some o => obtain ⟨o', q⟩ := g1.there D o e; rw [hD] at q; cases q
  exact q6 (.ref D) ρ' H2 L.g sM ⟨D, acc, rfl, fx.1, h0, g1.trans L.g, hA, ra, L.s⟩
theorem ds_ownLc {k i : Nat} {tg elt : Expr} {ifs : List Expr} {mt : BM} {mr : LM} {scope : Scope} {own : List (Str × Nat)} {y : Str} {py spos : Pos} (hc : X.calm = true) (hN : X.N.Nodup) (hy : X.N[i]? = some y) (hyl : X.env.scope.names.lookup y = some .local)
    (hsw : swapsWith (.ListComp elt [⟨tg, e, ifs, 0⟩] scope pos) (some (.Name y py)) spos.line X.env = pure true) (hi : DI X c W tg e mr) (ok : BlkOk X.N X.env.scope scope own) (hk : k ∈ own.map (·.2))
    (hg : ∀ (s : Shared) (H : Hp) (C : Addr) (cl : List (Str × Addr)) (fp : List Addr), PG (X.blk s H scope (compEnvC scope cl C X.env) fp) tg (gName k)) (ht : ∀ (s : Shared) (H : Hp) (C : Addr) (cl : List (Str × Addr)) (fp : List Addr), DTs (X.blk s H scope (compEnvC scope cl C X.env) fp) c ifs mt)
    (he : ∀ (s : Shared) (H : Hp) (C : Addr) (cl : List (Str × Addr)) (fp : List Addr), DE (X.blk s H scope (compEnvC scope cl C X.env) fp) c W0 elt me) (hs : ∀ x, foldedSetIterable e X.env x = pure x := by intro _; rfl) :
    DS X c W (.Assign [.Name y py] (.ListComp elt [⟨tg, e, ifs, 0⟩] scope pos) spos) (sOwn i (nLc k (own.map (·.2)) mr mt me)) := by
  refine ps_imp (ps_setLc hc hN hy hyl hsw hi ok hg ht he hs) fun Dn σ H q => ?_
  obtain ⟨M, ρ, G, env, R, q⟩ := q
  have q' := SQ.ofF R q
  refine tlc_ofG (Rr := RF c ρ H) (Fin := fun ys G => .ok (ys, G) G) R (fun ρ1 ρ' G1 G' H1 H2 D done g1 s1 hD L q6 => finF (k := k) (vs := own.map (·.2)) (mt := mt) (me := me) (mr := mr) ρ1 ρ' G1 G' H1 H2 D done _ _ g1 s1 hD L q6) hk (fun R q => q) (q'.imp fun v H1 ⟨ρ1, G1, e1, g1, r1, q1⟩ => ?_)
  obtain ⟨a, vs, rfl, hB, h0, g, hH, rr, s⟩ := r1
  obtain ⟨gr, R1⟩ := rl_own (i := i) R g hB h0 hH rr s
  exact q1 _ ρ1 _ H1 gr R1
end
end DL

set_option Elab.async false
set_option linter.all false
set_option maxRecDepth 100000
set_option maxHeartbeats 4000000
namespace DL
open PySem L2 PyProof.Rows StX ClX

def oL (i : Nat) (env : En) : Option (List D) := match (env[i]? : Option Sl) with
  | some (.own (.lst xs)) => some xs
  | _ => none
theorem oL_at {i : Nat} {env : En} {xs : List D} (h : oL i env = some xs) : env[i]? = some (.own (.lst xs)) := by
  unfold oL at h
  split at h
  · rename_i ys e; cases h; exact e
  · cases h
section
variable {X : Cx} {c : RC} {W : WX} {e o a : Expr} {es : List Expr} {sts : List Stmt} {me mi : EM} {mr : AM} {mb : SM} {pos p p2 apos : Pos} {M : Addr → Prop} {ρ : List Addr} {σ : L2.St} {H : Hp} {G : GS} {env : En}
/-- the frame's own list, and how it is written -/
theorem rl_put {i : Nat} {xs : List D} (R : Rl c M ρ G env σ H) (hi : oL i env = some xs) : ∃ l vs, σ[i]? = some (some (V.ref l)) ∧ M l ∧ l ∉ ρ ∧ H l = some (.lst vs) ∧ All2 (Rep c M ρ H) xs vs ∧
    ∀ (ρ1 : List Addr) (G1 : GS) (H1 : Hp) (ys : List D) (us ws : List V), Rl c M ρ1 G1 env σ H1 → H1 l = some (.lst ws) → All2 (Rep c M ρ1 H1) ys us → Gr M ρ1 H1 M ρ1 (upd H1 l (.lst us)) ∧ Rl c M ρ1 G1 (env.set i (.own (.lst ys))) σ (upd H1 l (.lst us)) := by
  have hi := oL_at hi
  obtain ⟨oa, h1, h2⟩ := R.e
  obtain ⟨hσ, ⟨hm, hB⟩, vs, hH, rr⟩ := h1 i _ hi
  refine ⟨oa i, vs, hσ, hm, fun z => (R.s.sep _ z).2 hm, hH, rr, fun ρ1 G1 H1 ys us ws R1 hw ry => ?_⟩
  have gw := gr_own (ρ := ρ1) (o := .lst us) hm hw
  obtain ⟨ob, k1, k2⟩ := R1.e
  have eo : ob i = oa i := by
    obtain ⟨hσ', _⟩ := k1 i _ hi
    rw [hσ] at hσ'
    injection hσ' with z
    injection z with z
    injection z with z
    exact z.symm
  refine ⟨gw, R1.s.own hm hw, by simpa using R1.len, ob, fun j sl e => ?_, fun j k o u e1 e2 e3 => ?_⟩
  · rcases env_set e with ⟨rfl, rfl⟩ | ⟨hj, e⟩
    · obtain ⟨hσ', hmB, _⟩ := k1 j _ hi
      exact ⟨hσ', hmB, us, by rw [eo]; exact upd_same, reps_grow ry gw⟩
    · have h := k1 j sl e
      match sl, h with
      | .no, _ => trivial
      | .ev e, ⟨v, x, b⟩ => exact ⟨v, x, b.grow gw⟩
      | .own (.lst zs), ⟨x, b, vs, d, f⟩ => exact ⟨x, b, vs, by rw [upd_ne (fun z => hj (k2 j i _ _ e hi (z.trans eo.symm)))]; exact d, reps_grow f gw⟩
      | .own (.ins k fs), ⟨x, o2, b, dx, gs, d, f⟩ => exact ⟨x, o2, b, dx, gs, by rw [upd_ne (fun z => hj (k2 j i _ _ e hi ((o2.trans z).trans eo.symm)))]; exact d, flds_grow f gw⟩
      | .exn k fs, ⟨x, b⟩ => exact ⟨x, b.grow gw⟩
  · rcases env_set e1 with ⟨hj, _⟩ | ⟨hj, e1⟩
    · rcases env_set e2 with ⟨hk, _⟩ | ⟨hk, e2⟩
      · rw [hj, hk]
      · rw [hj] at e3 ⊢; exact k2 i k _ _ hi e2 e3
    · rcases env_set e2 with ⟨hk, _⟩ | ⟨hk, e2⟩
      · rw [hk] at e3 ⊢; exact k2 j i _ _ e1 hi e3
      · exact k2 j k _ _ e1 e2 e3
/-- one value handed in -/
theorem tq_one {Q : List V → Hp → Prop} (h : TQ (RE c) c W M ρ σ H (me env G) fun v H1 => Q [v] H1) : TQ (RA c) c W M ρ σ H (aCons me aNil env G) Q := by
  unfold aCons
  cases hm : me env G with
  | st => rw [hm] at h; exact h
  | er cl fs G1 => rw [hm] at h; exact h
  | ok x G1 =>
    rw [hm] at h
    intro vs ρ1 H1 g s r
    cases r with
    | cons r t => cases t; exact h _ ρ1 H1 g s r
/-- x.append(e) -/
def sApp (i : Nat) (m : EM) : SM := fun env G => match oL i env with
  | some xs => ofE (m env G) env fun e G1 => (match e with
    | .d x => if xs.length < lstMax then .nx (env.set i (.own (.lst (xs ++ [x])))) G1 else .st
    | _ => .st)
  | none => .st
theorem ds_app {i : Nat} {x : Str} (hv : PE X (.Name x p) (tVar i)) (he : DE X c W e me)
    (hbase : attributeBase (.Name x p) "append" X.env (eval (.Name x p) X.env) = eval (.Name x p) X.env := by rfl)
    (hfew : ((backTo p2 (starEach [e] X.env)).all (fun x => !x.1) && (backToKw p2 (keywordEach [] X.env)).all (fun x => x.1.isSome)
      && decide ([e].length + ([] : List Keyword).length + (if ([] : List Keyword).isEmpty then 0 else 1) < 30)) = true := by rfl)
    (hline : (apos.endLine == p2.line) = true := by rfl) (hs : starEach [e] X.env = (false, eval e X.env) :: starEach [] X.env := by rfl) (hplain : (backTo p2 (starEach [] X.env)).any (·.1) = false := by rfl)
    (hsw : swapsWith (.Call (.Attribute (.Name x p) "append" apos) [e] [] p2) none pos.line X.env = pure false := by rfl) :
    DS X c W (.Expr (.Call (.Attribute (.Name x p) "append" apos) [e] [] p2) pos) (sApp i me) := by
  refine ps_imp (ps_expr (pe_bm PySem.F.plainAttrs_list PySem.F.slot_list_append PySem.F.type_list_append mt_append hv (da_cons he da_nil hs) hbase hfew hline hs hplain) hsw) fun Dn σ H q => ?_
  obtain ⟨M, ρ, G, env, R, q⟩ := q
  unfold sApp at q
  split at q
  rotate_left
  · exact q.elim
  rename_i xs ho
  obtain ⟨l, vs, hσ, hm, hr, hH, rr, put⟩ := rl_put R ho
  refine ⟨.ref l, hσ, .inl ⟨rfl, vs, SqL.of hH⟩, M, ρ, G, env, R, tq_one ((SQ.ofE (R := RE c) R q).imp fun v H1 ⟨ρ1, G1, e1, g1, R1, r1, q1⟩ => ?_)⟩
  split at q1
  · rename_i z
    split at q1
    · rename_i hl
      have h1 := g1.keep _ _ hH hr
      have rr1 := reps_grow rr g1.gr
      obtain ⟨gw, R2⟩ := put ρ1 G1 H1 (xs ++ [z]) (vs ++ [v]) vs R1 h1 (rr1.append (.cons r1 .nil))
      exact ⟨l, vs, v, rfl, rfl, h1, by rw [← rr.length]; exact Nat.lt_of_lt_of_le hl (by decide), q1 M ρ1 σ _ gw R2⟩
    · exact q1.elim
  · exact q1.elim
/-- x[i] = e -/
def sOSub (i : Nat) (mi me : EM) : SM := fun env G => match oL i env with
  | some xs => ofE (me env G) env fun x G1 => ofE (mi env G1) env fun j G2 => (match x, j with
    | .d x, .d (.int j) => (match ixN xs.length j with
      | some j => .nx (env.set i (.own (.lst (xs.set j x)))) G2
      | none => .st)
    | _, _ => .st)
  | none => .st
theorem ds_osub {i : Nat} {x : Str} (hv : PE X (.Name x p2) (tVar i)) (hi : DE X c W a mi) (he : DE X c W e me)
    (ha : ∀ v, assign (.Subscript (.Name x p2) a p) X.env v = (do let ov ← holding [v] (eval (.Name x p2) X.env); let iv ← holding [v, ov] (eval a X.env); standAt p; holding [v, ov, iv] (setItem ov iv v); release [v, ov, iv] []) := by intro _; rfl)
    (hs : swapsWithSole [.Subscript (.Name x p2) a p] e pos.line X.env = pure false := by rfl) (hw : swappedStores [.Subscript (.Name x p2) a p] e X.env = pure none := by rfl)
    (h1 : (assignEach [.Subscript (.Name x p2) a p] X.env).map (·.2) = [assign (.Subscript (.Name x p2) a p) X.env] := by rfl) : DS X c W (.Assign [.Subscript (.Name x p2) a p] e pos) (sOSub i mi me) := by
  refine ps_imp (ps_asg he (pg_sub hv hi set_list ha) hs hw h1) fun Dn σ H q => ?_
  obtain ⟨M, ρ, G, env, R, q⟩ := q
  unfold sOSub at q
  split at q
  rotate_left
  · exact q.elim
  rename_i xs ho
  obtain ⟨l, vs, hσ, hm, hr, hH, rr, put⟩ := rl_put R ho
  refine ⟨M, ρ, G, env, R, (SQ.ofE (R := RE c) R q).imp fun v H1 ⟨ρ1, G1, x1, g1, R1, r1, q1⟩ => ?_⟩
  refine ⟨.ref l, hσ, M, ρ1, G1, env, R1, (SQ.ofE (R := RE c) R1 q1).imp fun iv H2 ⟨ρ2, G2, j2, g2, R2, r2, q2⟩ => ?_⟩
  have r1' := r1.grow g2.gr
  cases x1 with
  | o k => exact (show False from q2).elim
  | d z =>
    cases j2 with
    | o k => exact (show False from q2).elim
    | d w =>
      cases w with
      | int j =>
        have q3 : SQ c W M ρ2 H2 (match ixN xs.length j with
          | some j => OutS.nx (env.set i (.own (.lst (xs.set j z)))) G2
          | none => .st) Dn := q2
        split at q3
        · rename_i n hn
          have h2 := (g1.trans g2).keep _ _ hH hr
          have rr2 := reps_grow rr (g1.trans g2).gr
          obtain ⟨gw, R3⟩ := put ρ2 G2 H2 (xs.set n z) (vs.set n v) vs R2 h2 (All2.set (R := Rep c M ρ2 H2) r1' n rr2)
          cases Rep.of_int r2
          exact ⟨l, vs, j, n, rfl, rfl, h2, by rw [← rr.length]; exact hn, q3 M ρ2 σ _ gw R3⟩
        · exact q3.elim
      | _ => exact (show False from q2).elim
/-- x[e] -/
def eOIx (i : Nat) (mi : EM) : EM := fun env G => match oL i env with
  | some xs => (mi env G).bind fun j G1 => (match j with
    | .d (.int j) => (match atI xs j with
      | some x => .ok (.d x) G1
      | none => .st)
    | _ => .st)
  | none => .st
theorem de_oix {i : Nat} {x : Str} (hK : c.K = X.K) (hv : PE X (.Name x p2) (tVar i)) (hi : DE X c W a mi) (hs : PlainIx a := by intro _ _; rfl) : DE X c W (.Subscript (.Name x p2) a pos) (eOIx i mi) := by
  refine pe_imp (pe_ix ix_list hv hi hs) fun σ H Q q => ?_
  obtain ⟨M, ρ, G, env, R, q⟩ := q
  unfold eOIx at q
  split at q
  rotate_left
  · exact q.elim
  rename_i xs ho
  obtain ⟨l, vs, hσ, hm, hr, hH, rr, put⟩ := rl_put R ho
  refine ⟨.ref l, hσ, M, ρ, G, env, R, (TQ.bind (R := RE c) q).imp fun v H1 ⟨ρ1, G1, e1, g1, s1, r1, q1⟩ => ?_⟩
  split at q1
  · rename_i j
    split at q1
    · rename_i z hz
      cases Rep.of_int r1
      obtain ⟨w, hw, rw'⟩ := atI_all2 (reps_grow rr g1.gr) hz
      exact ⟨l, vs, j, w, rfl, rfl, SqL.of (g1.keep _ _ hH hr), hw, q1.ok s1 rw'⟩
    · exact q1.elim
  · exact q1.elim
/-- len(x) -/
def eOLen (i : Nat) : EM := fun env G => match oL i env with
  | some xs => .ok (.d (.int xs.length)) G
  | none => .st
theorem de_olen {i : Nat} {x f : Str} (hv : PE X (.Name x p2) (tVar i)) (hf : f = ("len" : Str)) (hg : Gl X f) (hm : X.mg f = none) (hb : bootBuiltins f = some (.builtin "len")) (hn : f ≠ "__name__" := by decide) (hdb : (f == ("__debug__" : Str)) = false := by decide)
    (he : starEach [.Name x p2] X.env = (false, eval (.Name x p2) X.env) :: starEach [] X.env := by rfl) (hpl : (backTo pos (starEach [] X.env)).any (·.1) = false := by rfl) : DE X c W (.Call (.Name f p) [.Name x p2] [] pos) (eOLen i) := by
  refine pe_imp (pe_callB call_len_seq hg hm hb (pa_cons hv pa_nil he) hn hdb he hpl) fun σ H Q q => ?_
  obtain ⟨M, ρ, G, env, R, q⟩ := q
  unfold eOLen at q
  split at q
  rotate_left
  · exact q.elim
  rename_i xs ho
  obtain ⟨l, vs, hσ, hm, hr, hH, rr, put⟩ := rl_put R ho
  exact ⟨.ref l, hσ, l, vs, rfl, .inl (SqL.of hH), by rw [← rr.length]; exact q.ok R.s Rep.int⟩
/-- truth of x -/
def bOTru (i : Nat) : BM := fun env G => match oL i env with
  | some xs => .ok (!xs.isEmpty) G
  | none => .st
theorem df_lc {k : Nat} {tg elt : Expr} {ifs : List Expr} {mt : BM} {mr : LM} {scope : Scope} {own : List (Str × Nat)} (hc : X.calm = true) (hN : X.N.Nodup) (hi : DI X c W tg e mr) (ok : BlkOk X.N X.env.scope scope own) (hk : k ∈ own.map (·.2))
    (hg : ∀ (s : Shared) (H : Hp) (C : Addr) (cl : List (Str × Addr)) (fp : List Addr), PG (X.blk s H scope (compEnvC scope cl C X.env) fp) tg (gName k)) (ht : ∀ (s : Shared) (H : Hp) (C : Addr) (cl : List (Str × Addr)) (fp : List Addr), DTs (X.blk s H scope (compEnvC scope cl C X.env) fp) c ifs mt)
    (he : ∀ (s : Shared) (H : Hp) (C : Addr) (cl : List (Str × Addr)) (fp : List Addr), DE (X.blk s H scope (compEnvC scope cl C X.env) fp) c W0 elt me) (hs : ∀ x, foldedSetIterable e X.env x = pure x := by intro _; rfl) :
    DF X c W (.ListComp elt [⟨tg, e, ifs, 0⟩] scope pos) (nLc k (own.map (·.2)) mr mt me) := by
  refine pe_imp (pe_lc hc hN hi ok hg ht he hs) fun σ H Q q => ?_
  obtain ⟨M, ρ, G, env, R, q⟩ := q
  exact tlc_ofG (Rr := RF c ρ H) (Fin := fun ys G => .ok (ys, G) G) R (fun ρ1 ρ' G1 G' H1 H2 D done g1 s1 hD L q6 => finF (k := k) (vs := own.map (·.2)) (mt := mt) (me := me) (mr := mr) ρ1 ρ' G1 G' H1 H2 D done _ _ g1 s1 hD L q6) hk (fun R q => q) q
/-- list(e), its value new -/
def lOf : List EV → Option (List D)
  | [.d (.lst ds)] => some ds
  | [.d (.tup ds)] => some ds
  | _ => none
def nList (r : AM) : FM' := fun env G => (r env G).bind fun xs G1 => match lOf xs with
  | some ds => .ok (ds, G1) G1
  | none => .st
theorem df_list {x : Str} (hK : c.K = X.K) (hg : Gl X x) (hm : X.mg x = none) (hv : bootBuiltins x = some (.type "list")) (ha : DA X c W (a :: es) mr) (hn : x ≠ "__name__" := by decide) (hdb : (x == ("__debug__" : Str)) = false := by decide)
    (he : starEach (a :: es) X.env = (false, eval a X.env) :: starEach es X.env := by rfl) (hpl : (backTo pos (starEach es X.env)).any (·.1) = false := by rfl) : DF X c W (.Call (.Name x p) (a :: es) [] pos) (nList mr) := by
  refine pe_imp (pe_callTy call_list_of hg hm hv ha hn hdb he hpl) fun σ H Q q => ?_
  obtain ⟨M, ρ, G, env, R, q⟩ := q
  refine ⟨M, ρ, G, env, R, ?_⟩
  unfold nList at q
  cases hm : mr env G with
  | st => rw [hm] at q; exact q
  | er cl fs G1 => rw [hm] at q; exact q
  | ok xs G1 =>
    rw [hm] at q
    intro v ρ1 H1 g1 s1 r1
    have q1 : TQ (RF c ρ H) c W M ρ σ H (match lOf xs with
      | some ds => .ok (ds, G1) G1
      | none => .st) Q := q
    cases hl : lOf xs with
    | none => rw [hl] at q1; exact q1.elim
    | some ds =>
      rw [hl] at q1
      clear q hm
      unfold lOf at hl
      split at hl
      · cases hl
        cases r1 with
        | cons r t =>
          cases t
          obtain ⟨b, us, rfl, z, rr⟩ := Rep.of_lst r
          refine ⟨b, us, rfl, .inl (by rw [← hK]; exact z.sq), fun l hl => ?_⟩
          obtain ⟨s2, g2, rf⟩ := rf_new g1 s1 rr hl
          exact q1 (.ref l) ρ1 _ g2 s2 rf
      · cases hl
        cases r1 with
        | cons r t =>
          cases t
          obtain ⟨b, us, rfl, z, rr⟩ := Rep.of_tup r
          refine ⟨b, us, rfl, .inr (by rw [← hK]; exact z.sq), fun l hl => ?_⟩
          obtain ⟨s2, g2, rf⟩ := rf_new g1 s1 rr hl
          exact q1 (.ref l) ρ1 _ g2 s2 rf
      · cases hl
end
end DL

set_option Elab.async false
set_option linter.all false
set_option maxRecDepth 100000
set_option maxHeartbeats 4000000
/-! texts: {x!r}, {x} of an own class -/
namespace DL
open PySem PySem.Calls PySem.Spec L2 PyProof.Rows StX ClX
def chOk (y : Str) : Bool := decide (y.length ≤ 1000) && y.cps.toList.all (fun c => decide (c < 16 ^ 8))
/-- {x!r} -/
def fFmtR : F1 := pure1 fun
  | .str y => if chOk y = true then some (.str (reprText y)) else none
  | .int i => if i.natAbs.log2 < 1920 then some (.str (toString i)) else none
  | .non => some (.str "None")
  | _ => none
/-- {x}, x of an own class with its own __str__ -/
def fFmtO (cl : String) (A : Ar) (g : FM) : F1 := fun x G => match x with
  | .d (.ins k fs) => if k = cl ∧ A 1 = true then resS (toOpt (g [.d (.ins k fs)] G)) else none
  | _ => none
section
variable {X : Cx} {c : RC} {W : WX} {e : Expr} {me : EM} {pos : Pos} {M : Addr → Prop} {ρ : List Addr} {σ : L2.St} {H : Hp} {G : GS} {lv : Nat} {cl : String} {A : Ar} {g : FM} {f : Addr}
theorem chOk_len {y : Str} (h : chOk y = true) : (reprText y).length ≤ 10002 := by
  unfold chOk at h
  rw [Bool.and_eq_true] at h
  have h1 := of_decide_eq_true h.1
  have h2 := PySem.StrLaws.reprText_len y fun c hc => of_decide_eq_true (List.all_eq_true.mp h.2 c hc)
  omega
theorem de_fmtR (he : DE X c W e me) : DE X c W (.FormattedValue e 114 none pos) (eUn fFmtR me) := by
  refine ⟨fun pins s σ H Q I q => ?_⟩
  obtain ⟨M, ρ, G, env, R, q⟩ := q
  have h' : tD c W me σ H fun x H1 => (∃ y : Str, x = .str y ∧ (reprText y).length ≤ sizeLine ∧ Q (.str (reprText y)) H1) ∨ (∃ i : Int, x = .int i ∧ i.natAbs.log2 < 1920 ∧ Q (.str (toString i)) H1) ∨ (x = .non ∧ Q (.str "None") H1) := by
    refine ⟨M, ρ, G, env, R, (TQ.bind (R := RE c) q).imp fun v H1 ⟨ρ1, G1, e1, g1, s1, r1, q1⟩ => ?_⟩
    cases e1 with
    | o i => exact q1.elim
    | d x =>
      cases x with
      | str y =>
        have q2 : TQ (RE c) c W M ρ1 σ H1 (lift ((if chOk y = true then some (DL.D.str (reprText y)) else none).map fun z => (EV.d z, G1))) Q := q1
        split at q2
        · rename_i hl
          exact .inl ⟨y, Rep.of_str r1, Nat.le_trans (chOk_len hl) (by decide), TQ.ok q2 s1 Rep.str⟩
        · exact q2.elim
      | int i =>
        have q2 : TQ (RE c) c W M ρ1 σ H1 (lift ((if i.natAbs.log2 < 1920 then some (DL.D.str (toString i)) else none).map fun z => (EV.d z, G1))) Q := q1
        split at q2
        · rename_i hl
          exact .inr (.inl ⟨i, Rep.of_int r1, hl, TQ.ok q2 s1 Rep.str⟩)
        · exact q2.elim
      | non => exact .inr (.inr ⟨Rep.of_non r1, TQ.ok q1 s1 Rep.str⟩)
      | _ => exact q1.elim
  refine wpAny_FormattedValue_repr (thn (PE.run he pins s σ H _ I h') fun v s1 hv => ?_)
  obtain ⟨x, H1, I1, r1, q⟩ := hv
  rcases q with ⟨y, rfl, hz, q⟩ | ⟨i, rfl, hz, q⟩ | ⟨rfl, q⟩
  · obtain ⟨t, rfl⟩ := r1
    exact pyReprObj_str (wpAny_formatField_str ⟨.str (reprText y), H1, I1.tok _, ⟨_, rfl⟩, q⟩ ⟨.str (reprText y), H1, I1.tok _, ⟨_, rfl⟩, q⟩ hz) hz
  · obtain ⟨t, rfl⟩ := r1
    exact pyReprObj_int hz (wpAny_formatField_str ⟨.str (toString i), H1, I1.tok _, ⟨_, rfl⟩, q⟩ ⟨.str (toString i), H1, I1.tok _, ⟨_, rfl⟩, q⟩ (int_text_fits hz))
  · obtain rfl : v = Value.none := r1
    exact pyReprObj_none (wpAny_formatField_str ⟨.str "None", H1, I1.tok _, ⟨_, rfl⟩, q⟩ ⟨.str "None", H1, I1.tok _, ⟨_, rfl⟩, q⟩ (by decide))
theorem de_fmtO (hK : c.K = X.K) (hr : Room (lv + 1) X.A) (hfm : PySem.W.findIn X.K (.ref (c.C cl)) "__format__" = some (some (.builtin "object.__format__"))) (hmr : PySem.W.mroIn X.K (c.C cl) (.type "object") = some true) (hs : PySem.W.findIn X.K (.ref (c.C cl)) "__str__" = some (some (.ref f))) (hf : PySem.W.isFn X.K (.ref f) = true) (F : FnG X.prog X.w X.K X.mg X.base c.C c.N lv f A g)
    (he : DE X c W e me) : DE X c W (.FormattedValue e (-1) none pos) (eUn (alt1 fFmt (fFmtO cl A g)) me) := by
  refine ⟨fun pins s σ H Q I q => ?_⟩
  obtain ⟨M, ρ, G, env, R, q⟩ := q
  have h' : tD c W me σ H fun x H1 => (∃ y : Str, x = .str y ∧ y.length ≤ sizeLine ∧ Q (.str y) H1) ∨ (∃ i : Int, x = .int i ∧ i.natAbs.log2 < 1920 ∧ Q (.str (toString i)) H1) ∨
      (∃ fs ρ1 G1, SR c M ρ1 G1 H1 ∧ RepE c M ρ1 H1 (.d (.ins cl fs)) x ∧ A 1 = true ∧ VQ c M ρ1 H1 (resS (toOpt (g [.d (.ins cl fs)] G1))) Q) := by
    refine ⟨M, ρ, G, env, R, (TQ.bind (R := RE c) q).imp fun v H1 ⟨ρ1, G1, e1, g1, s1, r1, q1⟩ => ?_⟩
    cases e1 with
    | o i => exact q1.elim
    | d x =>
      cases x with
      | str y =>
        by_cases hl : y.length ≤ 1000000
        · have e1 : fFmt (.d (.str y)) G1 = some (.d (.str y), G1) := by show Option.map _ (if y.length ≤ 1000000 then _ else _) = _; rw [if_pos hl]; rfl
          have q2 : TQ (RE c) c W M ρ1 σ H1 (lift (alt1 fFmt (fFmtO cl A g) (.d (.str y)) G1)) Q := q1
          unfold alt1 at q2
          rw [e1] at q2
          exact .inl ⟨y, Rep.of_str r1, Nat.le_trans hl (by decide), TQ.ok q2 s1 Rep.str⟩
        · have e1 : fFmt (.d (.str y)) G1 = none := by show Option.map _ (if y.length ≤ 1000000 then _ else _) = _; rw [if_neg hl]; rfl
          have q2 : TQ (RE c) c W M ρ1 σ H1 (lift (alt1 fFmt (fFmtO cl A g) (.d (.str y)) G1)) Q := q1
          unfold alt1 at q2
          rw [e1] at q2
          exact q2.elim
      | int i =>
        by_cases hl : i.natAbs.log2 < 1920
        · have e1 : fFmt (.d (.int i)) G1 = some (.d (.str (toString i)), G1) := by show Option.map _ (if i.natAbs.log2 < 1920 then _ else _) = _; rw [if_pos hl]; rfl
          have q2 : TQ (RE c) c W M ρ1 σ H1 (lift (alt1 fFmt (fFmtO cl A g) (.d (.int i)) G1)) Q := q1
          unfold alt1 at q2
          rw [e1] at q2
          exact .inr (.inl ⟨i, Rep.of_int r1, hl, TQ.ok q2 s1 Rep.str⟩)
        · have e1 : fFmt (.d (.int i)) G1 = none := by show Option.map _ (if i.natAbs.log2 < 1920 then _ else _) = _; rw [if_neg hl]; rfl
          have q2 : TQ (RE c) c W M ρ1 σ H1 (lift (alt1 fFmt (fFmtO cl A g) (.d (.int i)) G1)) Q := q1
          unfold alt1 at q2
          rw [e1] at q2
          exact q2.elim
      | ins k fs =>
        have q2 : TQ (RE c) c W M ρ1 σ H1 (lift (if k = cl ∧ A 1 = true then resS (toOpt (g [.d (.ins k fs)] G1)) else none)) Q := q1
        split at q2
        · rename_i hk
          obtain ⟨rfl, hA⟩ := hk
          exact .inr (.inr ⟨fs, ρ1, G1, s1, r1, hA, VQ.of q2⟩)
        · exact q2.elim
      | _ => exact q1.elim
  refine wpAny_FormattedValue_plain (thn (PE.run he pins s σ H _ I h') fun v s1 hv => ?_)
  obtain ⟨x, H1, I1, r1, q⟩ := hv
  rcases q with ⟨y, rfl, hz, q⟩ | ⟨i, rfl, hz, q⟩ | ⟨fs, ρ1, G1, sr, ra, hA, q⟩
  · obtain ⟨t, rfl⟩ := r1
    exact wpAny_formatField_str ⟨.str y, H1, I1, ⟨t, rfl⟩, q⟩ ⟨.str y, H1, I1.tok _, ⟨_, rfl⟩, q⟩ hz
  · obtain ⟨t, rfl⟩ := r1
    exact wpAny_formatField_int hz ⟨.str (toString i), H1, I1.tok _, ⟨_, rfl⟩, q⟩
  · have sp := spd_opt (A := A) (g := g) (es := [.d (.ins cl fs)]) sr (.cons ra .nil) hA (vq_S q)
    obtain ⟨p, dx, gs, rfl, z, ea, fl⟩ := Rep.of_ins ra
    obtain rfl : v = Value.ref p := r1
    obtain ⟨ox, od, J⟩ := inst_at I1 ea
    refine PySem.W.kfo_fieldS hr.in1.units0 I1.kIn J hfm hmr hs hf ?_
    rw [hK] at sp
    refine wpAny_mono (wpAny_call (run_fnB (us := [.ref p]) (vs := [.ref p]) rfl F hr.in1 pass0' (I1.tok _) (.cons rfl .nil) sp)) (fun w s' hw => ?_) fun _ _ x => x
    obtain ⟨z', H', I', rz, ⟨n, e⟩, qz⟩ := hw
    subst e
    obtain ⟨t, rfl⟩ := rz
    exact ⟨.str n, H', I', ⟨t, rfl⟩, qz⟩
/-- what an error's message shows as {x!r} -/
def okR : D → Bool
  | .int i => decide (i.natAbs.log2 < 1920)
  | .str y => decide (y.length ≤ 190) && chOk y
  | .non => true
  | _ => false
theorem fmtR_ok {x : D} {env : En} {G : GS} {j : Nat} (he : env[j]? = some (.ev (.d x))) (hi : okR x = true) : ∃ y : Str, eUn fFmtR (eVar j) env G = .ok (.d (.str y)) G ∧ y.length ≤ 2000 := by
  have ev : ∀ z : Str, fFmtR (.d x) G = some (.d (.str z), G) → eUn fFmtR (eVar j) env G = .ok (.d (.str z)) G := fun z hz => by
    unfold eUn eVar
    rw [he]
    show lift (fFmtR (.d x) G) = _
    rw [hz]
    rfl
  cases x with
  | int i =>
    refine ⟨toString i, ev _ ?_, Nat.le_trans (PyProof.Rows.int_text_len_1921 (of_decide_eq_true hi)) (by decide)⟩
    show Option.map _ (if i.natAbs.log2 < 1920 then _ else _) = _
    rw [if_pos (of_decide_eq_true hi)]
    rfl
  | str y =>
    have hi : (decide (y.length ≤ 190) && chOk y) = true := hi
    rw [Bool.and_eq_true] at hi
    have h1 := of_decide_eq_true hi.1
    have h2 : (y.cps.toList.all fun c => decide (c < 16 ^ 8)) = true := by
      have := hi.2
      unfold chOk at this
      rw [Bool.and_eq_true] at this
      exact this.2
    have h3 := PySem.StrLaws.reprText_len y fun c hc => of_decide_eq_true (List.all_eq_true.mp h2 c hc)
    refine ⟨reprText y, ev _ ?_, by omega⟩
    show Option.map _ (if chOk y = true then _ else _) = _
    rw [if_pos hi.2]
    rfl
  | non => exact ⟨"None", ev _ rfl, by decide⟩
  | _ => cases hi
/-- f() -/
theorem de_call0 {x : Str} {p : Pos} {k : Nat} {n : Ar} (F : FnG X.prog X.w X.K X.mg X.base c.C c.N k f n g) (hK : c.K = X.K) (hr : Room k X.A) (hg : Gl X x) (hm : X.mg x = some (.ref f)) (hk : PySem.W.keepIn X.K (.ref f) = true) (tk : L2N.Takes X W) (hdb : (x == ("__debug__" : Str)) = false := by decide) :
    DE X c W (.Call (.Name x p) [] [] pos) (eCall n g aNil) := by
  refine ⟨fun pins s σ H Q I h => ?_⟩
  refine wpAny_Call_Name_kw (ld_glob I hg hm ?_ hdb)
  obtain ⟨M, ρ, G, env, R, q⟩ := h
  have q1 : TQ (RE c) c W M ρ σ H (if n ([] : List EV).length = true then g [] G else .st) Q := q
  have sp := spd_of (es1 := []) R.s .nil q1
  rw [hK] at sp
  exact PySem.W.callWith_K0 I.kIn hk (wpAny_call (run_fnA (us := []) (vs := []) F hr (L2N.passAt tk σ) I .nil sp))
end
section
variable {P : Program} {w : World} {K : PySem.W.Frag} {mg : Str → Option Value} {base : Heap} {C : String → Addr} {N : String → List Str} {j k : Nat} {f : Addr} {sp : Sp} {CX : CXT} {m : Str} {cl : String} {A : Ar} {g : FM}
theorem fnr_up (F : FnR P w K mg base CX j f sp) (h : j ≤ k) : FnR P w K mg base CX k f sp := fun A outer s H us vs Q E hr => F A outer s H us vs Q E (hr.mono h)
theorem HasM.up (h : HasM P w K mg base C N j m cl A g) (hk : j ≤ k) : HasM P w K mg base C N k m cl A g := ⟨h.cl, h.no, let ⟨f, a, b⟩ := h.fn; ⟨f, a, fnr_up b hk⟩⟩
end
end DL

set_option Elab.async false
set_option linter.all false
set_option maxRecDepth 100000
set_option maxHeartbeats 4000000
/-! keyword-only defaults left out, methods and defs called with keywords, properties -/
namespace DL
open PySem L2 PyProof.Rows StX ClX
/-- constants -/
abbrev CstR : D → V → Prop := fun d v => ∀ (c : RC) (M : Addr → Prop) (ρ : List Addr) (H : Hp), Rep c M ρ H d v
theorem cst_bl {b : Bool} : CstR (.bl b) (.bl b) := fun _ _ _ _ => .bl
theorem cst_int {i : Int} : CstR (.int i) (.int i) := fun _ _ _ _ => .int
theorem cst_str {s : Str} : CstR (.str s) (.str s) := fun _ _ _ _ => .str
theorem cst_non : CstR .non .non := fun _ _ _ _ => .non
def dflF (ds : List D) (g : FM) : FM := fun es G => g (es ++ ds.map EV.d) G
def dflI (ds : List D) (g : IM) : IM := fun es G => g (es ++ ds.map EV.d) G
theorem cst_all {c : RC} {M : Addr → Prop} {ρ : List Addr} {H : Hp} : ∀ {ds : List D} {vs : List V}, All2 CstR ds vs → All2 (RepE c M ρ H) (ds.map EV.d) vs
  | _, _, .nil => .nil
  | _, _, .cons r t => .cons (r c M ρ H) (cst_all t)
/-- the defaults of keyword-only parameters, when none of these is given -/
theorem binds_kw {K : PySem.W.Frag} {fd : FuncData} {ps : List Str} {kws : List (Str × V)} {D : Addr} (hq : ∀ q ∈ kws, ∃ u, PySem.W.nsIn K D q.1 = some (some u) ∧ RelV q.2 u) (n : Nat) (hn : n + kws.length = ps.length)
    (h : ∀ (us ks : List Value), us.length = n → ks.length = kws.length → KwChain D ((kws.map (·.1)).zip ks) (bindArgs fd ⟨us, []⟩) (ps.zip (us ++ ks))) : ∃ ds, Vals (kws.map (·.2)) ds ∧ Binds K fd ps ds := by
  obtain ⟨ks, hl, rk, hks⟩ := kwd_vals hq
  refine ⟨ks, rk, fun s us X hlen => ?_⟩
  have l2 : us.length = n := by
    rw [List.length_append, hl] at hlen
    omega
  exact BindsTo.of_looks fun M => KwChain.looks X hks (h us ks l2 hl)
section
variable {P : Program} {w : World} {K : PySem.W.Frag} {mg : Str → Option Value} {base : Heap} {C : String → Addr} {N : String → List Str} {k n m : Nat} {f : Addr} {fd : FuncData} {ps : List Str} {g : FM} {gi : IM} {dds : List D} {dvs : List V} {cl : String}
theorem fng_dfl (F : FnOk P w K mg base (L2N.CX P w) k f fd ps (Spd K C N (arN m) g)) (b : ∃ ds, Vals dvs ds ∧ Binds K fd ps ds) (hd : All2 CstR dds dvs) (hm : n + dds.length = m) : FnG P w K mg base C N k f (arN n) (dflF dds g) := by
  obtain ⟨ds, rd, bd⟩ := b
  refine FnR.imp (F.raw bd rd) fun vs H Q E ⟨hl, B, ρ, G, es, s0, r, q⟩ => ?_
  have hl' : vs.length = n := by simpa [arN] using hl
  refine ⟨?_, B, ρ, G, es ++ dds.map EV.d, s0, All2.append r (cst_all hd), q⟩
  have := hd.length
  simp [arN]
  omega
theorem fni_dfl (F : FnOk P w K mg base (L2N.CX P w) k f fd ps (SpI K C N cl (arN m) gi)) (b : ∃ ds, Vals dvs ds ∧ Binds K fd ps ds) (hd : All2 CstR dds dvs) (hm : n + dds.length = m) : FnI P w K mg base C N k f cl (arN n) (dflI dds gi) := by
  obtain ⟨ds, rd, bd⟩ := b
  refine FnR.imp (F.raw bd rd) fun vs H Q E ⟨x, rest, hv, hl, B, ρ, G, es, dx, s0, r, hx, hB, q⟩ => ?_
  have hl' : rest.length = n := by simpa [arN] using hl
  subst hv
  refine ⟨x, rest ++ dvs, rfl, ?_, B, ρ, G, es ++ dds.map EV.d, dx, s0, All2.append r (cst_all hd), hx, hB, q⟩
  have := hd.length
  simp [arN]
  omega
end
section
variable {X : Cx} {c : RC} {W : WX} {e o : Expr} {es : List Expr} {kws : List Keyword} {me mo : EM} {mr mk : AM} {pos p apos : Pos} {M : Addr → Prop} {ρ : List Addr} {σ : L2.St} {H : Hp} {G : GS} {env : En} {pl : Sem Bool} {lv : Nat} {m : Str}
/-- a call of a def with keywords, where what it lets out passes at this very state -/
theorem run_fnNA {CX : CXT} {k n : Nat} {f : Addr} {fd : FuncData} {ps ks : List Str} {sp : Sp} {E : XK} {Q : VK} {s : Shared} {pins : List (Addr × Obj)} {us ws : List Value} {vs zs : List V} (F : FnOk X.prog X.w X.K X.mg X.base CX k f fd ps sp) (hr : Room k X.A) (hb : KBn X.K fd ps n ks (· ++ ·) (· ++ ·)) (hx : PassesAt CX X σ E)
    (I : Inv X pins σ H s) (r : Vals vs us) (rz : Vals zs ws) (l1 : vs.length = n) (l2 : zs.length = ks.length) (h : sp (vs ++ zs) H Q E) : wpAny (model X.prog X.w) X.A (call (.ref f) us (ks.zip ws)) (EP X pins σ Q) X.xe s := by
  have r2 := hb.rel r rz
  refine wpAny_call (codeAny_mono (F.run X.A X.stack s H ⟨us, ks.zip ws⟩ (us ++ ws) (vs ++ zs) Q E hr I.env0 (hb.to s us ws I.kIn (r.length.symm.trans l1) (rz.length.symm.trans l2)) r2 h) fun r s' hq => ?_)
  cases r with
  | error e => exact hx pins H s e s' I hq
  | ok fl =>
    cases fl with
    | ret u => exact I.after hq
    | next => exact False.elim hq
    | brk => exact False.elim hq
    | cont => exact False.elim hq
/-- f(e, .., k = v, ..), every keyword-only parameter given -/
theorem de_callK {k n m : Nat} {x : Str} {A : Ar} {g : FM} {f : Addr} {fd : FuncData} {ps ks : List Str} (F : FnOk X.prog X.w X.K X.mg X.base (L2N.CX X.prog X.w) k f fd ps (Spd X.K c.C c.N A g)) (hb : KBn X.K fd ps n ks (· ++ ·) (· ++ ·)) (hl : ks.length = m) (hK : c.K = X.K) (hr : Room k X.A) (hg : Gl X x) (hm : X.mg x = some (.ref f)) (hk : PySem.W.keepIn X.K (.ref f) = true) (tk : L2N.Takes X W)
    (ha : DA X c W (e :: es) mr) (hkw : DK X c W kws mk) (hall : (backToKw pos (keywordEach kws X.env)).all (·.1.isSome) = true := by rfl) (hks : (backToKw pos (keywordEach kws X.env)).filterMap (·.1) = ks := by rfl) (hdb : (x == ("__debug__" : Str)) = false := by decide)
    (he : starEach (e :: es) X.env = (false, eval e X.env) :: starEach es X.env := by rfl) (hpl : ((backTo pos (starEach (e :: es) X.env)).any (·.1) || (backToKw pos (keywordEach kws X.env)).any (·.1.isNone)) = false := by rfl) :
    DE X c W (.Call (.Name x p) (e :: es) kws pos) (eCall A g (aApp n m mr mk)) := by
  subst hl
  refine ⟨fun pins s σ H Q I h => ?_⟩
  obtain ⟨M, ρ, G, env, R, q⟩ := h
  refine wpAny_Call_Name_kw (ld_glob I hg hm ?_ hdb)
  have t0 := app_split (α := Unit) R q
  refine PySem.W.callWith_KW (h₀ := X.base) I.ok.mod.kin hk hall (thn (PA.run ha pos pins s σ H _ I t0) fun us s1 ⟨vs, H1, I1, r, q1⟩ => ?_) hpl he
  refine thn (PK.run hkw pos pins s1 σ H1 _ I1 q1) fun ws s2 ⟨zs, H2, I2, rz, l1, l2, ρ2, G2, es2, s3, r3, g3, q3⟩ => ⟨I2.kIn, ?_⟩
  rw [hks]
  have sp := spd_of s3 r3 q3
  rw [hK] at sp
  exact run_fnNA F hr hb (L2N.passAt tk σ) I2 r rz l1 l2 sp
/-- the classes whose method may be called with these keywords -/
structure HasMK (P : Program) (w : World) (K : PySem.W.Frag) (mg : Str → Option Value) (base : Heap) (C : String → Addr) (N : String → List Str) (lv : Nat) (m : Str) (n : Nat) (ks : List Str) (k : String) (A : Ar) (g : FM) : Prop where
  cl : Cls K (C k)
  no : ixf m (N k) = none
  fn : ∃ f fd ps, Meth K (C k) m f ∧ FnOk P w K mg base (L2N.CX P w) lv f fd ps (Spd K C N A g) ∧ KBn K fd ps (n + 1) ks (· ++ ·) (· ++ ·)
/-- o.m(e, .., k = v, ..) -/
def eMethK (cl : String) (A : Ar) (g : FM) (mo : EM) (r : AM) : EM := fun env G => (mo env G).bind fun x G1 => match x with
  | .d (.ins k fs) => if k = cl then (r env G1).bind fun xs G2 => if A (xs.length + 1) = true then g (.d (.ins k fs) :: xs) G2 else .st else .st
  | _ => .st
abbrev MRowK (X : Cx) (o : Expr) (m : Str) (ap : Pos) (args : List Expr) (kws : List Keyword) (pos : Pos) (pl : Sem Bool) : Prop :=
  eval (.Call (.Attribute o m ap) args kws pos) X.env =
    (do let ov ← eval o X.env; standAt ap.atName; let (f, first) ← holding [ov] (getMethod ov m pl); callWith pos f first (backTo pos (starEach args X.env)) (backToKw pos (keywordEach kws X.env)))
theorem de_methK {n mm : Nat} {cl : String} {A : Ar} {g : FM} {ks : List Str} (hK : c.K = X.K) (hr : Room lv X.A) (tk : L2N.Takes X W) (h : HasMK X.prog X.w X.K X.mg X.base c.C c.N lv m n ks cl A g) (hl : ks.length = mm) (ho : DE X c W o mo) (ha : DA X c W (e :: es) mr) (hkw : DK X c W kws mk)
    (hall : (backToKw pos (keywordEach kws X.env)).all (·.1.isSome) = true := by rfl) (hks : (backToKw pos (keywordEach kws X.env)).filterMap (·.1) = ks := by rfl)
    (he : starEach (e :: es) X.env = (false, eval e X.env) :: starEach es X.env := by rfl) (hpl : ((backTo pos (starEach (e :: es) X.env)).any (·.1) || (backToKw pos (keywordEach kws X.env)).any (·.1.isNone)) = false := by rfl)
    (ht : MRowK X o m apos (e :: es) kws pos pl := by rfl) :
    DE X c W (.Call (.Attribute o m apos) (e :: es) kws pos) (eMethK cl A g mo (aApp n mm mr mk)) := by
  subst hl
  refine ⟨fun pins s σ H Q I q => ?_⟩
  obtain ⟨M, ρ, G, env, R, q⟩ := q
  have h' : tD c W mo σ H fun x H1 => ∃ fs ρ1 G1, Rl c M ρ1 G1 env σ H1 ∧ RepE c M ρ1 H1 (.d (.ins cl fs)) x ∧ TQ (RE c) c W M ρ1 σ H1 ((aApp n ks.length mr mk env G1).bind fun xs G2 => if A (xs.length + 1) = true then g (.d (.ins cl fs) :: xs) G2 else .st) Q := by
    refine ⟨M, ρ, G, env, R, (TQ.bind (R := RE c) q).imp fun v H1 ⟨ρ1, G1, e1, g1, s1, r1, q1⟩ => ?_⟩
    split at q1
    · rename_i k fs
      split at q1
      · rename_i hk
        subst hk
        exact ⟨fs, ρ1, G1, R.ge g1 s1, r1, q1⟩
      · exact q1.elim
    · exact q1.elim
  refine PySem.W.methodCall_KW (pl := pl) (thn (PE.run ho pins s σ H _ I h') fun u s1 ⟨x, H1, I1, rx, fs, ρ1, G1, R1, r1, q1⟩ => ?_) ht
  obtain ⟨a, dx, gs, rfl, z, ea, fl⟩ := Rep.of_ins (show Rep c M ρ1 H1 (.ins cl fs) x from r1)
  obtain rfl : u = Value.ref a := rx
  obtain ⟨cl', no, f, fd, ps, mt, F, hb⟩ := h
  refine getmeth_ok I1 ea cl' mt (flds_none fl no) ?_
  have t0 := app_split (α := Unit) R1 q1
  refine PySem.W.callWith_KW (first := [.ref a]) (h₀ := X.base) I.ok.mod.kin mt.kp hall (thn (PA.run ha pos pins s1 σ H1 _ I1 t0) fun us s2 ⟨vs, H2, I2, r, q2⟩ => ?_) hpl he
  refine thn (PK.run hkw pos pins s2 σ H2 _ I2 q2) fun ws s3 ⟨zs, H3, I3, rz, l1, l2, ρ2, G2, es2, s4, r4, g4, q4⟩ => ⟨I3.kIn, ?_⟩
  rw [hks]
  have rx' : RepE c M ρ2 H3 (.d (.ins cl fs)) (.ref a) := r1.grow g4.gr
  have sp := spd_of (es1 := .d (.ins cl fs) :: es2) s4 (.cons rx' r4) q4
  rw [hK] at sp
  exact run_fnNA (us := .ref a :: us) (vs := .ref a :: vs) F hr hb (L2N.passAt tk σ) I3 (.cons rfl r) rz (congrArg Nat.succ l1) l2 sp
/-- o.p, a property -/
def eProp (cl : String) (A : Ar) (g : FM) (mo : EM) : EM := fun env G => (mo env G).bind fun x G1 => match x with
  | .d (.ins k fs) => if k = cl ∧ A 1 = true then lift (toOpt (g [.d (.ins k fs)] G1)) else .st
  | _ => .st
theorem de_prop {cl : String} {A : Ar} {g : FM} {pa f : Addr} {fd : FuncData} {ps : List Str} (hK : c.K = X.K) (hr : Room (lv + 1) X.A) (hc : Cls X.K (c.C cl)) (hp : PropOf X.K (c.C cl) m pa f) (F : FnOk X.prog X.w X.K X.mg X.base (L2N.CX X.prog X.w) lv f fd ps (Spd X.K c.C c.N A g)) (hb : Binds X.K fd ps []) (ho : DE X c W o mo)
    (hab : attributeBase o m X.env (eval o X.env) = eval o X.env := by rfl) : DE X c W (.Attribute o m pos) (eProp cl A g mo) := by
  refine ⟨fun pins s σ H Q I q => ?_⟩
  obtain ⟨M, ρ, G, env, R, q⟩ := q
  have h' : tD c W mo σ H fun x H1 => ∃ fs ρ1 G1, SR c M ρ1 G1 H1 ∧ RepE c M ρ1 H1 (.d (.ins cl fs)) x ∧ A 1 = true ∧ VQ c M ρ1 H1 (toOpt (g [.d (.ins cl fs)] G1)) Q := by
    refine ⟨M, ρ, G, env, R, (TQ.bind (R := RE c) q).imp fun v H1 ⟨ρ1, G1, e1, g1, s1, r1, q1⟩ => ?_⟩
    split at q1
    · rename_i k fs
      split at q1
      · rename_i hk
        obtain ⟨rfl, hA⟩ := hk
        exact ⟨fs, ρ1, G1, s1, r1, hA, VQ.of q1⟩
      · exact q1.elim
    · exact q1.elim
  refine attr_of hab (thn (PE.run ho pins s σ H _ I h') fun u s1 ⟨x, H1, I1, rx, fs, ρ1, G1, sr, ra, hA, q1⟩ => ?_)
  have sp := spd_opt (A := A) (g := g) (es := [.d (.ins cl fs)]) sr (.cons ra .nil) hA q1
  obtain ⟨a, dx, gs, rfl, z, ea, fl⟩ := Rep.of_ins (show Rep c M ρ1 H1 (.ins cl fs) x from ra)
  obtain rfl : u = Value.ref a := rx
  rw [hK] at sp
  exact getprop_ok (dvs := []) (ds := []) I1 ea hc hp F hr hb .nil pass_no sp
end
end DL

set_option Elab.async false
set_option linter.all false
set_option maxRecDepth 100000
set_option maxHeartbeats 4000000
/-! try with several clauses `except C as e`: each error that can come is told with the clause that takes it -/
namespace DL
open PySem L2 PyProof.Rows
/-- where the suite of slot i ends -/
def outE (i : Nat) (D : Ends) : Ends := { nx := fun σ' H' => D.nx (σ'.set i none) H', rt := D.rt, bk := fun σ' H' => D.bk (σ'.set i none) H', ct := fun σ' H' => D.ct (σ'.set i none) H' }
/-- the clause that takes the error cl, its slot and its suite -/
inductive HdFor (X : Cx) (c : RC) (cl : String) (i : Nat) (ms : SM) : List ExceptHandler → Prop
  | here {x n : Str} {hc : Value} {b₀ : Stmt} {suite : List Stmt} {np pos : Pos} {hds : List ExceptHandler} (nm : Names X x hc) (ex : PySem.W.exmOne X.K (.ref (c.C cl)) hc = some true) (hi : X.N[i]? = some n) (hl : X.env.kindOf n = some .local)
      (su : ∀ (a dd : Addr) (oe : Obj) (pn : List (Addr × Obj)), L2N.Zn (.ref (c.C cl)) (some dd) oe → (∃ vs, oe.data = .fields vs) → DSs (X.suite a ((a, oe) :: pn)) ⟨c.K, c.C, c.N, c.B, a, dd⟩ W0 (b₀ :: suite) ms) :
      HdFor X c cl i ms (.ExceptHandler (some (.Name x np)) (some n) (b₀ :: suite) pos :: hds)
  | next {x : Str} {n : Option Str} {hc : Value} {suite : List Stmt} {np pos : Pos} {hds : List ExceptHandler} (nm : Names X x hc) (ex : PySem.W.exmOne X.K (.ref (c.C cl)) hc = some false) (r : HdFor X c cl i ms hds) :
      HdFor X c cl i ms (.ExceptHandler (some (.Name x np)) n suite pos :: hds)
abbrev TEnt := String × Nat × SM
/-- try: mb, the errors that can come with slot and suite -/
def sTryN (T : List TEnt) (mb : SM) : SM := fun env G => match mb env G with
  | .er k fs env1 G1 => match T.find? fun t => t.1 == k with
    | some t => if env1.all plainS = true ∧ t.2.1 < env1.length then afterO t.2.1 (t.2.2 (env1.set t.2.1 (.exn k fs)) G1) else .st
    | none => .st
  | o => o
/-- the wish of the body's errors -/
def wPick (c : RC) (T : List TEnt) (D : Ends) : WX := fun cls d σ H => ∃ t ∈ T, ∃ dd, cls = .ref (c.C t.1) ∧ d = some dd ∧ ∀ a, H a = none → tDS ⟨c.K, c.C, c.N, c.B, a, dd⟩ W0 t.2.2 (outE t.2.1 D) (σ.set t.2.1 (some (.ref a))) H
section
variable {X : Cx} {c : RC} {W : WX}
theorem ds_tryN {body : List Stmt} {h₀ : ExceptHandler} {hds : List ExceptHandler} {pos : Pos} {mb : SM} {T : List TEnt} (hs : X.stack = X.env :: X.outer) (hf : X.env.frame = some X.env.locals) (hN : X.N.Nodup)
    (hb : ∀ (W : WX) (pn : List (Addr × Obj)) (xe : Value → Shared → Prop), L2N.Takes (X.tr pn xe) W → DSs (X.tr pn xe) c W body mb)
    (hh : ∀ t ∈ T, HdFor X c t.1 t.2.1 t.2.2 (h₀ :: hds)) : DS X c W (.Try body (h₀ :: hds) [] [] pos) (sTryN T mb) := by
  have base : PS X (.Try body (h₀ :: hds) [] [] pos) (fun D σ H => tDS c (wPick c T D) mb D σ H) := by
    refine ⟨fun pins s σ H D I q => ?_⟩
    have ok := I.ok
    have hfr : X.A.frames = some (X.env :: X.outer) := ok.frames.trans (congrArg some hs)
    refine wpAny_Try_except (wpAny_mono ((hb (wPick c T D) (X.pn ++ pins) (fun e s₁ => wpAny (model X.prog X.w) X.A (noteFrame e X.env) (fun _ s₂ => wpAny (model X.prog X.w) X.A (setFlight e none) (fun _ s₃ =>
      wpAny (model X.prog X.w) X.A (handleBy e X.env (h₀ :: hds)) (SP X pins D) X.xe s₃) X.xe s₂) X.xe s₁) ?tk).run [] s σ H D (I.toTry _) q) ?fin fun _ _ z => z)
    case fin =>
      intro f s1 z
      match f, z with
      | .next, ⟨σ1, H1, J, y⟩ => exact wpAny_execs_nil ⟨σ1, H1, J.ofTry ok, y⟩
      | .brk, ⟨σ1, H1, J, y⟩ => exact ⟨σ1, H1, J.ofTry ok, y⟩
      | .cont, ⟨σ1, H1, J, y⟩ => exact ⟨σ1, H1, J.ofTry ok, y⟩
      | .ret u, ⟨v, σ1, H1, J, r, y⟩ => exact ⟨v, σ1, H1, J.ofTry ok, r, y⟩
    case tk =>
      intro u s1 hx
      obtain ⟨a, B, sI, pins1, σ1, H1, cls, d, rfl, J1, nb, up, sky, na, os, ag, t, ht, dd, rfl, rfl, w⟩ := hx
      have J : Inv X pins σ1 H1 sI := J1.ofTry ok
      rw [hs] at sky
      show wpAny (model X.prog X.w) X.A (noteFrame (.ref a) X.env) _ _ _
      refine L2N.Sky.land L2N.Zn.steady hfr hf sky fun h2 fl up2 => ?_
      have J2 : Inv X pins σ1 H1 { s1 with heap := h2 } := J.landed nb fl.1 (up.trans up2) os ag
      obtain ⟨oe, vs, he, hz, hd⟩ := fl.there
      have off : a ∉ frs (X.env :: X.outer) := fun hm => by
        obtain ⟨_, o', e', z⟩ := fl.2.2.1.mem hm
        rw [he] at e'
        cases e'
        exact z _ hd
      have offL : a ≠ X.env.locals := fun z => off (List.mem_filterMap.mpr ⟨X.env, List.mem_cons_self, by rw [hf, z]⟩)
      have offF : a ∉ X.fs := fun hm => by
        obtain ⟨e, m1, m2⟩ := List.mem_filterMap.mp hm
        exact off (List.mem_filterMap.mpr ⟨e, List.mem_cons_of_mem _ m1, m2⟩)
      have S2 := J2.suite he hd na offL offF
      have see : PySem.W.Looks (model X.prog X.w) h2 (typeOf (.ref a)) (.ref (c.C t.1)) := fun A Q E s k q => wpAny_typeOf_ref (k _ _ he) (by rw [hz.1]; exact q)
      have read : ∀ {x : Str} {hc : Value} {np : Pos} {Q E : Value → Shared → Prop}, Names X x hc → Q hc { s1 with heap := h2 } → wpAny (model X.prog X.w) (X.A.mark (some (.ref a))) (eval (.Name x np) X.env) Q E { s1 with heap := h2 } := fun {x hc np Q E} nm q => by
        obtain ⟨hg, db, y | ⟨y, hv, nn⟩⟩ := nm
        · exact ld_glob (X := X.suite a ((a, oe) :: (X.pn ++ pins))) S2 hg y q db
        · exact ld_blt (X := X.suite a ((a, oe) :: (X.pn ++ pins))) S2 hg y hv q nn db
      have w' := w a na
      have H := hh t ht
      generalize h₀ :: hds = hl at H ⊢
      induction H with
      | next nm ex r ih =>
        refine wpAny_handleBy_cons (codeAny_handlers_test ?_) (by intro q; cases q)
        refine read nm ((PySem.W.exm_one (M := model X.prog X.w) J2.kIn see ex).here ?_)
        exact ih
      | here nm ex hi hln su =>
        refine wpAny_handleBy_cons (codeAny_handlers_test ?_) (by intro q; cases q)
        refine read nm ((PySem.W.exm_one (M := model X.prog X.w) J2.kIn see ex).here ?_)
        refine codeAny_handlers_suite_as (HandSPX.lands_againZ fl fun h4 fl4 up4 => ?_)
        have J4 : Inv X pins σ1 H1 { s1 with heap := h4 } := J.landed nb fl4.1 ((up.trans up2).trans up4) os ag
        obtain ⟨o4, v4, he4, hz4, hd4⟩ := fl4.there
        refine store_ok (X := X.suite a ((a, o4) :: (X.pn ++ pins))) (v := .ref a) (J4.suite he4 hd4 na offL offF) hN hi (.inl hln) rfl (fun s5 S5 => ?_) (.inr hln)
        refine wpAny_mono ((su a dd o4 (X.pn ++ pins) hz4 ⟨_, hd4⟩).run [] s5 _ H1 _ S5 w') (fun f s6 z => ?_) fun _ _ z => z.elim
        match f, z with
        | .next, ⟨σ6, H6, S6, y⟩ => exact gone_ok (S6.unsuite ok) hN hi hln fun s7 J7 => ⟨_, _, J7, y⟩
        | .brk, ⟨σ6, H6, S6, y⟩ => exact gone_ok (S6.unsuite ok) hN hi hln fun s7 J7 => ⟨_, _, J7, y⟩
        | .cont, ⟨σ6, H6, S6, y⟩ => exact gone_ok (S6.unsuite ok) hN hi hln fun s7 J7 => ⟨_, _, J7, y⟩
        | .ret u, ⟨v6, σ6, H6, S6, r6, y⟩ => exact gone_ok (S6.unsuite ok) hN hi hln fun s7 J7 => ⟨_, _, _, J7, r6, y⟩
  refine ps_imp base fun Dn σ H q => ?_
  obtain ⟨M, ρ, G, env, R, q⟩ := q
  refine ⟨M, ρ, G, env, R, ?_⟩
  unfold sTryN at q
  cases hm : mb env G with
  | nx e G1 => rw [hm] at q; exact q
  | bk e G1 => rw [hm] at q; exact q
  | ct e G1 => rw [hm] at q; exact q
  | rt e G1 => rw [hm] at q; exact q
  | st => rw [hm] at q; exact q
  | er k fs env1 G1 =>
    rw [hm] at q
    have q' : SQ c W M ρ H (match T.find? fun t => t.1 == k with
      | some t => if env1.all plainS = true ∧ t.2.1 < env1.length then afterO t.2.1 (t.2.2 (env1.set t.2.1 (.exn k fs)) G1) else .st
      | none => .st) Dn := q
    split at q'
    · rename_i t ht
      obtain rfl : t.1 = k := by simpa using List.find?_some ht
      split at q'
      · rename_i hk
        obtain ⟨hp, hl⟩ := hk
        intro M' ρ' σ' H' dd gs g R' hx f
        exact ⟨t, List.mem_of_find?_eq_some ht, dd, rfl, rfl, fun a na => ⟨nM, ρ', G1, _, rl_suite R' hp hx f (Nat.lt_of_lt_of_le hl R'.len), SQ.after (c' := c) (SQ.grow q' g)⟩⟩
      · exact q'.elim
    · exact q'.elim
end
end DL

set_option Elab.async false
set_option linter.all false
set_option maxRecDepth 100000
set_option maxHeartbeats 4000000
/-! list + list; `not x` of an own class as a value -/
namespace DL
open PySem L2 PyProof.Rows StX ClX
section
variable {X : Cx}
/-- list + list, also of the lists that the top has made -/
def rCatS (K : PySem.W.Frag) : R2 := fun x y H Q => ∃ l b xs zs, x = .ref l ∧ y = .ref b ∧ SqL K H l xs ∧ SqL K H b zs ∧ xs.length + zs.length ≤ sizeLine ∧ ∀ p, H p = none → Q (.ref p) (upd H p (.lst (xs ++ zs)))
theorem op_catS : OpR X (binaryOp .Add) (rCatS X.K) := by
  intro pins s σ H x y v u Q I rx ry h
  obtain ⟨l, b, xs, zs, rfl, rfl, hl, hb, hz, q⟩ := h
  cases rx
  cases ry
  obtain ⟨vs, r1, ⟨o1, n1, e1, c1, d1, t1⟩, _⟩ := I.list hl
  obtain ⟨ws, r2, ⟨o2, n2, e2, c2, d2, t2⟩, _⟩ := I.list hb
  obtain ⟨cls1, dd1, data1, sl1⟩ := o1
  obtain ⟨cls2, dd2, data2, sl2⟩ := o2
  simp only at c1 d1 t1 c2 d2 t2
  subst c1 d1 t1 c2 d2 t2
  have len : vs.length + ws.length ≤ sizeLine := by rw [← r1.length, ← r2.length]; exact hz
  refine concat_meets ⟨_, e1, rfl⟩ ⟨_, e2, rfl⟩ noFill_list_add seq_list_add PySem.F.slot_list_add PySem.F.entry_list_add (PySem.F.args_list_add_2 _ _) (list_addW l b vs.toArray ws.toArray n1 n2 none none sl1 sl2 (by simpa using len)) ⟨e1, e2, ?_⟩
  rw [show vs.toArray ++ ws.toArray = (vs ++ ws).toArray by simp]
  exact ⟨.ref _, _, I.lnew (t' := s.toks) (r1.append r2) (by rw [List.length_append]; exact hz), rfl, q _ I.fresh⟩
end
def fCatL : F2 := fun x y G => match x, y with
  | .d (.lst xs), .d (.lst ys) => if xs.length + ys.length ≤ lstMax then some (.d (.lst (xs ++ ys)), G) else none
  | _, _ => none
section
variable {X : Cx} {c : RC} {W : WX} {e : Expr} {me : EM} {cl : String} {A : Ar} {g : FM} {f : Addr} {lv : Nat} {pos : Pos}
theorem dop_catL (hK : c.K = X.K) : OpR X (binaryOp .Add) (V2 c fCatL) := opr_imp op_catS fun x y H Q q => by
  obtain ⟨M, ρ, G, a, b, s, ra, rb, q⟩ := q
  unfold fCatL at q
  split at q
  · rename_i xs ys
    split at q
    · rename_i hl
      obtain ⟨p, us, rfl, z, rr⟩ := Rep.of_lst ra
      obtain ⟨p', vs, rfl, z', rr'⟩ := Rep.of_lst rb
      refine ⟨p, p', us, vs, rfl, rfl, by rw [← hK]; exact z.sq, by rw [← hK]; exact z'.sq, ?_, fun w hw => ?_⟩
      · rw [← rr.length, ← rr'.length]; exact lst_ok hl
      · have sm : Same H (upd H w (.lst (us ++ vs))) := same_upd hw
        exact q _ _ _ (Ge.same sm) (s.same sm) (Rep.lst (.inl ⟨s.fresh hw, .inl upd_same⟩) (reps_grow (all2_app rr rr') (Gr.same sm)))
    · exact q.elim
  · exact q.elim
/-- not x, x of an own class with its own truth -/
def eNotO (cl : String) (A : Ar) (g : FM) (me : EM) : EM := fun env G => (me env G).bind fun x G1 => match truO cl A g x G1 with
  | some (b, G2) => .ok (.d (.bl (!b))) G2
  | none => .st
theorem de_notO (hK : c.K = X.K) (hr : Room lv X.A) (tk : L2N.Takes X W) (hs : PySem.W.findIn X.K (.ref (c.C cl)) "__bool__" = some (some (.ref f))) (hf : PySem.W.isFn X.K (.ref f) = true) (F : FnG X.prog X.w X.K X.mg X.base c.C c.N lv f A g) (he : DE X c W e me) :
    DE X c W (.UnaryOp .Not e pos) (eNotO cl A g me) := by
  refine ⟨fun pins s σ H Q I q => ?_⟩
  obtain ⟨M, ρ, G, env, R, q⟩ := q
  have h' : tD c W me σ H fun x H1 => ∃ fs ρ1 G1, SR c M ρ1 G1 H1 ∧ RepE c M ρ1 H1 (.d (.ins cl fs)) x ∧ A 1 = true ∧ TQ (RE c) c W M ρ1 σ H1 (match g [.d (.ins cl fs)] G1 with | .ok (.d (.bl b)) G' => .ok (.d (.bl b)) G' | _ => .st) (fun v H2 => ∃ b, v = .bl b ∧ Q (.bl (!b)) H2) := by
    refine ⟨M, ρ, G, env, R, (TQ.bind (R := RE c) q).imp fun v H1 ⟨ρ1, G1, e1, g1, s1, r1, q1⟩ => ?_⟩
    unfold truO at q1
    split at q1
    · rename_i b' G2 hx
      split at hx
      · rename_i k fs
        split at hx
        · rename_i hk
          obtain ⟨rfl, hA⟩ := hk
          refine ⟨fs, ρ1, G1, s1, r1, hA, ?_⟩
          split at hx
          · rename_i b G' hg
            cases hx
            first
            | (rw [hg]; exact fun v ρ' H' g s r => ⟨b', Rep.of_bl r, q1 _ ρ' H' g s Rep.bl⟩)
            | exact fun v ρ' H' g s r => ⟨b', Rep.of_bl r, q1 _ ρ' H' g s Rep.bl⟩
          · cases hx
        · cases hx
      · cases hx
    · exact q1.elim
  refine UnaryOp_ (thn (PE.run he pins s σ H _ I h') fun u s1 ⟨x, H1, I1, rx, fs, ρ1, G1, s1', r1, hA, q1⟩ => ?_)
  obtain ⟨a, dx, gs, rfl, z, ea, fl⟩ := Rep.of_ins r1
  obtain rfl : u = Value.ref a := rx
  obtain ⟨ox, od, J⟩ := inst_at I1 ea
  obtain ⟨m, hF⟩ := I1.fr
  have q2 : TQ (RE c) c W M ρ1 σ H1 (if A [EV.d (.ins cl fs)].length = true then g [.d (.ins cl fs)] G1 else .st) (fun v H2 => ∃ b, v = .bl b ∧ Q (.bl (!b)) H2) := by
    rw [if_pos (show A [EV.d (.ins cl fs)].length = true from hA)]
    split at q1
    · rename_i b G' hg
      first
      | (rw [hg]; exact q1)
      | exact q1
    · exact q1.elim
  have sp := spd_of (es1 := [.d (.ins cl fs)]) s1' (.cons r1 .nil) q2
  rw [hK] at sp
  refine not_of (PySem.W.truthy_K hF I1.ok.mod.kin J hs hf (wpAny_mono (wpAny_call (run_fnA (us := [.ref a]) (vs := [.ref a]) F hr (L2N.passAt tk σ) I1 (.cons rfl .nil) sp)) (fun w s' hw => ?_) fun _ _ x => x))
  obtain ⟨z', H', I', rz, b, e, qz⟩ := hw
  subst e
  cases rz
  exact ⟨.bl (!b), H', I', rfl, qz⟩
end
end DL

set_option Elab.async false
set_option linter.all false
namespace DL
/-! ### numbers below 64, bit by bit -/
theorem tb_hi {x i : Nat} (hx : x < 64) (hi : 6 ≤ i) : x.testBit i = false := Nat.testBit_lt_two_pow (Nat.lt_of_lt_of_le hx (by have := Nat.pow_le_pow_right (show 0 < 2 by decide) hi; omega))
theorem cp_tab : ∀ x, x < 64 → ∀ i, i < 6 → (63 - x).testBit i = !x.testBit i := by decide +kernel
theorem tb_cp {x i : Nat} (hx : x < 64) : (63 - x).testBit i = (decide (i < 6) && !x.testBit i) := by
  by_cases h : i < 6
  · rw [cp_tab x hx i h, decide_eq_true h, Bool.true_and]
  · rw [tb_hi (by omega) (by omega), decide_eq_false h, Bool.false_and]
theorem or_lt64 {a b : Nat} (ha : a < 64) (hb : b < 64) : a ||| b < 64 := Nat.or_lt_two_pow (n := 6) ha hb
theorem and_lt64 {a b : Nat} (ha : a < 64) : a &&& b < 64 := Nat.lt_of_le_of_lt Nat.and_le_left ha
theorem two_steps {o n o' n' c : Nat} (ho : o < 64) (hn : n < 64) (ho' : o' < 64) (hn' : n' < 64) (hc : c < 64) :
    (c &&& (63 - ((o &&& (63 - n')) ||| o'))) ||| ((n &&& (63 - o')) ||| n') = (((c &&& (63 - o)) ||| n) &&& (63 - o')) ||| n' := by
  refine Nat.eq_of_testBit_eq fun i => ?_
  have hp : (o &&& (63 - n')) ||| o' < 64 := or_lt64 (and_lt64 ho) ho'
  simp only [Nat.testBit_or, Nat.testBit_and, tb_cp hp, tb_cp ho, tb_cp ho', tb_cp hn']
  have k1 := fun h => tb_hi (i := i) hc h
  have k2 := fun h => tb_hi (i := i) hn h
  have k3 := fun h => tb_hi (i := i) hn' h
  by_cases h : i < 6
  · rw [decide_eq_true h]
    cases c.testBit i <;> cases o.testBit i <;> cases n.testBit i <;> cases o'.testBit i <;> cases n'.testBit i <;> rfl
  · rw [decide_eq_false h, k1 (by omega), k2 (by omega), k3 (by omega)]
    rfl
theorem pot_iff {o n o' n' : Nat} (ho : o < 64) (hn : n < 64) (ho' : o' < 64) (hn' : n' < 64) (hz : o &&& n = 0) (hz' : o' &&& n' = 0) :
    (o ||| o' = (o &&& (63 - n')) ||| o' ∧ (n ||| n') &&& (63 - (o ||| o')) = (n &&& (63 - o')) ||| n') ↔ o &&& n' = 0 := by
  have hs : o ||| o' < 64 := or_lt64 ho ho'
  have z : ∀ i, (o.testBit i && n.testBit i) = false := fun i => by rw [← Nat.testBit_and, hz]; exact Nat.zero_testBit i
  have z' : ∀ i, (o'.testBit i && n'.testBit i) = false := fun i => by rw [← Nat.testBit_and, hz']; exact Nat.zero_testBit i
  constructor
  · intro ⟨h1, _⟩
    refine Nat.eq_of_testBit_eq fun i => ?_
    have e := congrArg (fun x => x.testBit i) h1
    simp only [Nat.testBit_or, Nat.testBit_and, tb_cp hn'] at e
    rw [Nat.testBit_and, Nat.zero_testBit]
    have z1 := z' i
    revert e z1
    cases o.testBit i <;> cases o'.testBit i <;> cases n'.testBit i <;> simp
  · intro h
    have z2 : ∀ i, (o.testBit i && n'.testBit i) = false := fun i => by rw [← Nat.testBit_and, h]; exact Nat.zero_testBit i
    refine ⟨Nat.eq_of_testBit_eq fun i => ?_, Nat.eq_of_testBit_eq fun i => ?_⟩
    · simp only [Nat.testBit_or, Nat.testBit_and, tb_cp hn']
      have k := fun h => tb_hi (i := i) ho h
      by_cases hi : i < 6
      · rw [decide_eq_true hi]
        have z1 := z2 i
        revert z1
        cases o.testBit i <;> cases o'.testBit i <;> cases n'.testBit i <;> simp
      · rw [k (by omega)]
        simp
    · simp only [Nat.testBit_or, Nat.testBit_and, tb_cp ho', tb_cp hs]
      have k := fun h => tb_hi (i := i) hn h
      have k' := fun h => tb_hi (i := i) hn' h
      by_cases hi : i < 6
      · rw [decide_eq_true hi]
        have z1 := z2 i
        have z3 := z i
        have z4 := z' i
        revert z1 z3 z4
        cases o.testBit i <;> cases n.testBit i <;> cases o'.testBit i <;> cases n'.testBit i <;> simp
      · rw [k (by omega), k' (by omega)]
        simp
theorem pot_off {a b : Nat} (ha : a < 64) : a &&& (b &&& (63 - a)) = 0 := by
  refine Nat.eq_of_testBit_eq fun i => ?_
  simp only [Nat.testBit_and, tb_cp ha, Nat.zero_testBit]
  cases a.testBit i <;> cases b.testBit i <;> simp
end DL

set_option Elab.async false
set_option linter.all false
set_option maxRecDepth 100000
set_option maxHeartbeats 4000000
/-! reading meanings by simp: one discriminant at a time -/
namespace DL
open PySem L2
theorem bind_ok {α β : Type} {f : α → GS → Out β} {a : α} {G : GS} : (Out.ok a G).bind f = f a G := rfl
theorem bind_er {α β : Type} {f : α → GS → Out β} {c : String} {fs : List D} {G : GS} : (Out.er c fs G : Out α).bind f = .er c fs G := rfl
theorem bindN_ok {α β : Type} {f : α → GS → Out β} {a : α} {G : GS} : bindN (Out.ok a G) f = f a G := rfl
theorem ofE_ok {α : Type} {a : α} {G : GS} {env : En} {k : α → GS → OutS} : ofE (.ok a G) env k = k a G := rfl
theorem ofE_er {α : Type} {c : String} {fs : List D} {G : GS} {env : En} {k : α → GS → OutS} : ofE (.er c fs G : Out α) env k = .er c fs env G := rfl
theorem seqO_nx {env : En} {G : GS} {k : En → GS → OutS} : seqO (.nx env G) k = k env G := rfl
theorem seqO_rt {e : EV} {G : GS} {k : En → GS → OutS} : seqO (.rt e G) k = .rt e G := rfl
theorem seqO_er {c : String} {fs : List D} {env : En} {G : GS} {k : En → GS → OutS} : seqO (.er c fs env G) k = .er c fs env G := rfl
theorem seqO_bk {env : En} {G : GS} {k : En → GS → OutS} : seqO (.bk env G) k = .bk env G := rfl
theorem seqO_ct {env : En} {G : GS} {k : En → GS → OutS} : seqO (.ct env G) k = .ct env G := rfl
theorem loopO_nx {env : En} {G : GS} {k : En → GS → OutS} : loopO (.nx env G) k = k env G := rfl
theorem loopO_ct {env : En} {G : GS} {k : En → GS → OutS} : loopO (.ct env G) k = k env G := rfl
theorem loopO_bk {env : En} {G : GS} {k : En → GS → OutS} : loopO (.bk env G) k = .nx env G := rfl
theorem loopO_rt {e : EV} {G : GS} {k : En → GS → OutS} : loopO (.rt e G) k = .rt e G := rfl
theorem loopO_er {c : String} {fs : List D} {env : En} {G : GS} {k : En → GS → OutS} : loopO (.er c fs env G) k = .er c fs env G := rfl
theorem lift_s {α : Type} {e : α} {G : GS} : lift (some (e, G)) = .ok e G := rfl
theorem retO_rt {e : EV} {G : GS} : retO (.rt e G) = .ok e G := rfl
theorem retO_nx {env : En} {G : GS} : retO (.nx env G) = .ok (.d .non) G := rfl
theorem retO_er {c : String} {fs : List D} {env : En} {G : GS} : retO (.er c fs env G) = .er c fs G := rfl
theorem mkO_ok {cl : String} {fs : List D} {G : GS} : mkO cl (.ok fs G) = .ok (.d (.ins cl fs)) G := rfl
theorem mkO_er {cl c : String} {fs : List D} {G : GS} : mkO cl (.er c fs G) = .er c fs G := rfl
theorem toOpt_ok {α : Type} {e : α} {G : GS} : toOpt (.ok e G) = some (e, G) := rfl
/-! frames -/
theorem eVar_z {e : EV} {t : En} {G : GS} : eVar 0 (.ev e :: t) G = .ok e G := rfl
theorem eVar_s {i : Nat} {s : Sl} {t : En} {G : GS} : eVar (i + 1) (s :: t) G = eVar i t G := rfl
theorem oL_z {xs : List D} {t : En} : oL 0 (.own (.lst xs) :: t) = some xs := rfl
theorem oL_s {i : Nat} {s : Sl} {t : En} : oL (i + 1) (s :: t) = oL i t := rfl
theorem frz_z {xs : List D} {t : En} : frzE 0 (.own (.lst xs) :: t) = .ev (.d (.lst xs)) :: t := rfl
theorem frz_s {i : Nat} {s : Sl} {t : En} : frzE (i + 1) (s :: t) = s :: frzE i t := by
  unfold frzE
  rw [List.getElem?_cons_succ]
  cases h : t[i]? with
  | none => rfl
  | some sl => cases sl with
    | own o => cases o <;> rfl
    | _ => rfl
theorem wipe_n {env : En} : wipeE env [] = env := rfl
theorem wipe_c {env : En} {v : Nat} {vs : List Nat} : wipeE env (v :: vs) = (wipeE env vs).set v .no := rfl
theorem datas_n : datas [] = some [] := rfl
theorem datas_c {x : D} {r : List EV} : datas (.d x :: r) = (datas r).map (x :: ·) := rfl
theorem map_s {α β : Type} {f : α → β} {a : α} : Option.map f (some a) = some (f a) := rfl
theorem bind_s {α β : Type} {f : α → Option β} {a : α} : Option.bind (some a) f = f a := rfl
theorem setA_n {env : En} : setAll [] [] env = some env := rfl
theorem setA_c {i : Nat} {is : List Nat} {x : D} {xs : List D} {env : En} : setAll (i :: is) (x :: xs) env = setAll is xs (env.set i (.ev (.d x))) := rfl
/-! values -/
theorem p2_d {g : D → D → Option D} {a b : D} {G : GS} : pure2 g (.d a) (.d b) G = (g a b).map fun z => (.d z, G) := rfl
theorem p1_d {g : D → Option D} {a : D} {G : GS} : pure1 g (.d a) G = (g a).map fun z => (.d z, G) := rfl
theorem pN_d {g : List D → Option D} {xs : List EV} {G : GS} : pureN g xs G = (datas xs).bind fun ds => (g ds).map fun z => (.d z, G) := rfl
theorem fEq_i {a b : Int} {G : GS} : fEq (.d (.int a)) (.d (.int b)) G = some (.d (.bl (decide (a = b))), G) := rfl
theorem fEq_s {a b : Str} {G : GS} : fEq (.d (.str a)) (.d (.str b)) G = some (.d (.bl (decide (a = b))), G) := rfl
theorem fEq_b {a b : Bool} {G : GS} : fEq (.d (.bl a)) (.d (.bl b)) G = some (.d (.bl (decide (a = b))), G) := rfl
theorem fEq_ii {k k' : String} {fs fs' : List D} {G : GS} : fEq (.d (.ins k fs)) (.d (.ins k' fs')) G = none := rfl
theorem fNe_i {a b : Int} {G : GS} : fNe (.d (.int a)) (.d (.int b)) G = some (.d (.bl (!decide (a = b))), G) := rfl
theorem fNe_s {a b : Str} {G : GS} : fNe (.d (.str a)) (.d (.str b)) G = some (.d (.bl (!decide (a = b))), G) := rfl
theorem fNe_b {a b : Bool} {G : GS} : fNe (.d (.bl a)) (.d (.bl b)) G = some (.d (.bl (!decide (a = b))), G) := rfl
theorem fSub_i {a b : Int} {G : GS} : fSub (.d (.int a)) (.d (.int b)) G = some (.d (.int (a - b)), G) := rfl
theorem fAdd_i {a b : Int} {G : GS} : fAdd (.d (.int a)) (.d (.int b)) G = some (.d (.int (a + b)), G) := rfl
theorem fAnd_i {a b : Int} {G : GS} : fAnd (.d (.int a)) (.d (.int b)) G = some (.d (.int (Builtin.bitAnd a b)), G) := rfl
theorem fOr_i {a b : Int} {G : GS} : fOr (.d (.int a)) (.d (.int b)) G = some (.d (.int (Builtin.bitOr a b)), G) := rfl
theorem fXor_i {a b : Int} {G : GS} : fXor (.d (.int a)) (.d (.int b)) G = some (.d (.int (Builtin.bitXor a b)), G) := rfl
theorem fLt_i {a b : Int} {G : GS} : fLt (.d (.int a)) (.d (.int b)) G = some (.d (.bl (decide (a < b))), G) := rfl
theorem fLe_i {a b : Int} {G : GS} : fLe (.d (.int a)) (.d (.int b)) G = some (.d (.bl (decide (a ≤ b))), G) := rfl
theorem fGt_i {a b : Int} {G : GS} : fGt (.d (.int a)) (.d (.int b)) G = some (.d (.bl (decide (b < a))), G) := rfl
theorem fGe_i {a b : Int} {G : GS} : fGe (.d (.int a)) (.d (.int b)) G = some (.d (.bl (decide (b ≤ a))), G) := rfl
theorem fMod_i {a b : Int} {G : GS} (h : cPos a b = true) : fMod (.d (.int a)) (.d (.int b)) G = some (.d (.int (a % b)), G) := by show Option.map _ (if cPos a b = true then _ else _) = _; rw [if_pos h]; rfl
theorem fDiv_i {a b : Int} {G : GS} (h : cDiv a b = true) : fDiv (.d (.int a)) (.d (.int b)) G = some (.d (.int (a / b)), G) := by show Option.map _ (if cDiv a b = true then _ else _) = _; rw [if_pos h]; rfl
theorem fMul_i {a b : Int} {G : GS} (h : cMul a b = true) : fMul (.d (.int a)) (.d (.int b)) G = some (.d (.int (a * b)), G) := by show Option.map _ (if cMul a b = true then _ else _) = _; rw [if_pos h]; rfl
theorem fShr_i {a b : Int} {G : GS} (h : cNn a b = true) : fShr (.d (.int a)) (.d (.int b)) G = some (.d (.int (a / 2 ^ b.toNat)), G) := by show Option.map _ (if cNn a b = true then _ else _) = _; rw [if_pos h]; rfl
theorem fIs_d {a : D} {G : GS} : fIs (.d a) (.d .non) G = some (.d (.bl (isNon a)), G) := rfl
theorem fIsNot_d {a : D} {G : GS} : fIsNot (.d a) (.d .non) G = some (.d (.bl (!isNon a)), G) := rfl
theorem fIsB_b {a b : Bool} {G : GS} : fIsNotB (.d (.bl a)) (.d (.bl b)) G = some (.d (.bl (!decide (a = b))), G) := by cases a <;> cases b <;> rfl
theorem isB_b {b : Bool} {G : GS} : isB (.d (.bl b)) G = some (b, G) := rfl
theorem tru_b {b : Bool} {G : GS} : truE (.d (.bl b)) G = some (b, G) := rfl
theorem tru_i {b : Int} {G : GS} : truE (.d (.int b)) G = some (b != 0, G) := rfl
theorem tru_l {xs : List D} {G : GS} : truE (.d (.lst xs)) G = some (!xs.isEmpty, G) := rfl
theorem tru_t {xs : List D} {G : GS} : truE (.d (.tup xs)) G = some (!xs.isEmpty, G) := rfl
def orE {α : Type} (a : Option α) (b : Option α) : Option α := match a with
  | some r => some r
  | none => b
theorem orE_s {α : Type} {r : α} {b : Option α} : orE (some r) b = some r := rfl
theorem orE_n {α : Type} {b : Option α} : orE none b = b := rfl
theorem alt2_e {f g : F2} {x y : EV} {G : GS} : alt2 f g x y G = orE (f x y G) (g x y G) := by show (match f x y G with | some r => some r | none => g x y G) = _; cases f x y G <;> rfl
theorem alt1_e {f g : F1} {x : EV} {G : GS} : alt1 f g x G = orE (f x G) (g x G) := by show (match f x G with | some r => some r | none => g x G) = _; cases f x G <;> rfl
theorem altN_e {f g : FN} {x : List EV} {G : GS} : altN f g x G = orE (f x G) (g x G) := by show (match f x G with | some r => some r | none => g x G) = _; cases f x G <;> rfl
theorem fOwn_e {cl : String} {A : Ar} {g : FM} {fs fs' : List D} {G : GS} (h : A 2 = true) : fOwn cl A g (.d (.ins cl fs)) (.d (.ins cl fs')) G = toOpt (g [.d (.ins cl fs), .d (.ins cl fs')] G) := if_pos ⟨rfl, rfl, h⟩
theorem fOwn1_e {cl : String} {A : Ar} {g : FM} {fs : List D} {G : GS} (h : A 1 = true) : fOwn1 cl A g (.d (.ins cl fs)) G = toOpt (g [.d (.ins cl fs)] G) := if_pos ⟨rfl, h⟩
theorem fIx_l {xs : List D} {i : Int} {G : GS} : fIx (.d (.lst xs)) (.d (.int i)) G = (atI xs i).map fun z => (.d z, G) := rfl
theorem fIx_t {xs : List D} {i : Int} {G : GS} : fIx (.d (.tup xs)) (.d (.int i)) G = (atI xs i).map fun z => (.d z, G) := rfl
theorem at_n {α : Type} {xs : List α} {n : Nat} (h : n < xs.length) : atI xs (n : Int) = some xs[n] := L2.atI_nat (List.getElem?_eq_getElem h)
theorem at_0 {α : Type} {a : α} {t : List α} : atI (a :: t) 0 = some a := at_n (n := 0) (by simp)
theorem at_1 {α : Type} {a b : α} {t : List α} : atI (a :: b :: t) 1 = some b := at_n (n := 1) (by simp)
theorem at_2 {α : Type} {a b c : α} {t : List α} : atI (a :: b :: c :: t) 2 = some c := at_n (n := 2) (by simp)
theorem at_3 {α : Type} {a b c d : α} {t : List α} : atI (a :: b :: c :: d :: t) 3 = some d := at_n (n := 3) (by simp)
theorem at_4 {α : Type} {a b c d e : α} {t : List α} : atI (a :: b :: c :: d :: e :: t) 4 = some e := at_n (n := 4) (by simp)
theorem at_5 {α : Type} {a b c d e f : α} {t : List α} : atI (a :: b :: c :: d :: e :: f :: t) 5 = some f := at_n (n := 5) (by simp)
theorem ixN_p {m : Nat} {i : Int} (h0 : 0 ≤ i) (h1 : i.toNat < m) : ixN m i = some i.toNat := by unfold ixN; rw [if_pos h0, if_pos (by omega)]
theorem for_n {k : Nat} {b : SM} {env : En} {G : GS} : forL k b [] env G = .nx env G := rfl
theorem for_c {k : Nat} {b : SM} {d : D} {ds : List D} {env : En} {G : GS} : forL k b (d :: ds) env G = loopO (b (env.set k (.ev (.d d))) G) (forL k b ds) := rfl
theorem lc_n {k : Nat} {tt : BM} {te : EM} {env : En} {G : GS} : lcL k tt te [] env G = .ok [] G := rfl
def kL2 (y : D) : List D → GS → Out (List D) := fun ys G3 => .ok (y :: ys) G3
theorem kL2_e {y : D} {ys : List D} {G : GS} : kL2 y ys G = .ok (y :: ys) G := rfl
def kL1 (k : Nat) (tt : BM) (te : EM) (ds : List D) (env : En) : EV → GS → Out (List D) := fun y G2 => (match y with
      | .d y => bindN (lcL k tt te ds env G2) (kL2 y)
      | _ => .st)
theorem kL1_e {k : Nat} {tt : BM} {te : EM} {ds : List D} {env : En} {y : D} {G : GS} : kL1 k tt te ds env (.d y) G = bindN (lcL k tt te ds env G) (kL2 y) := rfl
def kT (k : Nat) (tt : BM) (te : EM) (d : D) (ds : List D) (env : En) : Bool → GS → Out (List D) := fun b G1 => if b = true then bindN (te (env.set k (.ev (.d d))) G1) (kL1 k tt te ds env) else lcL k tt te ds env G1
theorem kT_t {k : Nat} {tt : BM} {te : EM} {d : D} {ds : List D} {env : En} {G : GS} : kT k tt te d ds env true G = bindN (te (env.set k (.ev (.d d))) G) (kL1 k tt te ds env) := rfl
theorem kT_f {k : Nat} {tt : BM} {te : EM} {d : D} {ds : List D} {env : En} {G : GS} : kT k tt te d ds env false G = lcL k tt te ds env G := rfl
theorem lc_c {k : Nat} {tt : BM} {te : EM} {d : D} {ds : List D} {env : En} {G : GS} : lcL k tt te (d :: ds) env G = bindN (tt (env.set k (.ev (.d d))) G) (kT k tt te d ds env) := rfl
theorem len_lst {xs : List D} {G : GS} : fLen [.d (.lst xs)] G = some (.d (.int xs.length), G) := rfl
theorem len_tup {xs : List D} {G : GS} : fLen [.d (.tup xs)] G = some (.d (.int xs.length), G) := rfl
theorem lst_le {n : Nat} (h : n ≤ 1000) : n ≤ lstMax := Nat.le_trans h (by decide)
theorem rng_n {n : Nat} (h : n ≤ 1000000) {G : GS} {env : En} {m : AM} (hm : m env G = .ok [.d (.int n)] G) : lRng1 m env G = .ok ((List.range n).map fun i : Nat => .int i) G := by
  unfold lRng1
  rw [hm]
  show (if -rngMax ≤ (n : Int) ∧ (n : Int) ≤ rngMax then Out.ok (lRng 0 (n : Int).toNat) G else .st) = _
  rw [if_pos (by unfold rngMax; omega)]
  unfold lRng
  simp
theorem kfn_c {k : String} {g : Ar × FM} {r : List (String × (Ar × FM))} {k' : String} : kfn ((k, g) :: r) k' = if k = k' then some g else kfn r k' := rfl
theorem kix_c {k : String} {i : Nat} {r : List (String × Nat)} {k' : String} : kix ((k, i) :: r) k' = if k = k' then some i else kix r k' := rfl
theorem gFld_i {ks : List (String × Nat)} {k : String} {fs : List D} : gFld ks (.ins k fs) = (kix ks k).bind fun i => fs[i]? := rfl
/-- the class of an instance, its fields -/
def kOf : EV → Option String
  | .d (.ins k _) => some k
  | _ => none
def fsOf : D → List D
  | .ins _ fs => fs
  | _ => []
theorem kOf_i {k : String} {fs : List D} : kOf (.d (.ins k fs)) = some k := rfl
theorem fsOf_i {k : String} {fs : List D} : fsOf (.ins k fs) = fs := rfl
def kMe (A : Ar) (g : FM) (x : EV) : List EV → GS → Out EV := fun xs G2 => if A (xs.length + 1) = true then g (x :: xs) G2 else .st
theorem kMe_e {A : Ar} {g : FM} {x : EV} {xs : List EV} {G : GS} (h : A (xs.length + 1) = true) : kMe A g x xs G = g (x :: xs) G := if_pos h
def methA (o : Option (Ar × FM)) (x : EV) (r : AM) (env : En) (G : GS) : Out EV := match o with
  | some (A, g) => (r env G).bind (kMe A g x)
  | none => .st
def methK (ms : List (String × (Ar × FM))) (o : Option String) (x : EV) (r : AM) (env : En) (G : GS) : Out EV := match o with
  | some k => methA (kfn ms k) x r env G
  | none => .st
def methO (ms : List (String × (Ar × FM))) (x : EV) (r : AM) (env : En) (G : GS) : Out EV := methK ms (kOf x) x r env G
theorem methO_e {ms : List (String × (Ar × FM))} {x : EV} {r : AM} {env : En} {G : GS} : methO ms x r env G = methK ms (kOf x) x r env G := rfl
theorem methK_s {ms : List (String × (Ar × FM))} {k : String} {x : EV} {r : AM} {env : En} {G : GS} : methK ms (some k) x r env G = methA (kfn ms k) x r env G := rfl
theorem methA_s {A : Ar} {g : FM} {x : EV} {r : AM} {env : En} {G : GS} : methA (some (A, g)) x r env G = (r env G).bind (kMe A g x) := rfl
def ownK (cl : String) (A : Ar) (g : FM) (o o' : Option String) (x y : EV) (G : GS) : Option (EV × GS) := match o, o' with
  | some k, some k' => if k = cl ∧ k' = cl ∧ A 2 = true then toOpt (g [x, y] G) else none
  | _, _ => none
theorem ownK_s {cl k k' : String} {A : Ar} {g : FM} {x y : EV} {G : GS} : ownK cl A g (some k) (some k') x y G = if k = cl ∧ k' = cl ∧ A 2 = true then toOpt (g [x, y] G) else none := rfl
theorem ownK_n {cl : String} {o : Option String} {A : Ar} {g : FM} {x y : EV} {G : GS} : ownK cl A g none o x y G = none := rfl
theorem ownK_m {cl : String} {o : Option String} {A : Ar} {g : FM} {x y : EV} {G : GS} : ownK cl A g o none x y G = none := by cases o <;> rfl
theorem fOwn_k {cl : String} {A : Ar} {g : FM} {x y : EV} {G : GS} : fOwn cl A g x y G = ownK cl A g (kOf x) (kOf y) x y G := by
  cases x with
  | o i => rfl
  | d x => cases y with
    | o i => cases x <;> rfl
    | d y => cases x <;> cases y <;> rfl
def own1K (cl : String) (A : Ar) (g : FM) (o : Option String) (x : EV) (G : GS) : Option (EV × GS) := match o with
  | some k => if k = cl ∧ A 1 = true then toOpt (g [x] G) else none
  | _ => none
theorem own1K_s {cl k : String} {A : Ar} {g : FM} {x : EV} {G : GS} : own1K cl A g (some k) x G = if k = cl ∧ A 1 = true then toOpt (g [x] G) else none := rfl
theorem own1K_n {cl : String} {A : Ar} {g : FM} {x : EV} {G : GS} : own1K cl A g none x G = none := rfl
theorem fOwn1_k {cl : String} {A : Ar} {g : FM} {x : EV} {G : GS} : fOwn1 cl A g x G = own1K cl A g (kOf x) x G := by
  cases x with
  | o i => rfl
  | d x => cases x <;> rfl
def fldK (ks : List (String × Nat)) (o : Option String) (fs : List D) : Option D := match o with
  | some k => (kix ks k).bind fun i => fs[i]?
  | none => none
theorem fldK_s {ks : List (String × Nat)} {k : String} {fs : List D} : fldK ks (some k) fs = (kix ks k).bind fun i => fs[i]? := rfl
theorem gFld_k {ks : List (String × Nat)} {x : D} : gFld ks x = fldK ks (kOf (.d x)) (fsOf x) := by cases x <;> rfl
theorem cPos_e {a b : Int} : cPos a b = decide (0 < b) := rfl
theorem cDiv_e {a b : Int} : cDiv a b = (decide (0 < b) && decide (b < 2 ^ 200)) := rfl
theorem lstMax_e : lstMax = 100000 := rfl
theorem arN_t {n : Nat} : arN n n = true := by unfold arN; exact beq_self_eq_true n
theorem arS_0 {n : Nat} : arS 0 n = true := by unfold arS; exact decide_eq_true (Nat.zero_le n)
theorem bYes_e {env : En} {G : GS} : bYes env G = .ok true G := rfl
/-! the meanings, applied; what follows a value is a name -/
def kSet (i : Nat) (env : En) : EV → GS → OutS := fun e G1 => .nx (env.set i (.ev e)) G1
def kSet2 (i j : Nat) (env : En) : EV → GS → OutS := fun e G1 => .nx ((env.set i (.ev e)).set j (.ev e)) G1
def kDrop (env : En) : EV → GS → OutS := fun _ G1 => .nx env G1
def kIf (a b : SM) (env : En) : Bool → GS → OutS := fun k G1 => if k = true then a env G1 else b env G1
def kOwn (i : Nat) (env : En) : List D × GS → GS → OutS := fun p _ => .nx (env.set i (.own (.lst p.1))) p.2
def kApp (xs : List D) (i : Nat) (env : En) : EV → GS → OutS := fun e G1 => match e with
    | .d x => if xs.length < lstMax then .nx (env.set i (.own (.lst (xs ++ [x])))) G1 else .st
    | _ => .st
def kOsub2 (xs : List D) (i : Nat) (env : En) (x : EV) : EV → GS → OutS := fun j G2 => match x, j with
    | .d x, .d (.int j) => (match ixN xs.length j with
      | some j => .nx (env.set i (.own (.lst (xs.set j x)))) G2
      | none => .st)
    | _, _ => .st
def kOsub1 (xs : List D) (i : Nat) (mi : EM) (env : En) : EV → GS → OutS := fun x G1 => ofE (mi env G1) env (kOsub2 xs i env x)
def kFor (k : Nat) (b : SM) (env : En) : List D → GS → OutS := fun ds G1 => forL k b ds env G1
def unpK (o : Option En) (G : GS) : OutS := match o with
  | some env' => .nx env' G
  | none => .st
def kUnp (is : List Nat) (env : En) : EV → GS → OutS := fun e G1 => match e with
  | .d (.tup xs) => unpK (setAll is xs env) G1
  | _ => .st
def kOp2 (f : F2) (x : EV) : EV → GS → Out EV := fun y G2 => lift (f x y G2)
def kOp1 (f : F2) (b : EM) (env : En) : EV → GS → Out EV := fun x G1 => (b env G1).bind (kOp2 f x)
def kUn (f : F1) : EV → GS → Out EV := fun x G1 => lift (f x G1)
def kC2 (x : EV) : List EV → GS → Out (List EV) := fun xs G2 => .ok (x :: xs) G2
def kC1 (r : AM) (env : En) : EV → GS → Out (List EV) := fun x G1 => (r env G1).bind (kC2 x)
def kA2 (i j : Nat) (xs : List EV) : List EV → GS → Out (List EV) := fun ys G2 => if xs.length = i ∧ ys.length = j then .ok (xs ++ ys) G2 else .st
def kA1 (i j : Nat) (r' : AM) (env : En) : List EV → GS → Out (List EV) := fun xs G1 => (r' env G1).bind (kA2 i j xs)
def kFN (fn : FN) : List EV → GS → Out EV := fun xs G1 => lift (fn xs G1)
def kCall (A : Ar) (g : FM) : List EV → GS → Out EV := fun xs G1 => if A xs.length = true then g xs G1 else .st
def kMake (cl : String) (A : Ar) (gi : IM) : List EV → GS → Out EV := fun xs G1 => if A xs.length = true then mkO cl (gi xs G1) else .st
def kCM (cl : String) (A : Ar) (g : FM) : List EV → GS → Out EV := fun xs G1 => if A (xs.length + 1) = true then g (.d (.cls cl) :: xs) G1 else .st
def kMeth (ms : List (String × (Ar × FM))) (r : AM) (env : En) : EV → GS → Out EV := fun x G1 => methO ms x r env G1
def lstK (o : Option (List D)) (G : GS) : Out EV := match o with
  | some ds => if ds.length ≤ lstMax then .ok (.d (.lst ds)) G else .st
  | none => .st
def kLst : List EV → GS → Out EV := fun xs G1 => lstK (datas xs) G1
def tupK (o : Option (List D)) (G : GS) : Out EV := match o with
  | some ds => if ds.length ≤ lstMax then .ok (.d (.tup ds)) G else .st
  | none => .st
def kTup : List EV → GS → Out EV := fun xs G1 => tupK (datas xs) G1
def nlK (o : Option (List D)) (G : GS) : Out (List D × GS) := match o with
  | some ds => if ds.length ≤ lstMax then .ok (ds, G) G else .st
  | none => .st
def kNl : List EV → GS → Out (List D × GS) := fun xs G1 => nlK (datas xs) G1
def nliK (o : Option (List D)) (G : GS) : Out (List D × GS) := match o with
  | some ds => .ok (ds, G) G
  | none => .st
def kNli : List EV → GS → Out (List D × GS) := fun xs G1 => nliK (lOf xs) G1
def kLc2 : List D → GS → Out EV := fun ys G2 => if ys.length ≤ lstMax then .ok (.d (.lst ys)) G2 else .st
def kLc1 (k : Nat) (vs : List Nat) (t : BM) (e : EM) (env : En) : List D → GS → Out EV := fun ds G1 => bindN (lcL k t e ds (wipeE env vs) G1) kLc2
def kNc2 : List D → GS → Out (List D × GS) := fun ys G2 => if ys.length ≤ lstMax then .ok (ys, G2) G2 else .st
def kNc1 (k : Nat) (vs : List Nat) (t : BM) (e : EM) (env : En) : List D → GS → Out (List D × GS) := fun ds G1 => bindN (lcL k t e ds (wipeE env vs) G1) kNc2
def kSeq : EV → GS → Out (List D) := fun e G1 => match e with
  | .d (.lst xs) => .ok xs G1
  | _ => .st
def kTpl : EV → GS → Out (List D) := fun e G1 => match e with
  | .d (.tup xs) => .ok xs G1
  | _ => .st
def kEIf (a b : EM) (env : En) : Bool → GS → Out EV := fun k G1 => if k = true then a env G1 else b env G1
def kEAnd (b : EM) (env : En) : EV → GS → Out EV := fun x G1 => match x with
  | .d (.bl true) => b env G1
  | .d (.bl false) => .ok (.d (.bl false)) G1
  | _ => .st
def kEOr (b : EM) (env : En) : EV → GS → Out EV := fun x G1 => match x with
  | .d (.bl true) => .ok (.d (.bl true)) G1
  | .d (.bl false) => b env G1
  | _ => .st
def kENot : EV → GS → Out EV := fun x G1 => match x with
  | .d (.bl k) => .ok (.d (.bl (!k))) G1
  | _ => .st
def kB (F : EV → GS → Option (Bool × GS)) : EV → GS → Out Bool := fun e G1 => lift (F e G1)
def kBAnd (b : BM) (env : En) : Bool → GS → Out Bool := fun k G1 => if k = true then b env G1 else .ok false G1
def kBOr (b : BM) (env : En) : Bool → GS → Out Bool := fun k G1 => if k = true then .ok true G1 else b env G1
def kBNot : Bool → GS → Out Bool := fun k G1 => .ok (!k) G1
def kOS : EV → GS → Out (Option Int) := fun x G1 => match x with
  | .d (.int i) => .ok (some i) G1
  | _ => .st
def kSl3 (x : EV) (l : Option Int) : Option Int → GS → Out EV := fun h G3 => match x with
  | .d (.lst xs) => .ok (.d (.lst (cutL xs l h))) G3
  | _ => .st
def kSl2 (hi : OM) (env : En) (x : EV) : Option Int → GS → Out EV := fun l G2 => (hi env G2).bind (kSl3 x l)
def kSl1 (lo hi : OM) (env : En) : EV → GS → Out EV := fun x G1 => (lo env G1).bind (kSl2 hi env x)
def kSt3 (x : EV) (l : Option Int) : Option Int → GS → Out EV := fun h G3 => match x with
  | .d (.tup xs) => .ok (.d (.tup (cutL xs l h))) G3
  | _ => .st
def kSt2 (hi : OM) (env : En) (x : EV) : Option Int → GS → Out EV := fun l G2 => (hi env G2).bind (kSt3 x l)
def kSt1 (lo hi : OM) (env : En) : EV → GS → Out EV := fun x G1 => (lo env G1).bind (kSt2 hi env x)
def ixK (o : Option D) (G : GS) : Out EV := match o with
  | some x => .ok (.d x) G
  | none => .st
def kOix (xs : List D) : EV → GS → Out EV := fun j G1 => match j with
    | .d (.int j) => ixK (atI xs j) G1
    | _ => .st
section
variable {a b m n : SM} {e e' mo me mi : EM} {t ta tb : BM} {r r' : AM} {l : LM} {env env' : En} {G : GS} {i j k : Nat} {f : F2} {f1 : F1} {fn : FN} {A : Ar} {g : FM} {gi : IM} {cl : String} {fm : FM'} {x y : D} {u v : EV} {xs ys ds : List D} {us vs : List EV} {is : List Nat} {lo hi : OM} {ms : List (String × (Ar × FM))} {z : Int} {oz ow : Option Int}
theorem sSeq_e : sSeq a b env G = seqO (a env G) b := rfl
theorem sNil_e : sNil env G = .nx env G := rfl
theorem sSet_e : sSet i e env G = ofE (e env G) env (kSet i env) := rfl
theorem kSet_e : kSet i env u G = .nx (env.set i (.ev u)) G := rfl
theorem sSet2_e : sSet2 i j e env G = ofE (e env G) env (kSet2 i j env) := rfl
theorem kSet2_e : kSet2 i j env u G = .nx ((env.set i (.ev u)).set j (.ev u)) G := rfl
theorem sRet_e : sRet e env G = ofE (e env G) env OutS.rt := rfl
theorem sRetN_e : sRetN env G = .rt (.d .non) G := rfl
theorem sDrop_e : sDrop e env G = ofE (e env G) env (kDrop env) := rfl
theorem kDrop_e : kDrop env u G = .nx env G := rfl
theorem sIf_e : sIf t a b env G = ofE (t env G) env (kIf a b env) := rfl
theorem kIf_t : kIf a b env true G = a env G := rfl
theorem kIf_f : kIf a b env false G = b env G := rfl
theorem sBk_e : sBk env G = .bk env G := rfl
theorem sCt_e : sCt env G = .ct env G := rfl
theorem sFrz_e : sFrz i a env G = a (frzE i env) G := rfl
theorem sOwn_e : sOwn i fm env G = ofE (fm env G) env (kOwn i env) := rfl
theorem kOwn_e : kOwn i env (xs, G) G = .nx (env.set i (.own (.lst xs))) G := rfl
def appK (o : Option (List D)) (i : Nat) (m : EM) (env : En) (G : GS) : OutS := match o with
  | some xs => ofE (m env G) env (kApp xs i env)
  | none => .st
theorem sApp_e : sApp i e env G = appK (oL i env) i e env G := rfl
theorem appK_s : appK (some xs) i e env G = ofE (e env G) env (kApp xs i env) := rfl
theorem kApp_e : kApp xs i env (.d x) G = if xs.length < lstMax then .nx (env.set i (.own (.lst (xs ++ [x])))) G else .st := rfl
def osubK (o : Option (List D)) (i : Nat) (mi me : EM) (env : En) (G : GS) : OutS := match o with
  | some xs => ofE (me env G) env (kOsub1 xs i mi env)
  | none => .st
theorem sOSub_e : sOSub i mi me env G = osubK (oL i env) i mi me env G := rfl
theorem osubK_s : osubK (some xs) i mi me env G = ofE (me env G) env (kOsub1 xs i mi env) := rfl
theorem kOsub1_e : kOsub1 xs i mi env u G = ofE (mi env G) env (kOsub2 xs i env u) := rfl
def osK (o : Option Nat) (xs : List D) (i : Nat) (env : En) (x : D) (G : GS) : OutS := match o with
  | some j => .nx (env.set i (.own (.lst (xs.set j x)))) G
  | none => .st
theorem kOsub2_e : kOsub2 xs i env (.d x) (.d (.int z)) G = osK (ixN xs.length z) xs i env x G := rfl
theorem osK_s : osK (some j) xs i env x G = .nx (env.set i (.own (.lst (xs.set j x)))) G := rfl
def oixK (o : Option (List D)) (mi : EM) (env : En) (G : GS) : Out EV := match o with
  | some xs => (mi env G).bind (kOix xs)
  | none => .st
theorem eOIx_e : eOIx i mi env G = oixK (oL i env) mi env G := rfl
theorem oixK_s : oixK (some xs) mi env G = (mi env G).bind (kOix xs) := rfl
theorem kOix_e : kOix xs (.d (.int z)) G = ixK (atI xs z) G := rfl
theorem ixK_s : ixK (some x) G = .ok (.d x) G := rfl
def olenK (o : Option (List D)) (G : GS) : Out EV := match o with
  | some xs => .ok (.d (.int xs.length)) G
  | none => .st
theorem olenK_s : olenK (some xs) G = .ok (.d (.int xs.length)) G := rfl
theorem eOLen_e : eOLen i env G = olenK (oL i env) G := rfl
theorem sFor_e : sFor k l b env G = ofE (l env G) env (kFor k b env) := rfl
theorem kFor_e : kFor k b env ds G = forL k b ds env G := rfl
theorem sUnp_e : sUnp is e env G = ofE (e env G) env (kUnp is env) := rfl
theorem kUnp_e : kUnp is env (.d (.tup xs)) G = unpK (setAll is xs env) G := rfl
theorem unpK_s : unpK (some env') G = .nx env' G := rfl
theorem eC_e : eC x env G = .ok (.d x) G := rfl
theorem eOp_e : eOp f e e' env G = (e env G).bind (kOp1 f e' env) := rfl
theorem kOp1_e : kOp1 f e env u G = (e env G).bind (kOp2 f u) := rfl
theorem kOp2_e : kOp2 f u v G = lift (f u v G) := rfl
theorem eUn_e : eUn f1 e env G = (e env G).bind (kUn f1) := rfl
theorem kUn_e : kUn f1 u G = lift (f1 u G) := rfl
theorem aNil_e : aNil env G = .ok [] G := rfl
theorem aCons_e : aCons e r env G = (e env G).bind (kC1 r env) := rfl
theorem kC1_e : kC1 r env u G = (r env G).bind (kC2 u) := rfl
theorem kC2_e : kC2 u us G = .ok (u :: us) G := rfl
theorem aApp_e : aApp i j r r' env G = (r env G).bind (kA1 i j r' env) := rfl
theorem kA1_e : kA1 i j r' env us G = (r' env G).bind (kA2 i j us) := rfl
theorem kA2_e (h : us.length = i ∧ vs.length = j) : kA2 i j us vs G = .ok (us ++ vs) G := if_pos h
theorem eFN_e : eFN fn r env G = (r env G).bind (kFN fn) := rfl
theorem kFN_e : kFN fn us G = lift (fn us G) := rfl
theorem eCall_e : eCall A g r env G = (r env G).bind (kCall A g) := rfl
theorem kCall_e (h : A us.length = true) : kCall A g us G = g us G := if_pos h
theorem eMake_e : eMake cl A gi r env G = (r env G).bind (kMake cl A gi) := rfl
theorem kMake_e (h : A us.length = true) : kMake cl A gi us G = mkO cl (gi us G) := if_pos h
theorem eCMeth_e : eCMeth cl A g r env G = (r env G).bind (kCM cl A g) := rfl
theorem kCM_e (h : A (us.length + 1) = true) : kCM cl A g us G = g (.d (.cls cl) :: us) G := if_pos h
theorem eMeth_e : eMeth ms e r env G = (e env G).bind (kMeth ms r env) := by
  unfold eMeth
  congr 1
  funext x G1
  cases x with
  | o i => rfl
  | d x => cases x <;> rfl
theorem kMeth_e : kMeth ms r env u G = methO ms u r env G := rfl
theorem eCallO_e : eCallO ms e r env G = eMeth ms e r env G := rfl
theorem eLst_e : eLst r env G = (r env G).bind kLst := rfl
theorem kLst_e : kLst us G = lstK (datas us) G := rfl
theorem lstK_s : lstK (some ds) G = if ds.length ≤ lstMax then .ok (.d (.lst ds)) G else .st := rfl
theorem eTup_e : eTup r env G = (r env G).bind kTup := rfl
theorem kTup_e : kTup us G = tupK (datas us) G := rfl
theorem tupK_s : tupK (some ds) G = if ds.length ≤ lstMax then .ok (.d (.tup ds)) G else .st := rfl
theorem nLst_e : nLst r env G = (r env G).bind kNl := rfl
theorem kNl_e : kNl us G = nlK (datas us) G := rfl
theorem nlK_s : nlK (some ds) G = if ds.length ≤ lstMax then .ok (ds, G) G else .st := rfl
theorem nList_e : nList r env G = (r env G).bind kNli := rfl
theorem kNli_e : kNli us G = nliK (lOf us) G := rfl
theorem nliK_s : nliK (some ds) G = .ok (ds, G) G := rfl
theorem lOf_l : lOf [.d (.lst ds)] = some ds := rfl
theorem lOf_t : lOf [.d (.tup ds)] = some ds := rfl
theorem nLc_e : nLc k is l t e env G = (l env G).bind (kNc1 k is t e env) := rfl
theorem kNc1_e : kNc1 k is t e env ds G = bindN (lcL k t e ds (wipeE env is) G) kNc2 := rfl
theorem kNc2_e : kNc2 ds G = if ds.length ≤ lstMax then .ok (ds, G) G else .st := rfl
theorem eLc_e : eLc k is l t e env G = (l env G).bind (kLc1 k is t e env) := rfl
theorem kLc1_e : kLc1 k is t e env ds G = bindN (lcL k t e ds (wipeE env is) G) kLc2 := rfl
theorem kLc2_e : kLc2 ds G = if ds.length ≤ lstMax then .ok (.d (.lst ds)) G else .st := rfl
theorem lSeq_e : lSeq e env G = (e env G).bind kSeq := rfl
theorem kSeq_e : kSeq (.d (.lst xs)) G = .ok xs G := rfl
theorem lTup_e : lTup e env G = (e env G).bind kTpl := rfl
theorem kTpl_e : kTpl (.d (.tup xs)) G = .ok xs G := rfl
theorem eIf_e : eIf t e e' env G = (t env G).bind (kEIf e e' env) := rfl
theorem kEIf_t : kEIf e e' env true G = e env G := rfl
theorem kEIf_f : kEIf e e' env false G = e' env G := rfl
theorem eAnd_e : eAnd e e' env G = (e env G).bind (kEAnd e' env) := rfl
theorem kEAnd_t : kEAnd e env (.d (.bl true)) G = e env G := rfl
theorem kEAnd_f : kEAnd e env (.d (.bl false)) G = .ok (.d (.bl false)) G := rfl
theorem eOr_e : eOr e e' env G = (e env G).bind (kEOr e' env) := rfl
theorem kEOr_t : kEOr e env (.d (.bl true)) G = .ok (.d (.bl true)) G := rfl
theorem kEOr_f : kEOr e env (.d (.bl false)) G = e env G := rfl
theorem eNot_e : eNot e env G = (e env G).bind kENot := rfl
theorem kENot_e {k : Bool} : kENot (.d (.bl k)) G = .ok (.d (.bl (!k))) G := rfl
theorem bOf_e {F : EV → GS → Option (Bool × GS)} : bOf F e env G = (e env G).bind (kB F) := rfl
theorem kB_e {F : EV → GS → Option (Bool × GS)} : kB F u G = lift (F u G) := rfl
theorem bAnd_e : bAnd ta tb env G = (ta env G).bind (kBAnd tb env) := rfl
theorem kBAnd_t : kBAnd tb env true G = tb env G := rfl
theorem kBAnd_f : kBAnd tb env false G = .ok false G := rfl
theorem bOr_e : bOr ta tb env G = (ta env G).bind (kBOr tb env) := rfl
theorem kBOr_t : kBOr tb env true G = .ok true G := rfl
theorem kBOr_f : kBOr tb env false G = tb env G := rfl
theorem bNot_e : bNot ta env G = (ta env G).bind kBNot := rfl
theorem kBNot_e {k : Bool} : kBNot k G = .ok (!k) G := rfl
theorem eFld_e {ks : List (String × Nat)} : eFld ks e env G = (e env G).bind (kUn (pure1 (gFld ks))) := rfl
theorem runB_e : runB i m us G = retO (m (env0 i us) G) := rfl
theorem env0_e : env0 i us = us.map .ev ++ List.replicate (i - us.length) .no := rfl
theorem oN_e : oNone env G = .ok none G := rfl
theorem oS_e : oSome e env G = (e env G).bind kOS := rfl
theorem kOS_e : kOS (.d (.int z)) G = .ok (some z) G := rfl
theorem eSl_e : eSl e lo hi env G = (e env G).bind (kSl1 lo hi env) := rfl
theorem kSl1_e : kSl1 lo hi env u G = (lo env G).bind (kSl2 hi env u) := rfl
theorem kSl2_e : kSl2 hi env u oz G = (hi env G).bind (kSl3 u oz) := rfl
theorem kSl3_e : kSl3 (.d (.lst xs)) oz ow G = .ok (.d (.lst (cutL xs oz ow))) G := rfl
theorem eSlT_e : eSlT e lo hi env G = (e env G).bind (kSt1 lo hi env) := rfl
theorem kSt1_e : kSt1 lo hi env u G = (lo env G).bind (kSt2 hi env u) := rfl
theorem kSt2_e : kSt2 hi env u oz G = (hi env G).bind (kSt3 u oz) := rfl
theorem kSt3_e : kSt3 (.d (.tup xs)) oz ow G = .ok (.d (.tup (cutL xs oz ow))) G := rfl
end
theorem rng_1 {env : En} {G : GS} : lRng1 (aCons (eC (.int 1)) aNil) env G = .ok [.int 0] G := rfl
theorem rng_2 {env : En} {G : GS} : lRng1 (aCons (eC (.int 2)) aNil) env G = .ok [.int 0, .int 1] G := rfl
theorem rng_3 {env : En} {G : GS} : lRng1 (aCons (eC (.int 3)) aNil) env G = .ok [.int 0, .int 1, .int 2] G := rfl
theorem rng_4 {env : En} {G : GS} : lRng1 (aCons (eC (.int 4)) aNil) env G = .ok [.int 0, .int 1, .int 2, .int 3] G := rfl
theorem rng_5 {env : En} {G : GS} : lRng1 (aCons (eC (.int 5)) aNil) env G = .ok [.int 0, .int 1, .int 2, .int 3, .int 4] G := rfl
theorem rng_6 {env : En} {G : GS} : lRng1 (aCons (eC (.int 6)) aNil) env G = .ok [.int 0, .int 1, .int 2, .int 3, .int 4, .int 5] G := rfl
/-! raising, catching -/
def kEr (cl : String) (ok : D → Bool) (env : En) : EV → GS → OutS := fun e G1 => match e with
  | .d x => if ok x = true then .er cl [x] env G1 else .st
  | _ => .st
theorem sEr_e {cl : String} {ok : D → Bool} {m : EM} {env : En} {G : GS} : sEr cl ok m env G = ofE (m env G) env (kEr cl ok env) := rfl
theorem kEr_e {cl : String} {ok : D → Bool} {x : D} {env : En} {G : GS} (h : ok x = true) : kEr cl ok env (.d x) G = .er cl [x] env G := if_pos h
def tryK (i : Nat) (cl : String) (ms : SM) (o : OutS) : OutS := match o with
  | .er k fs env1 G1 => if k = cl ∧ env1.all plainS = true ∧ i < env1.length then afterO i (ms (env1.set i (.exn cl fs)) G1) else .st
  | o => o
theorem sTryAs_e {i : Nat} {cl : String} {mb ms : SM} {env : En} {G : GS} : sTryAs i cl mb ms env G = tryK i cl ms (mb env G) := rfl
theorem tryK_nx {i : Nat} {cl : String} {ms : SM} {env : En} {G : GS} : tryK i cl ms (.nx env G) = .nx env G := rfl
theorem tryK_rt {i : Nat} {cl : String} {ms : SM} {e : EV} {G : GS} : tryK i cl ms (.rt e G) = .rt e G := rfl
theorem tryK_er {i : Nat} {cl : String} {fs : List D} {ms : SM} {env : En} {G : GS} (h : env.all plainS = true) (hi : i < env.length) : tryK i cl ms (.er cl fs env G) = afterO i (ms (env.set i (.exn cl fs)) G) := if_pos ⟨rfl, h, hi⟩
theorem afterO_rt {i : Nat} {e : EV} {G : GS} : afterO i (.rt e G) = .rt e G := rfl
theorem afterO_nx {i : Nat} {env : En} {G : GS} (h : (env.set i .no).all plainS = true) : afterO i (.nx env G) = .nx (env.set i .no) G := if_pos h
def xfK (o : Option D) (G : GS) : Out EV := match o with
  | some x => .ok (.d x) G
  | none => .st
def xfS (sl : Option Sl) (cl : String) (j : Nat) (G : GS) : Out EV := match sl with
  | some (.exn k fs) => if k = cl then xfK fs[j]? G else .st
  | _ => .st
theorem eXf_e {i : Nat} {cl : String} {j : Nat} {env : En} {G : GS} : eXf i cl j env G = xfS env[i]? cl j G := by
  unfold eXf xfS xfK
  cases (env[i]? : Option Sl) with
  | none => rfl
  | some sl => cases sl <;> rfl
theorem xfS_s {cl : String} {fs : List D} {j : Nat} {G : GS} : xfS (some (.exn cl fs)) cl j G = xfK fs[j]? G := if_pos rfl
theorem xfK_s {x : D} {G : GS} : xfK (some x) G = .ok (.d x) G := rfl
theorem plain_n : plainS .no = true := rfl
theorem plain_e {e : EV} : plainS (.ev e) = true := rfl
/-! comprehensions over what is the picture of a list -/
theorem lc_map {α : Type} {f g : α → D} {k : Nat} {te : EM} {env : En} {G : GS} : ∀ (xs : List α), (∀ x ∈ xs, te (env.set k (.ev (.d (f x)))) G = .ok (.d (g x)) G) → lcL k bYes te (xs.map f) env G = .ok (xs.map g) G
  | [], _ => rfl
  | x :: xs, h => by
    rw [List.map_cons, lc_c, bYes_e, bindN_ok, kT_t, h x (List.mem_cons_self ..), bindN_ok, kL1_e, lc_map xs fun y hy => h y (List.mem_cons_of_mem _ hy), bindN_ok]
    rfl
theorem lc_filt {α : Type} {f g : α → D} {p : α → Bool} {k : Nat} {tt : BM} {te : EM} {env : En} {G : GS} : ∀ (xs : List α), (∀ x ∈ xs, tt (env.set k (.ev (.d (f x)))) G = .ok (p x) G) → (∀ x ∈ xs, p x = true → te (env.set k (.ev (.d (f x)))) G = .ok (.d (g x)) G) → lcL k tt te (xs.map f) env G = .ok ((xs.filter p).map g) G
  | [], _, _ => rfl
  | x :: xs, h, h2 => by
    have ih := lc_filt xs (fun y hy => h y (List.mem_cons_of_mem _ hy)) (fun y hy => h2 y (List.mem_cons_of_mem _ hy))
    rw [List.map_cons, lc_c, h x (List.mem_cons_self ..), bindN_ok]
    cases hp : p x with
    | false => rw [kT_f, ih, List.filter_cons, hp]; rfl
    | true => rw [kT_t, h2 x (List.mem_cons_self ..) hp, bindN_ok, kL1_e, ih, bindN_ok, List.filter_cons, hp]; rfl
theorem asBs_true {α : Type} : ∀ xs : List α, asBs (xs.map fun _ => D.bl true) = some (xs.map fun _ => true)
  | [] => rfl
  | x :: xs => by show (asBs (xs.map fun _ => D.bl true)).map (true :: ·) = _; rw [asBs_true xs]; rfl
theorem fAll_true {α : Type} {xs : List α} {G : GS} : fAll [.d (.lst (xs.map fun _ => D.bl true))] G = some (.d (.bl true), G) := by
  show Option.map _ ((asBs (xs.map fun _ => D.bl true)).map fun bs => D.bl (bs.all id)) = _
  rw [asBs_true]
  show some (EV.d (D.bl ((xs.map fun _ => true).all id)), G) = _
  have e : (xs.map fun _ => true).all id = true := by induction xs with
    | nil => rfl
    | cons x xs ih => rw [List.map_cons, List.all_cons, ih]; rfl
  rw [e]
def kRng : List EV → GS → Out (List D) := fun xs G1 => match xs with
  | [.d (.int j)] => if -rngMax ≤ j ∧ j ≤ rngMax then .ok (lRng 0 j.toNat) G1 else .st
  | _ => .st
theorem lRng1_e {r : AM} {env : En} {G : GS} : lRng1 r env G = (r env G).bind kRng := rfl
def rangeD (n : Nat) : List D := (List.range n).map fun i : Nat => .int i
theorem kRng_n {n : Nat} {G : GS} (h : n ≤ 1000000) : kRng [.d (.int (n : Nat))] G = .ok (rangeD n) G := by
  show (if -rngMax ≤ (n : Int) ∧ (n : Int) ≤ rngMax then Out.ok (lRng 0 (n : Int).toNat) G else .st) = _
  rw [if_pos (by unfold rngMax; omega)]
  unfold lRng rangeD
  simp
theorem rangeD_len {n : Nat} : (rangeD n).length = n := by simp [rangeD]
theorem kRng_1 {G : GS} : kRng [.d (.int 1)] G = .ok [.int 0] G := rfl
theorem kRng_2 {G : GS} : kRng [.d (.int 2)] G = .ok [.int 0, .int 1] G := rfl
theorem kRng_3 {G : GS} : kRng [.d (.int 3)] G = .ok [.int 0, .int 1, .int 2] G := rfl
theorem kRng_4 {G : GS} : kRng [.d (.int 4)] G = .ok [.int 0, .int 1, .int 2, .int 3] G := rfl
theorem kRng_5 {G : GS} : kRng [.d (.int 5)] G = .ok [.int 0, .int 1, .int 2, .int 3, .int 4] G := rfl
theorem kRng_6 {G : GS} : kRng [.d (.int 6)] G = .ok [.int 0, .int 1, .int 2, .int 3, .int 4, .int 5] G := rfl
end DL
/-! reading by simp: try with several clauses, defaults -/
namespace DL
open PySem
def tryN (T : List TEnt) (o : OutS) : OutS := match o with
  | .er k fs env1 G1 => match T.find? fun t => t.1 == k with
    | some t => if env1.all plainS = true ∧ t.2.1 < env1.length then afterO t.2.1 (t.2.2 (env1.set t.2.1 (.exn k fs)) G1) else .st
    | none => .st
  | o => o
theorem sTryN_e {T : List TEnt} {mb : SM} {env : En} {G : GS} : sTryN T mb env G = tryN T (mb env G) := by
  unfold sTryN tryN
  cases mb env G <;> rfl
theorem tryN_nx {T : List TEnt} {env : En} {G : GS} : tryN T (.nx env G) = .nx env G := rfl
theorem tryN_rt {T : List TEnt} {e : EV} {G : GS} : tryN T (.rt e G) = .rt e G := rfl
theorem tryN_h {cl : String} {i : Nat} {ms : SM} {T : List TEnt} {fs : List D} {env : En} {G : GS} (h : env.all plainS = true) (hi : i < env.length) : tryN ((cl, i, ms) :: T) (.er cl fs env G) = afterO i (ms (env.set i (.exn cl fs)) G) := by
  show (match ((cl, i, ms) :: T).find? fun t => t.1 == cl with
    | some t => if env.all plainS = true ∧ t.2.1 < env.length then afterO t.2.1 (t.2.2 (env.set t.2.1 (.exn cl fs)) G) else .st
    | none => .st) = _
  rw [List.find?_cons_of_pos (by simp)]
  exact if_pos ⟨h, hi⟩
theorem tryN_t {cl k : String} {i : Nat} {ms : SM} {T : List TEnt} {fs : List D} {env : En} {G : GS} (h : ¬ cl = k) : tryN ((cl, i, ms) :: T) (.er k fs env G) = tryN T (.er k fs env G) := by
  show (match ((cl, i, ms) :: T).find? fun t => t.1 == k with
    | some t => if env.all plainS = true ∧ t.2.1 < env.length then afterO t.2.1 (t.2.2 (env.set t.2.1 (.exn k fs)) G) else .st
    | none => .st) = _
  rw [List.find?_cons_of_neg (by simpa using h)]
  rfl
theorem dflI_e {ds : List D} {g : IM} {es : List EV} {G : GS} : dflI ds g es G = g (es ++ ds.map EV.d) G := rfl
theorem dflF_e {ds : List D} {g : FM} {es : List EV} {G : GS} : dflF ds g es G = g (es ++ ds.map EV.d) G := rfl
end DL

/-! reading by simp: methods with keywords, properties, not of own truth -/
namespace DL
open PySem
def kMK2 (A : Ar) (g : FM) (x : D) : List EV → GS → Out EV := fun xs G2 => if A (xs.length + 1) = true then g (.d x :: xs) G2 else .st
def kMK (cl : String) (A : Ar) (g : FM) (r : AM) (env : En) : EV → GS → Out EV := fun x G1 => match x with
  | .d (.ins k fs) => if k = cl then (r env G1).bind (kMK2 A g (.ins k fs)) else .st
  | _ => .st
theorem eMethK_e {cl : String} {A : Ar} {g : FM} {mo : EM} {r : AM} {env : En} {G : GS} : eMethK cl A g mo r env G = (mo env G).bind (kMK cl A g r env) := rfl
theorem kMK_e {cl : String} {A : Ar} {g : FM} {r : AM} {env : En} {x : D} {G : GS} (h : kOf (.d x) = some cl) : kMK cl A g r env (.d x) G = (r env G).bind (kMK2 A g x) := by
  cases x with
  | ins k fs => cases h; exact if_pos rfl
  | _ => cases h
theorem kMK2_e {A : Ar} {g : FM} {x : D} {us : List EV} {G : GS} (h : A (us.length + 1) = true) : kMK2 A g x us G = g (.d x :: us) G := if_pos h
def kPr (cl : String) (A : Ar) (g : FM) : EV → GS → Out EV := fun x G1 => match x with
  | .d (.ins k fs) => if k = cl ∧ A 1 = true then lift (toOpt (g [.d (.ins k fs)] G1)) else .st
  | _ => .st
theorem eProp_e {cl : String} {A : Ar} {g : FM} {mo : EM} {env : En} {G : GS} : eProp cl A g mo env G = (mo env G).bind (kPr cl A g) := rfl
theorem kPr_e {cl : String} {A : Ar} {g : FM} {x : D} {G : GS} (h : kOf (.d x) = some cl) (hA : A 1 = true) : kPr cl A g (.d x) G = lift (toOpt (g [.d x] G)) := by
  cases x with
  | ins k fs => cases h; exact if_pos ⟨rfl, hA⟩
  | _ => cases h
def notK : Option (Bool × GS) → Out EV
  | some (b, G2) => .ok (.d (.bl (!b))) G2
  | none => .st
def kNotO (cl : String) (A : Ar) (g : FM) : EV → GS → Out EV := fun x G1 => notK (truO cl A g x G1)
theorem eNotO_e {cl : String} {A : Ar} {g : FM} {me : EM} {env : En} {G : GS} : eNotO cl A g me env G = (me env G).bind (kNotO cl A g) := rfl
theorem kNotO_e {cl : String} {A : Ar} {g : FM} {x : EV} {G : GS} : kNotO cl A g x G = notK (truO cl A g x G) := rfl
theorem notK_s {b : Bool} {G : GS} : notK (some (b, G)) = .ok (.d (.bl (!b))) G := rfl
end DL

set_option Elab.async false
set_option linter.all false
set_option maxRecDepth 100000
set_option maxHeartbeats 4000000
namespace K07
open PySem L2 PyProof.Rows StX ClX DL
/-! printed by gen.py from the linked text -/
def top (i : Nat) : Stmt := PySem.Challenge.pw_laidink_k07_film_questions.main.body.getD i (.Pass ⟨0, 0, 0, 0⟩)
def NN : String → List Str := fun k => if k = "Light" then ["bands", "number"] else if k = "Film" then ["bare", "inked"] else if k = "Ink" then ["off", "on", "takes"] else if k = "Filter" then ["off", "on", "takes"] else if k = "Opaque" then ["off", "on", "takes"] else if k = "Bleach" then ["off", "on", "takes"] else if k = "InvalidBand" then ["band"] else []
theorem boot_all : bootBuiltins "all" = some (.builtin "all") := by decide +kernel
theorem boot_bool : bootBuiltins "bool" = some (.type "bool") := by decide +kernel
theorem boot_int : bootBuiltins "int" = some (.type "int") := by decide +kernel
theorem boot_isinstance : bootBuiltins "isinstance" = some (.builtin "isinstance") := by decide +kernel
theorem boot_len : bootBuiltins "len" = some (.builtin "len") := by decide +kernel
theorem boot_list : bootBuiltins "list" = some (.type "list") := by decide +kernel
theorem boot_str : bootBuiltins "str" = some (.type "str") := by decide +kernel
theorem boot_tuple : bootBuiltins "tuple" = some (.type "tuple") := by decide +kernel
abbrev s__law_box : Stmt := top 27
abbrev s__law_draw : Stmt := top 28
abbrev s__law_light : Stmt := top 29
abbrev s__law_one : Stmt := top 30
abbrev s__law_drawn : Stmt := top 31
abbrev s__law_near : Stmt := top 32
abbrev s_check_band : Stmt := top 9
abbrev s__bands_of : Stmt := top 10
abbrev s_Light___init__ : Stmt := inClass (top 8) 1
abbrev s_Film___init__ : Stmt := inClass (top 13) 0
abbrev s_Film_nothing : Stmt := inClass (top 13) 1
abbrev s__effect_for : Stmt := top 14
abbrev s__light : Stmt := top 11
abbrev s_Light___or__ : Stmt := inClass (top 8) 5
abbrev s_Light___sub__ : Stmt := inClass (top 8) 7
abbrev s__followed : Stmt := top 16
abbrev s_Film___add__ : Stmt := inClass (top 13) 5
abbrev s_Ink_film : Stmt := inClass (top 18) 3
abbrev s_Light___and__ : Stmt := inClass (top 8) 6
abbrev s_Light___bool__ : Stmt := inClass (top 8) 13
abbrev s_Ink___init__ : Stmt := inClass (top 18) 1
abbrev s_Light_numbered : Stmt := inClass (top 8) 2
abbrev s_Light___invert__ : Stmt := inClass (top 8) 9
abbrev s__law_ink : Stmt := top 23
abbrev s__law_sum : Stmt := top 39
abbrev s__law_active : Stmt := top 33
abbrev s__law_step : Stmt := top 34
abbrev s__law_print : Stmt := top 35
abbrev s__law_film : Stmt := top 36
abbrev s_Light___eq__ : Stmt := inClass (top 8) 11
abbrev s_Film___eq__ : Stmt := inClass (top 13) 6
abbrev s__law_is : Stmt := top 37
abbrev s__law_effect : Stmt := top 40
abbrev s__writes_nothing : Stmt := top 15
abbrev s_Film_idle : Stmt := inClass (top 13) 2
abbrev s__law_bands : Stmt := top 24
abbrev s__law_int : Stmt := top 25
abbrev s__law_same_light : Stmt := top 26
abbrev s__law_same_effect : Stmt := top 41
abbrev s__law_same_text : Stmt := top 38
abbrev s__law_does : Stmt := top 42
abbrev s_Light___contains__ : Stmt := inClass (top 8) 10
abbrev s_Film_does : Stmt := inClass (top 13) 3
abbrev s__law_refused : Stmt := top 43
abbrev s_law : Stmt := top 44
abbrev s_InvalidBand___init__ : Stmt := inClass (top 3) 0
abbrev s_Filter___init__ : Stmt := inClass (top 19) 0
abbrev s_Bleach___init__ : Stmt := inClass (top 21) 0
abbrev s_Opaque___init__ : Stmt := inClass (top 20) 0
noncomputable section
structure Tx (P : Program) (K : PySem.W.Frag) (mg : Str → Option Value) (C A : String → Addr) (FD : String → FuncData) : Prop where
  F__law_box : Fun K "_law_box" "_law_box" s__law_box (A "_law_box") (FD "_law_box")
  M__law_box : mg "_law_box" = some (.ref (A "_law_box"))
  F__law_draw : Fun K "_law_draw" "_law_draw" s__law_draw (A "_law_draw") (FD "_law_draw")
  M__law_draw : mg "_law_draw" = some (.ref (A "_law_draw"))
  F__law_light : Fun K "_law_light" "_law_light" s__law_light (A "_law_light") (FD "_law_light")
  M__law_light : mg "_law_light" = some (.ref (A "_law_light"))
  F__law_one : Fun K "_law_one" "_law_one" s__law_one (A "_law_one") (FD "_law_one")
  M__law_one : mg "_law_one" = some (.ref (A "_law_one"))
  F__law_drawn : Fun K "_law_drawn" "_law_drawn" s__law_drawn (A "_law_drawn") (FD "_law_drawn")
  M__law_drawn : mg "_law_drawn" = some (.ref (A "_law_drawn"))
  F__law_near : Fun K "_law_near" "_law_near" s__law_near (A "_law_near") (FD "_law_near")
  M__law_near : mg "_law_near" = some (.ref (A "_law_near"))
  F_check_band : Fun K "check_band" "check_band" s_check_band (A "check_band") (FD "check_band")
  M_check_band : mg "check_band" = some (.ref (A "check_band"))
  F__bands_of : Fun K "_bands_of" "_bands_of" s__bands_of (A "_bands_of") (FD "_bands_of")
  M__bands_of : mg "_bands_of" = some (.ref (A "_bands_of"))
  F_Light___init__ : Fun K "__init__" "Light.__init__" s_Light___init__ (A "Light.__init__") (FD "Light.__init__")
  b_Light___init__ : BindS (FD "Light.__init__") ["self"] "bands"
  F_Film___init__ : Fun K "__init__" "Film.__init__" s_Film___init__ (A "Film.__init__") (FD "Film.__init__")
  F_Film_nothing : Fun K "nothing" "Film.nothing" s_Film_nothing (A "Film.nothing") (FD "Film.nothing")
  F__effect_for : Fun K "_effect_for" "_effect_for" s__effect_for (A "_effect_for") (FD "_effect_for")
  M__effect_for : mg "_effect_for" = some (.ref (A "_effect_for"))
  F__light : Fun K "_light" "_light" s__light (A "_light") (FD "_light")
  M__light : mg "_light" = some (.ref (A "_light"))
  F_Light___or__ : Fun K "__or__" "Light.__or__" s_Light___or__ (A "Light.__or__") (FD "Light.__or__")
  F_Light___sub__ : Fun K "__sub__" "Light.__sub__" s_Light___sub__ (A "Light.__sub__") (FD "Light.__sub__")
  F__followed : Fun K "_followed" "_followed" s__followed (A "_followed") (FD "_followed")
  M__followed : mg "_followed" = some (.ref (A "_followed"))
  F_Film___add__ : Fun K "__add__" "Film.__add__" s_Film___add__ (A "Film.__add__") (FD "Film.__add__")
  F_Ink_film : Fun K "film" "Ink.film" s_Ink_film (A "Ink.film") (FD "Ink.film")
  F_Light___and__ : Fun K "__and__" "Light.__and__" s_Light___and__ (A "Light.__and__") (FD "Light.__and__")
  F_Light___bool__ : Fun K "__bool__" "Light.__bool__" s_Light___bool__ (A "Light.__bool__") (FD "Light.__bool__")
  F_Ink___init__ : Fun K "__init__" "Ink.__init__" s_Ink___init__ (A "Ink.__init__") (FD "Ink.__init__")
  F_Light_numbered : Fun K "numbered" "Light.numbered" s_Light_numbered (A "Light.numbered") (FD "Light.numbered")
  F_Light___invert__ : Fun K "__invert__" "Light.__invert__" s_Light___invert__ (A "Light.__invert__") (FD "Light.__invert__")
  F__law_ink : Fun K "_law_ink" "_law_ink" s__law_ink (A "_law_ink") (FD "_law_ink")
  M__law_ink : mg "_law_ink" = some (.ref (A "_law_ink"))
  F__law_sum : Fun K "_law_sum" "_law_sum" s__law_sum (A "_law_sum") (FD "_law_sum")
  M__law_sum : mg "_law_sum" = some (.ref (A "_law_sum"))
  F__law_active : Fun K "_law_active" "_law_active" s__law_active (A "_law_active") (FD "_law_active")
  M__law_active : mg "_law_active" = some (.ref (A "_law_active"))
  F__law_step : Fun K "_law_step" "_law_step" s__law_step (A "_law_step") (FD "_law_step")
  M__law_step : mg "_law_step" = some (.ref (A "_law_step"))
  F__law_print : Fun K "_law_print" "_law_print" s__law_print (A "_law_print") (FD "_law_print")
  M__law_print : mg "_law_print" = some (.ref (A "_law_print"))
  F__law_film : Fun K "_law_film" "_law_film" s__law_film (A "_law_film") (FD "_law_film")
  M__law_film : mg "_law_film" = some (.ref (A "_law_film"))
  F_Light___eq__ : Fun K "__eq__" "Light.__eq__" s_Light___eq__ (A "Light.__eq__") (FD "Light.__eq__")
  F_Film___eq__ : Fun K "__eq__" "Film.__eq__" s_Film___eq__ (A "Film.__eq__") (FD "Film.__eq__")
  F__law_is : Fun K "_law_is" "_law_is" s__law_is (A "_law_is") (FD "_law_is")
  M__law_is : mg "_law_is" = some (.ref (A "_law_is"))
  F__law_effect : Fun K "_law_effect" "_law_effect" s__law_effect (A "_law_effect") (FD "_law_effect")
  M__law_effect : mg "_law_effect" = some (.ref (A "_law_effect"))
  F__writes_nothing : Fun K "_writes_nothing" "_writes_nothing" s__writes_nothing (A "_writes_nothing") (FD "_writes_nothing")
  M__writes_nothing : mg "_writes_nothing" = some (.ref (A "_writes_nothing"))
  F_Film_idle : Fun K "idle" "Film.idle" s_Film_idle (A "Film.idle") (FD "Film.idle")
  F__law_bands : Fun K "_law_bands" "_law_bands" s__law_bands (A "_law_bands") (FD "_law_bands")
  M__law_bands : mg "_law_bands" = some (.ref (A "_law_bands"))
  F__law_int : Fun K "_law_int" "_law_int" s__law_int (A "_law_int") (FD "_law_int")
  M__law_int : mg "_law_int" = some (.ref (A "_law_int"))
  F__law_same_light : Fun K "_law_same_light" "_law_same_light" s__law_same_light (A "_law_same_light") (FD "_law_same_light")
  M__law_same_light : mg "_law_same_light" = some (.ref (A "_law_same_light"))
  F__law_same_effect : Fun K "_law_same_effect" "_law_same_effect" s__law_same_effect (A "_law_same_effect") (FD "_law_same_effect")
  M__law_same_effect : mg "_law_same_effect" = some (.ref (A "_law_same_effect"))
  F__law_same_text : Fun K "_law_same_text" "_law_same_text" s__law_same_text (A "_law_same_text") (FD "_law_same_text")
  M__law_same_text : mg "_law_same_text" = some (.ref (A "_law_same_text"))
  F__law_does : Fun K "_law_does" "_law_does" s__law_does (A "_law_does") (FD "_law_does")
  M__law_does : mg "_law_does" = some (.ref (A "_law_does"))
  F_Light___contains__ : Fun K "__contains__" "Light.__contains__" s_Light___contains__ (A "Light.__contains__") (FD "Light.__contains__")
  F_Film_does : Fun K "does" "Film.does" s_Film_does (A "Film.does") (FD "Film.does")
  F__law_refused : Fun K "_law_refused" "_law_refused" s__law_refused (A "_law_refused") (FD "_law_refused")
  M__law_refused : mg "_law_refused" = some (.ref (A "_law_refused"))
  F_law : Fun K "law" "law" s_law (A "law") (FD "law")
  M_law : mg "law" = some (.ref (A "law"))
  M_Bleach : mg "Bleach" = some (.ref (C "Bleach"))
  M_Film : mg "Film" = some (.ref (C "Film"))
  M_Filter : mg "Filter" = some (.ref (C "Filter"))
  M_Ink : mg "Ink" = some (.ref (C "Ink"))
  M_InvalidBand : mg "InvalidBand" = some (.ref (C "InvalidBand"))
  M_Light : mg "Light" = some (.ref (C "Light"))
  M_Opaque : mg "Opaque" = some (.ref (C "Opaque"))
  cl_Bleach : Cls K (C "Bleach")
  cl_Film : Cls K (C "Film")
  cl_Filter : Cls K (C "Filter")
  cl_Ink : Cls K (C "Ink")
  cl_Light : Cls K (C "Light")
  cl_Opaque : Cls K (C "Opaque")
  na_Bleach_off : NoAttr K (C "Bleach") "off"
  na_Bleach_on : NoAttr K (C "Bleach") "on"
  na_Bleach_takes : NoAttr K (C "Bleach") "takes"
  na_Film_bare : NoAttr K (C "Film") "bare"
  na_Film_inked : NoAttr K (C "Film") "inked"
  na_Filter_off : NoAttr K (C "Filter") "off"
  na_Filter_on : NoAttr K (C "Filter") "on"
  na_Filter_takes : NoAttr K (C "Filter") "takes"
  na_Ink_off : NoAttr K (C "Ink") "off"
  na_Ink_on : NoAttr K (C "Ink") "on"
  na_Ink_takes : NoAttr K (C "Ink") "takes"
  na_Light_bands : NoAttr K (C "Light") "bands"
  na_Light_number : NoAttr K (C "Light") "number"
  na_Opaque_off : NoAttr K (C "Opaque") "off"
  na_Opaque_on : NoAttr K (C "Opaque") "on"
  na_Opaque_takes : NoAttr K (C "Opaque") "takes"
  mk_Bleach : Mk K (C "Bleach") (A "Bleach.__init__")
  mk_Film : Mk K (C "Film") (A "Film.__init__")
  mk_Filter : Mk K (C "Filter") (A "Filter.__init__")
  mk_Ink : Mk K (C "Ink") (A "Ink.__init__")
  mk_Light : Mk K (C "Light") (A "Light.__init__")
  mk_Opaque : Mk K (C "Opaque") (A "Opaque.__init__")
  me_Bleach_film : Meth K (C "Bleach") "film" (A "Ink.film")
  me_Film_does : Meth K (C "Film") "does" (A "Film.does")
  me_Filter_film : Meth K (C "Filter") "film" (A "Ink.film")
  me_Ink_film : Meth K (C "Ink") "film" (A "Ink.film")
  me_Opaque_film : Meth K (C "Opaque") "film" (A "Ink.film")
  cr_Film : ClX.CRead K (C "Film") (.type "type")
  cr_Ink : ClX.CRead K (C "Ink") (.type "type")
  cr_Light : ClX.CRead K (C "Light") (.type "type")
  cm_Film_nothing : ∃ p, ClX.CMet K (C "Film") (.type "type") "nothing" p (A "Film.nothing")
  cm_Light_numbered : ∃ p, ClX.CMet K (C "Light") (.type "type") "numbered" p (A "Light.numbered")
  cv_Light_BANDS : ∃ u, ClX.CVal K (C "Light") (.type "type") "BANDS" (.int 6) u
  ct_Ink_TAKES : TupC K (C "Ink") "TAKES" [("any" : Str), ("bare" : Str), ("inked" : Str)]
  co_LIGHTS : ∃ u, mg "LIGHTS" = some u ∧ RelV (.int 64) u
  sf_Film___add__ : PySem.W.selfFirst K (C "Film") = true
  ow_Film___add__ : PySem.W.findIn K (.ref (C "Film")) "__add__" = some (some (.ref (A "Film.__add__")))
  fn_Film___add__ : PySem.W.isFn K (.ref (A "Film.__add__")) = true
  sf_Film___eq__ : PySem.W.selfFirst K (C "Film") = true
  ow_Film___eq__ : PySem.W.findIn K (.ref (C "Film")) "__eq__" = some (some (.ref (A "Film.__eq__")))
  fn_Film___eq__ : PySem.W.isFn K (.ref (A "Film.__eq__")) = true
  sf_Light___and__ : PySem.W.selfFirst K (C "Light") = true
  ow_Light___and__ : PySem.W.findIn K (.ref (C "Light")) "__and__" = some (some (.ref (A "Light.__and__")))
  fn_Light___and__ : PySem.W.isFn K (.ref (A "Light.__and__")) = true
  sf_Light___bool__ : PySem.W.selfFirst K (C "Light") = true
  ow_Light___bool__ : PySem.W.findIn K (.ref (C "Light")) "__bool__" = some (some (.ref (A "Light.__bool__")))
  fn_Light___bool__ : PySem.W.isFn K (.ref (A "Light.__bool__")) = true
  sf_Light___contains__ : PySem.W.selfFirst K (C "Light") = true
  ow_Light___contains__ : PySem.W.findIn K (.ref (C "Light")) "__contains__" = some (some (.ref (A "Light.__contains__")))
  fn_Light___contains__ : PySem.W.isFn K (.ref (A "Light.__contains__")) = true
  sf_Light___eq__ : PySem.W.selfFirst K (C "Light") = true
  ow_Light___eq__ : PySem.W.findIn K (.ref (C "Light")) "__eq__" = some (some (.ref (A "Light.__eq__")))
  fn_Light___eq__ : PySem.W.isFn K (.ref (A "Light.__eq__")) = true
  sf_Light___invert__ : PySem.W.selfFirst K (C "Light") = true
  ow_Light___invert__ : PySem.W.findIn K (.ref (C "Light")) "__invert__" = some (some (.ref (A "Light.__invert__")))
  fn_Light___invert__ : PySem.W.isFn K (.ref (A "Light.__invert__")) = true
  sf_Light___or__ : PySem.W.selfFirst K (C "Light") = true
  ow_Light___or__ : PySem.W.findIn K (.ref (C "Light")) "__or__" = some (some (.ref (A "Light.__or__")))
  fn_Light___or__ : PySem.W.isFn K (.ref (A "Light.__or__")) = true
  sf_Light___sub__ : PySem.W.selfFirst K (C "Light") = true
  ow_Light___sub__ : PySem.W.findIn K (.ref (C "Light")) "__sub__" = some (some (.ref (A "Light.__sub__")))
  fn_Light___sub__ : PySem.W.isFn K (.ref (A "Light.__sub__")) = true
  nf_Film_own_Film : PySem.W.notFirst K (C "Film") (.ref (C "Film")) = true
  nf_Film_ty_list : PySem.W.notFirst K (C "Film") (.type "list") = true
  ic_Film : IsiC K (C "Film")
  ic_Light : IsiC K (C "Light")
  ik : IsiK K
  it_own_Light_own_Light : PySem.W.kitOne K (.ref (C "Light")) (.ref (C "Light")) = some true
  it_own_Film_own_Film : PySem.W.kitOne K (.ref (C "Film")) (.ref (C "Film")) = some true
  it_ty_list_own_Film : PySem.W.kitOne K (.type "list") (.ref (C "Film")) = some false
  it_ty_tuple_ty_tuple : PySem.W.kitOne K (.type "tuple") (.type "tuple") = some true
  it_ty_int_ty_int : PySem.W.kitOne K (.type "int") (.type "int") = some true
  it_ty_int_ty_bool : PySem.W.kitOne K (.type "int") (.type "bool") = some false
  it_ty_bool_ty_bool : PySem.W.kitOne K (.type "bool") (.type "bool") = some true
  it_ty_str_ty_str : PySem.W.kitOne K (.type "str") (.type "str") = some true
  no_all : mg "all" = none
  no_bool : mg "bool" = none
  no_int : mg "int" = none
  no_isinstance : mg "isinstance" = none
  no_len : mg "len" = none
  no_list : mg "list" = none
  no_range : mg "range" = none
  no_str : mg "str" = none
  no_super : mg "super" = none
  no_tuple : mg "tuple" = none
  er_InvalidBand : ErrF P K mg (C "InvalidBand") (A "InvalidBand.__init__") (FD "InvalidBand.__init__") s_InvalidBand___init__ "__init__" "InvalidBand.__init__" "self" "band" "band"
  su_Filter : SupI P K mg (C "Filter") (A "Filter.__init__") (FD "Filter.__init__") s_Filter___init__ "Filter.__init__" "self" (A "Ink.__init__")
  kbs_Filter : KBn K (FD "Filter.__init__") ["self", "light", "takes"] 2 ["takes"] (· ++ ·) (· ++ ·)
  su_Bleach : SupI P K mg (C "Bleach") (A "Bleach.__init__") (FD "Bleach.__init__") s_Bleach___init__ "Bleach.__init__" "self" (A "Ink.__init__")
  kbs_Bleach : KBn K (FD "Bleach.__init__") ["self", "light", "takes"] 2 ["takes"] (· ++ ·) (· ++ ·)
  su_Opaque : SupI P K mg (C "Opaque") (A "Opaque.__init__") (FD "Opaque.__init__") s_Opaque___init__ "Opaque.__init__" "self" (A "Ink.__init__")
  kbs_Opaque : KBn K (FD "Opaque.__init__") ["self", "light", "takes"] 2 ["takes"] (· ++ ·) (· ++ ·)
  xm_InvalidBand_InvalidBand : PySem.W.exmOne K (.ref (C "InvalidBand")) (.ref (C "InvalidBand")) = some true
  pr_Film_idle : ∃ p, PropOf K (C "Film") "idle" p (A "Film.idle")
  bd_Film_does : ∃ ds, Vals [.bl false] ds ∧ Binds K (FD "Film.does") ["self", "band", "inked"] ds
section
variable {P : Program} {w : World} {K : PySem.W.Frag} {mg : Str → Option Value} {base : Heap} {C A : String → Addr} {FD : String → FuncData}
theorem hf_Bleach_off (T : Tx P K mg C A FD) : HasF K C NN "off" "Bleach" 0 := ⟨T.cl_Bleach, T.na_Bleach_off, by decide +kernel⟩
theorem hf_Bleach_on (T : Tx P K mg C A FD) : HasF K C NN "on" "Bleach" 1 := ⟨T.cl_Bleach, T.na_Bleach_on, by decide +kernel⟩
theorem hf_Bleach_takes (T : Tx P K mg C A FD) : HasF K C NN "takes" "Bleach" 2 := ⟨T.cl_Bleach, T.na_Bleach_takes, by decide +kernel⟩
theorem hf_Film_bare (T : Tx P K mg C A FD) : HasF K C NN "bare" "Film" 0 := ⟨T.cl_Film, T.na_Film_bare, by decide +kernel⟩
theorem hf_Film_inked (T : Tx P K mg C A FD) : HasF K C NN "inked" "Film" 1 := ⟨T.cl_Film, T.na_Film_inked, by decide +kernel⟩
theorem hf_Filter_off (T : Tx P K mg C A FD) : HasF K C NN "off" "Filter" 0 := ⟨T.cl_Filter, T.na_Filter_off, by decide +kernel⟩
theorem hf_Filter_on (T : Tx P K mg C A FD) : HasF K C NN "on" "Filter" 1 := ⟨T.cl_Filter, T.na_Filter_on, by decide +kernel⟩
theorem hf_Filter_takes (T : Tx P K mg C A FD) : HasF K C NN "takes" "Filter" 2 := ⟨T.cl_Filter, T.na_Filter_takes, by decide +kernel⟩
theorem hf_Ink_off (T : Tx P K mg C A FD) : HasF K C NN "off" "Ink" 0 := ⟨T.cl_Ink, T.na_Ink_off, by decide +kernel⟩
theorem hf_Ink_on (T : Tx P K mg C A FD) : HasF K C NN "on" "Ink" 1 := ⟨T.cl_Ink, T.na_Ink_on, by decide +kernel⟩
theorem hf_Ink_takes (T : Tx P K mg C A FD) : HasF K C NN "takes" "Ink" 2 := ⟨T.cl_Ink, T.na_Ink_takes, by decide +kernel⟩
theorem hf_Light_bands (T : Tx P K mg C A FD) : HasF K C NN "bands" "Light" 0 := ⟨T.cl_Light, T.na_Light_bands, by decide +kernel⟩
theorem hf_Light_number (T : Tx P K mg C A FD) : HasF K C NN "number" "Light" 1 := ⟨T.cl_Light, T.na_Light_number, by decide +kernel⟩
theorem hf_Opaque_off (T : Tx P K mg C A FD) : HasF K C NN "off" "Opaque" 0 := ⟨T.cl_Opaque, T.na_Opaque_off, by decide +kernel⟩
theorem hf_Opaque_on (T : Tx P K mg C A FD) : HasF K C NN "on" "Opaque" 1 := ⟨T.cl_Opaque, T.na_Opaque_on, by decide +kernel⟩
theorem hf_Opaque_takes (T : Tx P K mg C A FD) : HasF K C NN "takes" "Opaque" 2 := ⟨T.cl_Opaque, T.na_Opaque_takes, by decide +kernel⟩
def NT_Film : List Tg := [.own "Film", .ty "list"]
theorem nt_Film (T : Tx P K mg C A FD) : ∀ t ∈ NT_Film, PySem.W.notFirst K (C "Film") (t.v C) = true := (all_cons (a := .own "Film") (p := fun t : Tg => PySem.W.notFirst K (C "Film") (t.v C) = true) T.nf_Film_own_Film (all_cons (a := .ty "list") (p := fun t : Tg => PySem.W.notFirst K (C "Film") (t.v C) = true) T.nf_Film_ty_list all_nil))
def TB : List (Tg × Tg × Bool) := [(.own "Light", .own "Light", true), (.own "Film", .own "Film", true), (.ty "list", .own "Film", false), (.ty "tuple", .ty "tuple", true), (.ty "int", .ty "int", true), (.ty "int", .ty "bool", false), (.ty "bool", .ty "bool", true), (.ty "str", .ty "str", true)]
theorem isi_tb (T : Tx P K mg C A FD) {t u : Tg} {b : Bool} (h : (t, u, b) ∈ TB) : PySem.W.kitOne K (t.v C) (u.v C) = some b ∧ ∀ k, t = .own k → IsiC K (C k) := (all_cons (a := ((.own "Light", .own "Light", true) : Tg × Tg × Bool)) (p := fun x : Tg × Tg × Bool => PySem.W.kitOne K (x.1.v C) (x.2.1.v C) = some x.2.2 ∧ ∀ k, x.1 = .own k → IsiC K (C k)) ⟨T.it_own_Light_own_Light, fun k e => by cases e; exact T.ic_Light⟩ (all_cons (a := ((.own "Film", .own "Film", true) : Tg × Tg × Bool)) (p := fun x : Tg × Tg × Bool => PySem.W.kitOne K (x.1.v C) (x.2.1.v C) = some x.2.2 ∧ ∀ k, x.1 = .own k → IsiC K (C k)) ⟨T.it_own_Film_own_Film, fun k e => by cases e; exact T.ic_Film⟩ (all_cons (a := ((.ty "list", .own "Film", false) : Tg × Tg × Bool)) (p := fun x : Tg × Tg × Bool => PySem.W.kitOne K (x.1.v C) (x.2.1.v C) = some x.2.2 ∧ ∀ k, x.1 = .own k → IsiC K (C k)) ⟨T.it_ty_list_own_Film, fun k e => by cases e⟩ (all_cons (a := ((.ty "tuple", .ty "tuple", true) : Tg × Tg × Bool)) (p := fun x : Tg × Tg × Bool => PySem.W.kitOne K (x.1.v C) (x.2.1.v C) = some x.2.2 ∧ ∀ k, x.1 = .own k → IsiC K (C k)) ⟨T.it_ty_tuple_ty_tuple, fun k e => by cases e⟩ (all_cons (a := ((.ty "int", .ty "int", true) : Tg × Tg × Bool)) (p := fun x : Tg × Tg × Bool => PySem.W.kitOne K (x.1.v C) (x.2.1.v C) = some x.2.2 ∧ ∀ k, x.1 = .own k → IsiC K (C k)) ⟨T.it_ty_int_ty_int, fun k e => by cases e⟩ (all_cons (a := ((.ty "int", .ty "bool", false) : Tg × Tg × Bool)) (p := fun x : Tg × Tg × Bool => PySem.W.kitOne K (x.1.v C) (x.2.1.v C) = some x.2.2 ∧ ∀ k, x.1 = .own k → IsiC K (C k)) ⟨T.it_ty_int_ty_bool, fun k e => by cases e⟩ (all_cons (a := ((.ty "bool", .ty "bool", true) : Tg × Tg × Bool)) (p := fun x : Tg × Tg × Bool => PySem.W.kitOne K (x.1.v C) (x.2.1.v C) = some x.2.2 ∧ ∀ k, x.1 = .own k → IsiC K (C k)) ⟨T.it_ty_bool_ty_bool, fun k e => by cases e⟩ (all_cons (a := ((.ty "str", .ty "str", true) : Tg × Tg × Bool)) (p := fun x : Tg × Tg × Bool => PySem.W.kitOne K (x.1.v C) (x.2.1.v C) = some x.2.2 ∧ ∀ k, x.1 = .own k → IsiC K (C k)) ⟨T.it_ty_str_ty_str, fun k e => by cases e⟩ all_nil)))))))) _ h
theorem sc__law_box : FnScope ["_law_script", "_law_cell"] ["_law_script"] (defScope s__law_box) := ⟨rfl, rfl, rfl, by decide +kernel, rfl, by decide +kernel, by decide +kernel⟩
@[reducible] def m__law_box : SM := sRet (eObj (aCons (eLcO 1 [1] (lSeq (eSl (eVar 0) (oNone) (oSome (eC (.int 63))))) (bYes) (eFN fInt (aCons (eVar 1) (aNil)))) (aCons (eC (.int 0)) (aCons (eC (.int 1)) (aNil)))))
def g__law_box : FM := runB 2 m__law_box
theorem ok__law_box (T : Tx P K mg C A FD) : FnG P w K mg base C NN 1 (A "_law_box") (arN 1) g__law_box :=
  fng_of T.F__law_box sc__law_box (T.F__law_box.binds (ps := ["_law_script"]) fun _ _ _ _ _ _ us hl => match us, hl with | [_], _ => rfl) (fun cdv Ar outer s H E B hr =>
    (dss_one (ds_ret (de_obj (da_cons (de_lcO (own := [("_law_cell", 1)]) rfl sc__law_box.nd (di_lst rfl (de_slL rfl (de_var (pv 0)) do_none (do_some de_int))) (blkOk_by (own := [("_law_cell", 1)]) (N := ["_law_script", "_law_cell"]) (sc := defScope s__law_box) (by decide +kernel)) (by decide) (fun _ _ _ _ _ => pg_name (i := 1) sc__law_box.nd rfl (Or.inl rfl)) (fun _ _ _ _ _ => dts_nil) (fun _ _ _ _ _ => (de_callT dcall_int rfl T.no_int boot_int (da_cons (de_var (pv 1)) da_nil)))) (da_cons de_int (da_cons de_int da_nil)))))))
theorem sc__law_draw : FnScope ["_law_box_here", "_law_size", "_law_cells", "_law_place", "_law_cell", "_law_state", "_law_power"] ["_law_box_here", "_law_size"] (defScope s__law_draw) := ⟨rfl, rfl, rfl, by decide +kernel, rfl, by decide +kernel, by decide +kernel⟩
@[reducible] def m__law_draw : SM := sSeq (sSet 2 (eOp fIx (eVar 0) (eC (.int 0)))) (sSeq (sSet 3 (eOp fIx (eVar 0) (eC (.int 1)))) (sSeq (sIf (bOf isB (eOp (fEq) (eFN fLen (aCons (eVar 2) (aNil))) (eC (.int 0)))) (sRet (eC (.int 0))) (sNil)) (sSeq (sIf (bAnd (bOf isB (eOp (fLt) (eVar 3) (eFN fLen (aCons (eVar 2) (aNil))))) (bOf isB (eOp (fGe) (eOp fIx (eVar 2) (eVar 3)) (eOp (fPow) (eC (.int 10)) (eC (.int 18)))))) (sSeq (sSet 4 (eOp fIx (eVar 2) (eVar 3))) (sSeq (sSub (eVar 2) (eVar 3) (eOp (fDiv) (eVar 4) (eVar 1))) (sRet (eOp (fMod) (eFN fInt (aCons (eVar 4) (aNil))) (eVar 1))))) (sNil)) (sSeq (sSet 4 (eC (.int 0))) (sSeq (sIf (bOf isB (eOp (fLt) (eVar 3) (eFN fLen (aCons (eVar 2) (aNil))))) (sSet 4 (eOp fIx (eVar 2) (eVar 3))) (sNil)) (sSeq (sSub (eVar 0) (eC (.int 1)) (eOp (fAdd) (eVar 3) (eC (.int 1)))) (sSeq (sSet 5 (eOp (fMod) (eFN fInt (aCons (eOp (fAdd) (eOp (fAdd) (eOp (fAdd) (eOp (fMul) (eOp fIx (eVar 0) (eC (.int 2))) (eC (.int 48271))) (eOp (fMul) (eOp (fMod) (eFN fInt (aCons (eVar 4) (aNil))) (eC (.int 2147483629))) (eC (.int 69621)))) (eVar 3)) (eC (.int 1))) (aNil))) (eC (.int 2147483647)))) (sSeq (sSub (eVar 0) (eC (.int 2)) (eVar 5)) (sSeq (sSet 6 (eOp (fMod) (eFN fInt (aCons (eOp (fAdd) (eOp (fMul) (eVar 5) (eVar 5)) (eOp (fMul) (eVar 5) (eC (.int 16807)))) (aNil))) (eC (.int 998244353)))) (sRet (eOp (fMod) (eFN fInt (aCons (eOp (fDiv) (eVar 6) (eC (.int 5))) (aNil))) (eVar 1))))))))))))
def g__law_draw : FM := runB 7 m__law_draw
theorem ok__law_draw (T : Tx P K mg C A FD) : FnG P w K mg base C NN 1 (A "_law_draw") (arN 2) g__law_draw :=
  fng_of T.F__law_draw sc__law_draw (T.F__law_draw.binds (ps := ["_law_box_here", "_law_size"]) fun _ _ _ _ _ _ us hl => match us, hl with | [_, _], _ => rfl) (fun cdv Ar outer s H E B hr =>
    (dss_cons (ds_set (i := 2) sc__law_draw.nd rfl (Or.inl rfl) (de_ix (dix rfl) (de_var (pv 0)) de_int))
    (dss_cons (ds_set (i := 3) sc__law_draw.nd rfl (Or.inl rfl) (de_ix (dix rfl) (de_var (pv 0)) de_int))
    (dss_cons (ds_if (db_cmp (dop_eq rfl hr.units) (de_callB (dcall_len rfl) rfl T.no_len boot_len (da_cons (de_var (pv 2)) da_nil)) de_int (nomark _)) (dss_one (ds_ret de_int)) dss_nil)
    (dss_cons (ds_if (DW.db (dw_and (db_cmp dop_lt (de_var (pv 3)) (de_callB (dcall_len rfl) rfl T.no_len boot_len (da_cons (de_var (pv 2)) da_nil)) (nomark _)) (dw_and1 (db_cmp dop_ge (de_ix (dix rfl) (de_var (pv 2)) (de_var (pv 3))) (de_op dop_pow de_int de_int) (nomark _))))) (dss_cons (ds_set (i := 4) sc__law_draw.nd rfl (Or.inl rfl) (de_ix (dix rfl) (de_var (pv 2)) (de_var (pv 3))))
    (dss_cons (ds_sub (de_var (pv 2)) (de_var (pv 3)) (de_op dop_div (de_var (pv 4)) (de_var (pv 1))))
    (dss_one (ds_ret (de_op dop_mod (de_callT dcall_int rfl T.no_int boot_int (da_cons (de_var (pv 4)) da_nil)) (de_var (pv 1))))))) dss_nil)
    (dss_cons (ds_set (i := 4) sc__law_draw.nd rfl (Or.inl rfl) de_int)
    (dss_cons (ds_if (db_cmp dop_lt (de_var (pv 3)) (de_callB (dcall_len rfl) rfl T.no_len boot_len (da_cons (de_var (pv 2)) da_nil)) (nomark _)) (dss_one (ds_set (i := 4) sc__law_draw.nd rfl (Or.inl rfl) (de_ix (dix rfl) (de_var (pv 2)) (de_var (pv 3))))) dss_nil)
    (dss_cons (ds_sub (de_var (pv 0)) de_int (de_op dop_add (de_var (pv 3)) de_int))
    (dss_cons (ds_set (i := 5) sc__law_draw.nd rfl (Or.inl rfl) (de_op dop_mod (de_callT dcall_int rfl T.no_int boot_int (da_cons (de_op dop_add (de_op dop_add (de_op dop_add (de_op dop_mul (de_ix (dix rfl) (de_var (pv 0)) de_int) de_int) (de_op dop_mul (de_op dop_mod (de_callT dcall_int rfl T.no_int boot_int (da_cons (de_var (pv 4)) da_nil)) de_int) de_int)) (de_var (pv 3))) de_int) da_nil)) de_int))
    (dss_cons (ds_sub (de_var (pv 0)) de_int (de_var (pv 5)))
    (dss_cons (ds_set (i := 6) sc__law_draw.nd rfl (Or.inl rfl) (de_op dop_mod (de_callT dcall_int rfl T.no_int boot_int (da_cons (de_op dop_add (de_op dop_mul (de_var (pv 5)) (de_var (pv 5))) (de_op dop_mul (de_var (pv 5)) de_int)) da_nil)) de_int))
    (dss_one (ds_ret (de_op dop_mod (de_callT dcall_int rfl T.no_int boot_int (da_cons (de_op dop_div (de_var (pv 6)) de_int) da_nil)) (de_var (pv 1))))))))))))))))
theorem sc__law_light : FnScope ["_law_box_here"] ["_law_box_here"] (defScope s__law_light) := ⟨rfl, rfl, rfl, by decide +kernel, rfl, by decide +kernel, by decide +kernel⟩
@[reducible] def m__law_light : SM := sSeq (sIf (bOf isB (eOp (fEq) (eCall (arN 2) g__law_draw (aCons (eVar 0) (aCons (eC (.int 2)) (aNil)))) (eC (.int 0)))) (sRet (eOp fIx (eLst (aCons (eC (.int 1)) (aCons (eC (.int 2)) (aCons (eC (.int 4)) (aCons (eC (.int 8)) (aCons (eC (.int 16)) (aCons (eC (.int 32)) (aCons (eC (.int 0)) (aNil))))))))) (eCall (arN 2) g__law_draw (aCons (eVar 0) (aCons (eC (.int 7)) (aNil)))))) (sNil)) (sRet (eCall (arN 2) g__law_draw (aCons (eVar 0) (aCons (eC (.int 64)) (aNil)))))
def g__law_light : FM := runB 1 m__law_light
theorem ok__law_light (T : Tx P K mg C A FD) : FnG P w K mg base C NN 2 (A "_law_light") (arN 1) g__law_light :=
  fng_of T.F__law_light sc__law_light (T.F__law_light.binds (ps := ["_law_box_here"]) fun _ _ _ _ _ _ us hl => match us, hl with | [_], _ => rfl) (fun cdv Ar outer s H E B hr =>
    (dss_cons (ds_if (db_cmp (dop_eq rfl hr.units) (de_call (ok__law_draw T) rfl (hr.mono (by decide)) rfl T.M__law_draw T.F__law_draw.kp (takesF rfl rfl rfl rfl) (da_cons (de_var (pv 0)) (da_cons de_int da_nil))) de_int (nomark _)) (dss_one (ds_ret (de_ix (dix rfl) (de_lst (da_cons de_int (da_cons de_int (da_cons de_int (da_cons de_int (da_cons de_int (da_cons de_int (da_cons de_int da_nil)))))))) (de_call (ok__law_draw T) rfl (hr.mono (by decide)) rfl T.M__law_draw T.F__law_draw.kp (takesF rfl rfl rfl rfl) (da_cons (de_var (pv 0)) (da_cons de_int da_nil)))))) dss_nil)
    (dss_one (ds_ret (de_call (ok__law_draw T) rfl (hr.mono (by decide)) rfl T.M__law_draw T.F__law_draw.kp (takesF rfl rfl rfl rfl) (da_cons (de_var (pv 0)) (da_cons de_int da_nil)))))))
theorem sc__law_one : FnScope ["_law_box_here", "_law_names", "_law_conditional", "_law_sided", "_law_mask", "_law_side", "_law_place", "_law_when", "_law_kind", "_law_light_here"] ["_law_box_here", "_law_names", "_law_conditional", "_law_sided"] (defScope s__law_one) := ⟨rfl, rfl, rfl, by decide +kernel, rfl, by decide +kernel, by decide +kernel⟩
@[reducible] def m__law_one : SM := sSeq (sSet 4 (eC .non)) (sSeq (sSet 5 (eC (.bl false))) (sSeq (sSet 6 (eCall (arN 2) g__law_draw (aCons (eVar 0) (aCons (eOp (fAdd) (eFN fLen (aCons (eVar 1) (aNil))) (eC (.int 1))) (aNil))))) (sSeq (sIf (bOf isB (eOp (fLt) (eVar 6) (eFN fLen (aCons (eVar 1) (aNil))))) (sSeq (sSet 4 (eOp fIx (eVar 1) (eVar 6))) (sSet 5 (eAnd (eVar 3) (eOp (fEq) (eCall (arN 2) g__law_draw (aCons (eVar 0) (aCons (eC (.int 3)) (aNil)))) (eC (.int 2)))))) (sNil)) (sSeq (sSet 7 (eC (.str "any"))) (sSeq (sIf (bOf truE (eVar 2)) (sSet 7 (eOp fIx (eLst (aCons (eC (.str "any")) (aCons (eC (.str "any")) (aCons (eC (.str "bare")) (aCons (eC (.str "inked")) (aNil)))))) (eCall (arN 2) g__law_draw (aCons (eVar 0) (aCons (eC (.int 4)) (aNil)))))) (sNil)) (sSeq (sSet 8 (eOp fIx (eLst (aCons (eC (.str "filter")) (aCons (eC (.str "bleach")) (aCons (eC (.str "opaque")) (aCons (eC (.str "ink")) (aNil)))))) (eCall (arN 2) g__law_draw (aCons (eVar 0) (aCons (eC (.int 4)) (aNil)))))) (sSeq (sSet 9 (eCall (arN 1) g__law_light (aCons (eVar 0) (aNil)))) (sSeq (sIf (bOf isB (eOp (fEq) (eVar 8) (eC (.str "filter")))) (sRet (eTup (aCons (eVar 4) (aCons (eVar 5) (aCons (eVar 7) (aCons (eVar 9) (aCons (eC (.int 0)) (aCons (eVar 8) (aNil))))))))) (sNil)) (sSeq (sIf (bOf isB (eOp (fEq) (eVar 8) (eC (.str "bleach")))) (sRet (eTup (aCons (eVar 4) (aCons (eVar 5) (aCons (eVar 7) (aCons (eC (.int 0)) (aCons (eVar 9) (aCons (eVar 8) (aNil))))))))) (sNil)) (sSeq (sIf (bOf isB (eOp (fEq) (eVar 8) (eC (.str "opaque")))) (sRet (eTup (aCons (eVar 4) (aCons (eVar 5) (aCons (eVar 7) (aCons (eOp (fSub) (eC (.int 63)) (eVar 9)) (aCons (eVar 9) (aCons (eVar 8) (aNil))))))))) (sNil)) (sRet (eTup (aCons (eVar 4) (aCons (eVar 5) (aCons (eVar 7) (aCons (eVar 9) (aCons (eOp (fAnd) (eCall (arN 1) g__law_light (aCons (eVar 0) (aNil))) (eOp (fSub) (eC (.int 63)) (eVar 9))) (aCons (eVar 8) (aNil)))))))))))))))))))
def g__law_one : FM := runB 10 m__law_one
theorem ok__law_one (T : Tx P K mg C A FD) : FnG P w K mg base C NN 3 (A "_law_one") (arN 4) g__law_one :=
  fng_of T.F__law_one sc__law_one (T.F__law_one.binds (ps := ["_law_box_here", "_law_names", "_law_conditional", "_law_sided"]) fun _ _ _ _ _ _ us hl => match us, hl with | [_, _, _, _], _ => rfl) (fun cdv Ar outer s H E B hr =>
    (dss_cons (ds_set (i := 4) sc__law_one.nd rfl (Or.inl rfl) de_non)
    (dss_cons (ds_set (i := 5) sc__law_one.nd rfl (Or.inl rfl) de_bl)
    (dss_cons (ds_set (i := 6) sc__law_one.nd rfl (Or.inl rfl) (de_call (ok__law_draw T) rfl (hr.mono (by decide)) rfl T.M__law_draw T.F__law_draw.kp (takesF rfl rfl rfl rfl) (da_cons (de_var (pv 0)) (da_cons (de_op dop_add (de_callB (dcall_len rfl) rfl T.no_len boot_len (da_cons (de_var (pv 1)) da_nil)) de_int) da_nil))))
    (dss_cons (ds_if (db_cmp dop_lt (de_var (pv 6)) (de_callB (dcall_len rfl) rfl T.no_len boot_len (da_cons (de_var (pv 1)) da_nil)) (nomark _)) (dss_cons (ds_set (i := 4) sc__law_one.nd rfl (Or.inl rfl) (de_ix (dix rfl) (de_var (pv 1)) (de_var (pv 6))))
    (dss_one (ds_set (i := 5) sc__law_one.nd rfl (Or.inl rfl) (de_and (de_var (pv 3)) (de_one (de_cmp (dop_eq rfl hr.units) (de_call (ok__law_draw T) rfl (hr.mono (by decide)) rfl T.M__law_draw T.F__law_draw.kp (takesF rfl rfl rfl rfl) (da_cons (de_var (pv 0)) (da_cons de_int da_nil))) de_int (nomark _))))))) dss_nil)
    (dss_cons (ds_set (i := 7) sc__law_one.nd rfl (Or.inl rfl) de_str)
    (dss_cons (ds_if (db_tru rfl (de_var (pv 2))) (dss_one (ds_set (i := 7) sc__law_one.nd rfl (Or.inl rfl) (de_ix (dix rfl) (de_lst (da_cons de_str (da_cons de_str (da_cons de_str (da_cons de_str da_nil))))) (de_call (ok__law_draw T) rfl (hr.mono (by decide)) rfl T.M__law_draw T.F__law_draw.kp (takesF rfl rfl rfl rfl) (da_cons (de_var (pv 0)) (da_cons de_int da_nil)))))) dss_nil)
    (dss_cons (ds_set (i := 8) sc__law_one.nd rfl (Or.inl rfl) (de_ix (dix rfl) (de_lst (da_cons de_str (da_cons de_str (da_cons de_str (da_cons de_str da_nil))))) (de_call (ok__law_draw T) rfl (hr.mono (by decide)) rfl T.M__law_draw T.F__law_draw.kp (takesF rfl rfl rfl rfl) (da_cons (de_var (pv 0)) (da_cons de_int da_nil)))))
    (dss_cons (ds_set (i := 9) sc__law_one.nd rfl (Or.inl rfl) (de_call (ok__law_light T) rfl (hr.mono (by decide)) rfl T.M__law_light T.F__law_light.kp (takesF rfl rfl rfl rfl) (da_cons (de_var (pv 0)) da_nil)))
    (dss_cons (ds_if (db_cmp (dop_eq rfl hr.units) (de_var (pv 8)) de_str (nomark _)) (dss_one (ds_ret (de_tup (da_cons (de_var (pv 4)) (da_cons (de_var (pv 5)) (da_cons (de_var (pv 7)) (da_cons (de_var (pv 9)) (da_cons de_int (da_cons (de_var (pv 8)) da_nil))))))))) dss_nil)
    (dss_cons (ds_if (db_cmp (dop_eq rfl hr.units) (de_var (pv 8)) de_str (nomark _)) (dss_one (ds_ret (de_tup (da_cons (de_var (pv 4)) (da_cons (de_var (pv 5)) (da_cons (de_var (pv 7)) (da_cons de_int (da_cons (de_var (pv 9)) (da_cons (de_var (pv 8)) da_nil))))))))) dss_nil)
    (dss_cons (ds_if (db_cmp (dop_eq rfl hr.units) (de_var (pv 8)) de_str (nomark _)) (dss_one (ds_ret (de_tup (da_cons (de_var (pv 4)) (da_cons (de_var (pv 5)) (da_cons (de_var (pv 7)) (da_cons (de_op dop_sub de_int (de_var (pv 9))) (da_cons (de_var (pv 9)) (da_cons (de_var (pv 8)) da_nil))))))))) dss_nil)
    (dss_one (ds_ret (de_tup (da_cons (de_var (pv 4)) (da_cons (de_var (pv 5)) (da_cons (de_var (pv 7)) (da_cons (de_var (pv 9)) (da_cons (de_op dop_and (de_call (ok__law_light T) rfl (hr.mono (by decide)) rfl T.M__law_light T.F__law_light.kp (takesF rfl rfl rfl rfl) (da_cons (de_var (pv 0)) da_nil)) (de_op dop_sub de_int (de_var (pv 9)))) (da_cons (de_var (pv 8)) da_nil)))))))))))))))))))))
theorem sc__law_drawn : FnScope ["_law_box_here", "_law_names", "_law_most", "_law_conditional", "_law_sided", "_law_ones", "_law_k"] ["_law_box_here", "_law_names", "_law_most", "_law_conditional", "_law_sided"] (defScope s__law_drawn) := ⟨rfl, rfl, rfl, by decide +kernel, rfl, by decide +kernel, by decide +kernel⟩
@[reducible] def m__law_drawn : SM := sSeq (sOwn 5 (nLst (aNil))) (sSeq (sFor 6 (lRng1 (aCons (eCall (arN 2) g__law_draw (aCons (eVar 0) (aCons (eOp (fAdd) (eVar 2) (eC (.int 1))) (aNil)))) (aNil))) (sIf (bAnd (bOf isB (eOp (fGt) (eOLen 5) (eC (.int 0)))) (bOf isB (eOp (fEq) (eCall (arN 2) g__law_draw (aCons (eVar 0) (aCons (eC (.int 5)) (aNil)))) (eC (.int 4))))) (sApp 5 (eOIx 5 (eCall (arN 2) g__law_draw (aCons (eVar 0) (aCons (eOLen 5) (aNil)))))) (sApp 5 (eCall (arN 4) g__law_one (aCons (eVar 0) (aCons (eVar 1) (aCons (eVar 3) (aCons (eVar 4) (aNil))))))))) (sFrz 5 (sRet (eVar 5))))
def g__law_drawn : FM := runB 7 m__law_drawn
theorem ok__law_drawn (T : Tx P K mg C A FD) : FnG P w K mg base C NN 4 (A "_law_drawn") (arN 5) g__law_drawn :=
  fng_of T.F__law_drawn sc__law_drawn (T.F__law_drawn.binds (ps := ["_law_box_here", "_law_names", "_law_most", "_law_conditional", "_law_sided"]) fun _ _ _ _ _ _ us hl => match us, hl with | [_, _, _, _, _], _ => rfl) (fun cdv Ar outer s H E B hr =>
    (dss_cons (ds_own (i := 5) sc__law_drawn.nd rfl (Or.inl rfl) (df_lst da_nil))
    (dss_cons (ds_for (k := 6) (passes_of rfl) rfl (di_range1 rfl T.no_range (da_cons (de_call (ok__law_draw T) rfl (hr.mono (by decide)) rfl T.M__law_draw T.F__law_draw.kp (takesF rfl rfl rfl rfl) (da_cons (de_var (pv 0)) (da_cons (de_op dop_add (de_var (pv 2)) de_int) da_nil))) da_nil)) (pg_name (i := 6) sc__law_drawn.nd rfl (Or.inl rfl)) (dss_one (ds_if (DW.db (dw_and (db_cmp dop_gt (de_olen (pv 5) rfl rfl T.no_len boot_len) de_int (nomark _)) (dw_and1 (db_cmp (dop_eq rfl hr.units) (de_call (ok__law_draw T) rfl (hr.mono (by decide)) rfl T.M__law_draw T.F__law_draw.kp (takesF rfl rfl rfl rfl) (da_cons (de_var (pv 0)) (da_cons de_int da_nil))) de_int (nomark _))))) (dss_one (ds_app (pv 5) (de_oix rfl (pv 5) (de_call (ok__law_draw T) rfl (hr.mono (by decide)) rfl T.M__law_draw T.F__law_draw.kp (takesF rfl rfl rfl rfl) (da_cons (de_var (pv 0)) (da_cons (de_olen (pv 5) rfl rfl T.no_len boot_len) da_nil)))))) (dss_one (ds_app (pv 5) (de_call (ok__law_one T) rfl (hr.mono (by decide)) rfl T.M__law_one T.F__law_one.kp (takesF rfl rfl rfl rfl) (da_cons (de_var (pv 0)) (da_cons (de_var (pv 1)) (da_cons (de_var (pv 3)) (da_cons (de_var (pv 4)) da_nil))))))))))
    (dss_frz (dss_one (ds_ret (de_var (pv 5))))))))
theorem sc__law_near : FnScope ["_law_box_here", "_law_ones", "_law_names", "_law_conditional", "_law_sided", "_law_way", "_law_new", "_law_k", "_law_name", "_law_rest", "_law_pair"] ["_law_box_here", "_law_ones", "_law_names", "_law_conditional", "_law_sided"] (defScope s__law_near) := ⟨rfl, rfl, rfl, by decide +kernel, rfl, by decide +kernel, by decide +kernel⟩
@[reducible] def m__law_near : SM := sSeq (sSet 5 (eCall (arN 2) g__law_draw (aCons (eVar 0) (aCons (eC (.int 8)) (aNil))))) (sSeq (sSet 6 (eCall (arN 4) g__law_one (aCons (eVar 0) (aCons (eVar 2) (aCons (eVar 3) (aCons (eVar 4) (aNil))))))) (sSeq (sIf (bOr (bOf isB (eOp (fEq) (eVar 5) (eC (.int 6)))) (bOf isB (eOp (fEq) (eFN fLen (aCons (eVar 1) (aNil))) (eC (.int 0))))) (sRet (eOp (alt2 (fAdd) fCatL) (eVar 1) (eLst (aCons (eVar 6) (aNil))))) (sNil)) (sSeq (sSet 7 (eCall (arN 2) g__law_draw (aCons (eVar 0) (aCons (eFN fLen (aCons (eVar 1) (aNil))) (aNil))))) (sSeq (sIf (bOf isB (eOp (fEq) (eVar 5) (eC (.int 0)))) (sRet (eFN fList (aCons (eVar 1) (aNil)))) (sNil)) (sSeq (sIf (bOf isB (eOp (fEq) (eVar 5) (eC (.int 1)))) (sRet (eOp (alt2 (fAdd) fCatL) (eOp (alt2 (fAdd) fCatL) (eOp (alt2 (fAdd) fCatL) (eSl (eVar 1) (oNone) (oSome (eVar 7))) (eSl (eVar 1) (oSome (eOp (alt2 (fAdd) fCatL) (eVar 7) (eC (.int 1)))) (oSome (eOp (alt2 (fAdd) fCatL) (eVar 7) (eC (.int 2)))))) (eLst (aCons (eOp fIx (eVar 1) (eVar 7)) (aNil)))) (eSl (eVar 1) (oSome (eOp (alt2 (fAdd) fCatL) (eVar 7) (eC (.int 2)))) (oNone)))) (sNil)) (sSeq (sIf (bOf isB (eOp (fEq) (eVar 5) (eC (.int 2)))) (sRet (eOp (alt2 (fAdd) fCatL) (eSl (eVar 1) (oNone) (oSome (eVar 7))) (eSl (eVar 1) (oSome (eOp (alt2 (fAdd) fCatL) (eVar 7) (eC (.int 1)))) (oNone)))) (sNil)) (sSeq (sIf (bOf isB (eOp (fEq) (eVar 5) (eC (.int 3)))) (sRet (eOp (alt2 (fAdd) fCatL) (eVar 1) (eLst (aCons (eOp fIx (eVar 1) (eVar 7)) (aNil))))) (sNil)) (sSeq (sIf (bOf isB (eOp (fEq) (eVar 5) (eC (.int 4)))) (sRet (eOp (alt2 (fAdd) fCatL) (eOp (alt2 (fAdd) fCatL) (eSl (eVar 1) (oNone) (oSome (eVar 7))) (eLst (aCons (eVar 6) (aNil)))) (eSl (eVar 1) (oSome (eOp (alt2 (fAdd) fCatL) (eVar 7) (eC (.int 1)))) (oNone)))) (sNil)) (sSeq (sIf (bOf isB (eOp (fEq) (eVar 5) (eC (.int 5)))) (sRet (eOp (alt2 (fAdd) fCatL) (eLst (aCons (eVar 6) (aNil))) (eVar 1))) (sNil)) (sSeq (sIf (bAnd (bOf isB (eOp (fIs) (eOp fIx (eOp fIx (eVar 1) (eVar 7)) (eC (.int 0))) (eC .non))) (bAnd (bOf truE (eVar 4)) (bOf isB (eOp (fGt) (eFN fLen (aCons (eVar 2) (aNil))) (eC (.int 0)))))) (sSeq (sSet 8 (eOp fIx (eVar 2) (eCall (arN 2) g__law_draw (aCons (eVar 0) (aCons (eFN fLen (aCons (eVar 2) (aNil))) (aNil)))))) (sSeq (sSet 9 (eSl (eOp fIx (eVar 1) (eVar 7)) (oSome (eC (.int 2))) (oNone))) (sSeq (sSet 10 (eLst (aCons (eOp (alt2 (fAdd) fCatL) (eTup (aCons (eVar 8) (aCons (eC (.bl false)) (aNil)))) (eVar 9)) (aCons (eOp (alt2 (fAdd) fCatL) (eTup (aCons (eVar 8) (aCons (eC (.bl true)) (aNil)))) (eVar 9)) (aNil))))) (sRet (eOp (alt2 (fAdd) fCatL) (eOp (alt2 (fAdd) fCatL) (eSl (eVar 1) (oNone) (oSome (eVar 7))) (eVar 10)) (eSl (eVar 1) (oSome (eOp (alt2 (fAdd) fCatL) (eVar 7) (eC (.int 1)))) (oNone))))))) (sNil)) (sRet (eOp (alt2 (fAdd) fCatL) (eOp (alt2 (fAdd) fCatL) (eSl (eVar 1) (oNone) (oSome (eVar 7))) (eLst (aCons (eOp fIx (eVar 1) (eVar 7)) (aNil)))) (eSl (eVar 1) (oSome (eVar 7)) (oNone))))))))))))))
def g__law_near : FM := runB 11 m__law_near
theorem ok__law_near (T : Tx P K mg C A FD) : FnG P w K mg base C NN 4 (A "_law_near") (arN 5) g__law_near :=
  fng_of T.F__law_near sc__law_near (T.F__law_near.binds (ps := ["_law_box_here", "_law_ones", "_law_names", "_law_conditional", "_law_sided"]) fun _ _ _ _ _ _ us hl => match us, hl with | [_, _, _, _, _], _ => rfl) (fun cdv Ar outer s H E B hr =>
    (dss_cons (ds_set (i := 5) sc__law_near.nd rfl (Or.inl rfl) (de_call (ok__law_draw T) rfl (hr.mono (by decide)) rfl T.M__law_draw T.F__law_draw.kp (takesF rfl rfl rfl rfl) (da_cons (de_var (pv 0)) (da_cons de_int da_nil))))
    (dss_cons (ds_set (i := 6) sc__law_near.nd rfl (Or.inl rfl) (de_call (ok__law_one T) rfl (hr.mono (by decide)) rfl T.M__law_one T.F__law_one.kp (takesF rfl rfl rfl rfl) (da_cons (de_var (pv 0)) (da_cons (de_var (pv 2)) (da_cons (de_var (pv 3)) (da_cons (de_var (pv 4)) da_nil))))))
    (dss_cons (ds_if (DW.db (dw_or (db_cmp (dop_eq rfl hr.units) (de_var (pv 5)) de_int (nomark _)) (dw_or1 (db_cmp (dop_eq rfl hr.units) (de_callB (dcall_len rfl) rfl T.no_len boot_len (da_cons (de_var (pv 1)) da_nil)) de_int (nomark _))))) (dss_one (ds_ret (de_op (opr_alt dop_add (dop_catL rfl)) (de_var (pv 1)) (de_lst (da_cons (de_var (pv 6)) da_nil))))) dss_nil)
    (dss_cons (ds_set (i := 7) sc__law_near.nd rfl (Or.inl rfl) (de_call (ok__law_draw T) rfl (hr.mono (by decide)) rfl T.M__law_draw T.F__law_draw.kp (takesF rfl rfl rfl rfl) (da_cons (de_var (pv 0)) (da_cons (de_callB (dcall_len rfl) rfl T.no_len boot_len (da_cons (de_var (pv 1)) da_nil)) da_nil))))
    (dss_cons (ds_if (db_cmp (dop_eq rfl hr.units) (de_var (pv 5)) de_int (nomark _)) (dss_one (ds_ret (de_callT (dcall_list rfl) rfl T.no_list boot_list (da_cons (de_var (pv 1)) da_nil)))) dss_nil)
    (dss_cons (ds_if (db_cmp (dop_eq rfl hr.units) (de_var (pv 5)) de_int (nomark _)) (dss_one (ds_ret (de_op (opr_alt dop_add (dop_catL rfl)) (de_op (opr_alt dop_add (dop_catL rfl)) (de_op (opr_alt dop_add (dop_catL rfl)) (de_slL rfl (de_var (pv 1)) do_none (do_some (de_var (pv 7)))) (de_slL rfl (de_var (pv 1)) (do_some (de_op (opr_alt dop_add (dop_catL rfl)) (de_var (pv 7)) de_int)) (do_some (de_op (opr_alt dop_add (dop_catL rfl)) (de_var (pv 7)) de_int)))) (de_lst (da_cons (de_ix (dix rfl) (de_var (pv 1)) (de_var (pv 7))) da_nil))) (de_slL rfl (de_var (pv 1)) (do_some (de_op (opr_alt dop_add (dop_catL rfl)) (de_var (pv 7)) de_int)) do_none)))) dss_nil)
    (dss_cons (ds_if (db_cmp (dop_eq rfl hr.units) (de_var (pv 5)) de_int (nomark _)) (dss_one (ds_ret (de_op (opr_alt dop_add (dop_catL rfl)) (de_slL rfl (de_var (pv 1)) do_none (do_some (de_var (pv 7)))) (de_slL rfl (de_var (pv 1)) (do_some (de_op (opr_alt dop_add (dop_catL rfl)) (de_var (pv 7)) de_int)) do_none)))) dss_nil)
    (dss_cons (ds_if (db_cmp (dop_eq rfl hr.units) (de_var (pv 5)) de_int (nomark _)) (dss_one (ds_ret (de_op (opr_alt dop_add (dop_catL rfl)) (de_var (pv 1)) (de_lst (da_cons (de_ix (dix rfl) (de_var (pv 1)) (de_var (pv 7))) da_nil))))) dss_nil)
    (dss_cons (ds_if (db_cmp (dop_eq rfl hr.units) (de_var (pv 5)) de_int (nomark _)) (dss_one (ds_ret (de_op (opr_alt dop_add (dop_catL rfl)) (de_op (opr_alt dop_add (dop_catL rfl)) (de_slL rfl (de_var (pv 1)) do_none (do_some (de_var (pv 7)))) (de_lst (da_cons (de_var (pv 6)) da_nil))) (de_slL rfl (de_var (pv 1)) (do_some (de_op (opr_alt dop_add (dop_catL rfl)) (de_var (pv 7)) de_int)) do_none)))) dss_nil)
    (dss_cons (ds_if (db_cmp (dop_eq rfl hr.units) (de_var (pv 5)) de_int (nomark _)) (dss_one (ds_ret (de_op (opr_alt dop_add (dop_catL rfl)) (de_lst (da_cons (de_var (pv 6)) da_nil)) (de_var (pv 1))))) dss_nil)
    (dss_cons (ds_if (DW.db (dw_and (db_cmp dop_is (de_ix (dix rfl) (de_ix (dix rfl) (de_var (pv 1)) (de_var (pv 7))) de_int) de_non (nomark _)) (dw_and (db_tru rfl (de_var (pv 4))) (dw_and1 (db_cmp dop_gt (de_callB (dcall_len rfl) rfl T.no_len boot_len (da_cons (de_var (pv 2)) da_nil)) de_int (nomark _)))))) (dss_cons (ds_set (i := 8) sc__law_near.nd rfl (Or.inl rfl) (de_ix (dix rfl) (de_var (pv 2)) (de_call (ok__law_draw T) rfl (hr.mono (by decide)) rfl T.M__law_draw T.F__law_draw.kp (takesF rfl rfl rfl rfl) (da_cons (de_var (pv 0)) (da_cons (de_callB (dcall_len rfl) rfl T.no_len boot_len (da_cons (de_var (pv 2)) da_nil)) da_nil)))))
    (dss_cons (ds_set (i := 9) sc__law_near.nd rfl (Or.inl rfl) (de_slL rfl (de_ix (dix rfl) (de_var (pv 1)) (de_var (pv 7))) (do_some de_int) do_none))
    (dss_cons (ds_set (i := 10) sc__law_near.nd rfl (Or.inl rfl) (de_lst (da_cons (de_op (opr_alt dop_add (dop_catL rfl)) (de_tup (da_cons (de_var (pv 8)) (da_cons de_bl da_nil))) (de_var (pv 9))) (da_cons (de_op (opr_alt dop_add (dop_catL rfl)) (de_tup (da_cons (de_var (pv 8)) (da_cons de_bl da_nil))) (de_var (pv 9))) da_nil))))
    (dss_one (ds_ret (de_op (opr_alt dop_add (dop_catL rfl)) (de_op (opr_alt dop_add (dop_catL rfl)) (de_slL rfl (de_var (pv 1)) do_none (do_some (de_var (pv 7)))) (de_var (pv 10))) (de_slL rfl (de_var (pv 1)) (do_some (de_op (opr_alt dop_add (dop_catL rfl)) (de_var (pv 7)) de_int)) do_none))))))) dss_nil)
    (dss_one (ds_ret (de_op (opr_alt dop_add (dop_catL rfl)) (de_op (opr_alt dop_add (dop_catL rfl)) (de_slL rfl (de_var (pv 1)) do_none (do_some (de_var (pv 7)))) (de_lst (da_cons (de_ix (dix rfl) (de_var (pv 1)) (de_var (pv 7))) da_nil))) (de_slL rfl (de_var (pv 1)) (do_some (de_var (pv 7))) do_none))))))))))))))))
theorem sc_InvalidBand___init__ : NdefX.NScope ["self", "band", "__class__"] ["self", "band"] [("__class__" : Str)] (defScope s_InvalidBand___init__) := NdefX.nscope_by (by decide +kernel)
@[reducible] def m_InvalidBand___init__ : EM := eJs [eUn fFmt (eVar 1), eC (.str " is out of range")]
theorem ok_InvalidBand___init__ (T : Tx P K mg C A FD) : FnOk P w K mg base (L2N.CX P w) 1 (A "InvalidBand.__init__") (FD "InvalidBand.__init__") ["self", "band"] (SpE K C NN "InvalidBand" "band" okI) :=
  err_ok (cn := "InvalidBand") (N := ["self", "band", "__class__"]) (m := m_InvalidBand___init__) T.er_InvalidBand sc_InvalidBand___init__ rfl (fun cc c Ar outer s H E B => (de_js (ms := [eUn fFmt (eVar 1), eC (.str " is out of range")]) (PJ.cons (de_fmt (de_var (pv 1))) (PJ.cons de_str PJ.nil)))) (fun x G h => match x, h with | .int i, h => eJs_ok (all_cons (fmt_ok rfl (of_decide_eq_true h)) (all_cons str_ok all_nil)) (by decide))
theorem sc_check_band : FnScope ["band"] ["band"] (defScope s_check_band) := ⟨rfl, rfl, rfl, by decide +kernel, rfl, by decide +kernel, by decide +kernel⟩
@[reducible] def m_check_band : SM := sIf (bOr (bOf isB (eOp (fLt) (eVar 0) (eC (.int 0)))) (bOf isB (eOp (fGe) (eVar 0) (eC (.int 6))))) (sEr "InvalidBand" okI (eVar 0)) (sNil)
def g_check_band : FM := runB 1 m_check_band
theorem ok_check_band (T : Tx P K mg C A FD) : FnG P w K mg base C NN 3 (A "check_band") (arN 1) g_check_band :=
  fng_of T.F_check_band sc_check_band (T.F_check_band.binds (ps := ["band"]) fun _ _ _ _ _ _ us hl => match us, hl with | [_], _ => rfl) (fun cdv Ar outer s H E B hr =>
    (dss_one (ds_if (DW.db (dw_or (db_cmp dop_lt (de_var (pv 0)) de_int (nomark _)) (dw_or1 (db_cmp dop_ge (de_var (pv 0)) (let ⟨_, h1⟩ := T.cv_Light_BANDS; de_cval (cl := "Light") rfl T.M_Light T.cr_Light h1 (fun _ _ _ => Rep.int)) (nomark _))))) (dss_one (ds_raise1 T.er_InvalidBand.T T.er_InvalidBand.ini T.er_InvalidBand.ty (ok_InvalidBand___init__ T) (show (NN "InvalidBand").take 1 = [("band" : Str)] by decide +kernel) rfl (hr.mono (by decide)) T.er_InvalidBand.bd rfl (takesF rfl rfl rfl rfl) rfl T.M_InvalidBand (de_var (pv 0)))) dss_nil)))
theorem sc__bands_of : FnScope ["number", "band"] ["number"] (defScope s__bands_of) := ⟨rfl, rfl, rfl, by decide +kernel, rfl, by decide +kernel, by decide +kernel⟩
@[reducible] def m__bands_of : SM := sRet (eLc 1 [1] (lRng1 (aCons (eC (.int 6)) (aNil))) (bOf truE (eOp (fAnd) (eVar 0) (eOp (fShl) (eC (.int 1)) (eVar 1)))) (eVar 1))
def g__bands_of : FM := runB 2 m__bands_of
theorem ok__bands_of (T : Tx P K mg C A FD) : FnG P w K mg base C NN 1 (A "_bands_of") (arN 1) g__bands_of :=
  fng_of T.F__bands_of sc__bands_of (T.F__bands_of.binds (ps := ["number"]) fun _ _ _ _ _ _ us hl => match us, hl with | [_], _ => rfl) (fun cdv Ar outer s H E B hr =>
    (dss_one (ds_ret (de_lc (own := [("band", 1)]) rfl sc__bands_of.nd (di_range1 rfl T.no_range (da_cons (let ⟨_, h1⟩ := T.cv_Light_BANDS; de_cval (cl := "Light") rfl T.M_Light T.cr_Light h1 (fun _ _ _ => Rep.int)) da_nil)) (blkOk_by (own := [("band", 1)]) (N := ["number", "band"]) (sc := defScope s__bands_of) (by decide +kernel)) (by decide) (fun _ _ _ _ _ => pg_name (i := 1) sc__bands_of.nd rfl (Or.inl rfl)) (fun _ _ _ _ _ => (dts_one (db_tru rfl (de_op dop_and (de_var (pv 0)) (de_op dop_shl de_int (de_var (pv 1))))))) (fun _ _ _ _ _ => (de_var (pv 1)))))))
theorem sc_Light___init__ : FnScope ["self", "bands", "number", "band"] ["self", "bands"] (defScope s_Light___init__) := ⟨rfl, rfl, rfl, by decide +kernel, rfl, by decide +kernel, by decide +kernel⟩
@[reducible] def m_Light___init__ : SM := sSeq (sSet 2 (eC (.int 0))) (sSeq (sFor 3 (lTup (eVar 1)) (sSeq (sDrop (eCall (arN 1) g_check_band (aCons (eVar 3) (aNil)))) (sSet 2 (eOp (fOr) (eVar 2) (eOp (fShl) (eC (.int 1)) (eVar 3)))))) (sSeq (sFld 0 "Light" 0 (eFN fTuple (aCons (eCall (arN 1) g__bands_of (aCons (eVar 2) (aNil))) (aNil)))) (sFld 0 "Light" 1 (eVar 2))))
def g_Light___init__ : IM := starI 0 (runI 4 "Light" m_Light___init__)
theorem ok_Light___init__ (T : Tx P K mg C A FD) : FnI P w K mg base C NN 4 (A "Light.__init__") "Light" (arS 0) g_Light___init__ :=
  fni_star T.F_Light___init__ sc_Light___init__ T.b_Light___init__ (fun cdv Ar outer s H E B x hr =>
    (dss_cons (ds_set (i := 2) sc_Light___init__.nd rfl (Or.inl rfl) de_int)
    (dss_cons (ds_for (k := 3) (passes_of rfl) rfl (di_tup rfl (de_var (pv 1))) (pg_name (i := 3) sc_Light___init__.nd rfl (Or.inl rfl)) (dss_cons (ds_expr (de_call (ok_check_band T) rfl (hr.mono (by decide)) rfl T.M_check_band T.F_check_band.kp (takesF rfl rfl rfl rfl) (da_cons (de_var (pv 3)) da_nil)))
    (dss_one (ds_set (i := 2) sc_Light___init__.nd rfl (Or.inl rfl) (de_op dop_or (de_var (pv 2)) (de_op dop_shl de_int (de_var (pv 3))))))))
    (dss_cons (ds_fld (hf_Light_bands T) (pv 0) (de_callT (dcall_tuple rfl) rfl T.no_tuple boot_tuple (da_cons (de_call (ok__bands_of T) rfl (hr.mono (by decide)) rfl T.M__bands_of T.F__bands_of.kp (takesF rfl rfl rfl rfl) (da_cons (de_var (pv 2)) da_nil)) da_nil)))
    (dss_one (ds_fld (hf_Light_number T) (pv 0) (de_var (pv 2))))))))
theorem sc_Film___init__ : FnScope ["self", "bare", "inked"] ["self", "bare", "inked"] (defScope s_Film___init__) := ⟨rfl, rfl, rfl, by decide +kernel, rfl, by decide +kernel, by decide +kernel⟩
@[reducible] def m_Film___init__ : SM := sSeq (sFld 0 "Film" 0 (eVar 1)) (sFld 0 "Film" 1 (eVar 2))
def g_Film___init__ : IM := runI 3 "Film" m_Film___init__
theorem ok_Film___init__ (T : Tx P K mg C A FD) : FnI P w K mg base C NN 1 (A "Film.__init__") "Film" (arN 2) g_Film___init__ :=
  fni_of T.F_Film___init__ sc_Film___init__ (T.F_Film___init__.binds (ps := ["self", "bare", "inked"]) fun _ _ _ _ _ _ us hl => match us, hl with | [_, _, _], _ => rfl) (fun cdv Ar outer s H E B x hr =>
    (dss_cons (ds_fld (hf_Film_bare T) (pv 0) (de_var (pv 1)))
    (dss_one (ds_fld (hf_Film_inked T) (pv 0) (de_var (pv 2))))))
theorem sc_Film_nothing : FnScope ["cls"] ["cls"] (defScope s_Film_nothing) := ⟨rfl, rfl, rfl, by decide +kernel, rfl, by decide +kernel, by decide +kernel⟩
@[reducible] def m_Film_nothing : SM := sRet (eMakeV 0 "Film" (arN 2) g_Film___init__ (aCons (eTup (aCons (eMake "Light" (arS 0) g_Light___init__ aNil) (aCons (eMake "Light" (arS 0) g_Light___init__ aNil) (aCons (eC (.bl false)) (aNil))))) (aCons (eTup (aCons (eMake "Light" (arS 0) g_Light___init__ aNil) (aCons (eMake "Light" (arS 0) g_Light___init__ aNil) (aCons (eC (.bl true)) (aNil))))) (aNil))))
def g_Film_nothing : FM := runB 1 m_Film_nothing
theorem ok_Film_nothing (T : Tx P K mg C A FD) : FnG P w K mg base C NN 6 (A "Film.nothing") (arN 1) g_Film_nothing :=
  fng_of T.F_Film_nothing sc_Film_nothing (T.F_Film_nothing.binds (ps := ["cls"]) fun _ _ _ _ _ _ us hl => match us, hl with | [_], _ => rfl) (fun cdv Ar outer s H E B hr =>
    (dss_one (ds_ret (de_makeV (i := 0) T.mk_Film (ok_Film___init__ T) rfl (hr.mono (by decide)) (takesF rfl rfl rfl rfl) (pv 0) (da_cons (de_tup (da_cons (de_make0 T.mk_Light (ok_Light___init__ T) rfl (hr.mono (by decide)) rfl T.M_Light (takesF rfl rfl rfl rfl)) (da_cons (de_make0 T.mk_Light (ok_Light___init__ T) rfl (hr.mono (by decide)) rfl T.M_Light (takesF rfl rfl rfl rfl)) (da_cons de_bl da_nil)))) (da_cons (de_tup (da_cons (de_make0 T.mk_Light (ok_Light___init__ T) rfl (hr.mono (by decide)) rfl T.M_Light (takesF rfl rfl rfl rfl)) (da_cons (de_make0 T.mk_Light (ok_Light___init__ T) rfl (hr.mono (by decide)) rfl T.M_Light (takesF rfl rfl rfl rfl)) (da_cons de_bl da_nil)))) da_nil))))))
theorem sc__effect_for : FnScope ["film", "inked"] ["film", "inked"] (defScope s__effect_for) := ⟨rfl, rfl, rfl, by decide +kernel, rfl, by decide +kernel, by decide +kernel⟩
@[reducible] def m__effect_for : SM := sSeq (sIf (bOf truE (eVar 1)) (sRet (eFld [("Film", 1)] (eVar 0))) (sNil)) (sRet (eFld [("Film", 0)] (eVar 0)))
def g__effect_for : FM := runB 2 m__effect_for
theorem ok__effect_for (T : Tx P K mg C A FD) : FnG P w K mg base C NN 1 (A "_effect_for") (arN 2) g__effect_for :=
  fng_of T.F__effect_for sc__effect_for (T.F__effect_for.binds (ps := ["film", "inked"]) fun _ _ _ _ _ _ us hl => match us, hl with | [_, _], _ => rfl) (fun cdv Ar outer s H E B hr =>
    (dss_cons (ds_if (db_tru rfl (de_var (pv 1))) (dss_one (ds_ret (de_fld (ks := [("Film", 1)]) rfl (kix_all (all_cons (hf_Film_inked T) all_nil)) (de_var (pv 0))))) dss_nil)
    (dss_one (ds_ret (de_fld (ks := [("Film", 0)]) rfl (kix_all (all_cons (hf_Film_bare T) all_nil)) (de_var (pv 0)))))))
theorem sc__light : FnScope ["number", "bands"] ["number"] (defScope s__light) := ⟨rfl, rfl, rfl, by decide +kernel, rfl, by decide +kernel, by decide +kernel⟩
@[reducible] def m__light : SM := sSeq (sSet 1 (eCall (arN 1) g__bands_of (aCons (eVar 0) (aNil)))) (sRet (eMake "Light" (arS 0) g_Light___init__ (aStar (eVar 1) aNil)))
def g__light : FM := runB 2 m__light
theorem ok__light (T : Tx P K mg C A FD) : FnG P w K mg base C NN 6 (A "_light") (arN 1) g__light :=
  fng_of T.F__light sc__light (T.F__light.binds (ps := ["number"]) fun _ _ _ _ _ _ us hl => match us, hl with | [_], _ => rfl) (fun cdv Ar outer s H E B hr =>
    (dss_cons (ds_set (i := 1) sc__light.nd rfl (Or.inl rfl) (de_call (ok__bands_of T) rfl (hr.mono (by decide)) rfl T.M__bands_of T.F__bands_of.kp (takesF rfl rfl rfl rfl) (da_cons (de_var (pv 0)) da_nil)))
    (dss_one (ds_ret (de_makeS1 T.mk_Light (ok_Light___init__ T) rfl (hr.mono (by decide)) rfl T.M_Light (takesF rfl rfl rfl rfl) (de_var (pv 1)))))))
theorem sc_Light___or__ : FnScope ["self", "other"] ["self", "other"] (defScope s_Light___or__) := ⟨rfl, rfl, rfl, by decide +kernel, rfl, by decide +kernel, by decide +kernel⟩
@[reducible] def m_Light___or__ : SM := sRet (eCall (arN 1) g__light (aCons (eOp (fOr) (eFld [("Light", 1)] (eVar 0)) (eFld [("Light", 1)] (eVar 1))) (aNil)))
def g_Light___or__ : FM := runB 2 m_Light___or__
theorem ok_Light___or__ (T : Tx P K mg C A FD) : FnG P w K mg base C NN 7 (A "Light.__or__") (arN 2) g_Light___or__ :=
  fng_of T.F_Light___or__ sc_Light___or__ (T.F_Light___or__.binds (ps := ["self", "other"]) fun _ _ _ _ _ _ us hl => match us, hl with | [_, _], _ => rfl) (fun cdv Ar outer s H E B hr =>
    (dss_one (ds_ret (de_call (ok__light T) rfl (hr.mono (by decide)) rfl T.M__light T.F__light.kp (takesF rfl rfl rfl rfl) (da_cons (de_op dop_or (de_fld (ks := [("Light", 1)]) rfl (kix_all (all_cons (hf_Light_number T) all_nil)) (de_var (pv 0))) (de_fld (ks := [("Light", 1)]) rfl (kix_all (all_cons (hf_Light_number T) all_nil)) (de_var (pv 1)))) da_nil)))))
theorem sc_Light___sub__ : FnScope ["self", "other"] ["self", "other"] (defScope s_Light___sub__) := ⟨rfl, rfl, rfl, by decide +kernel, rfl, by decide +kernel, by decide +kernel⟩
@[reducible] def m_Light___sub__ : SM := sRet (eCall (arN 1) g__light (aCons (eOp (fAnd) (eFld [("Light", 1)] (eVar 0)) (eUn (fInv) (eFld [("Light", 1)] (eVar 1)))) (aNil)))
def g_Light___sub__ : FM := runB 2 m_Light___sub__
theorem ok_Light___sub__ (T : Tx P K mg C A FD) : FnG P w K mg base C NN 7 (A "Light.__sub__") (arN 2) g_Light___sub__ :=
  fng_of T.F_Light___sub__ sc_Light___sub__ (T.F_Light___sub__.binds (ps := ["self", "other"]) fun _ _ _ _ _ _ us hl => match us, hl with | [_, _], _ => rfl) (fun cdv Ar outer s H E B hr =>
    (dss_one (ds_ret (de_call (ok__light T) rfl (hr.mono (by decide)) rfl T.M__light T.F__light.kp (takesF rfl rfl rfl rfl) (da_cons (de_op dop_and (de_fld (ks := [("Light", 1)]) rfl (kix_all (all_cons (hf_Light_number T) all_nil)) (de_var (pv 0))) (de_un dun_inv (de_fld (ks := [("Light", 1)]) rfl (kix_all (all_cons (hf_Light_number T) all_nil)) (de_var (pv 1))))) da_nil)))))
theorem sc__followed : FnScope ["effect", "film", "off", "on", "marked", "later_off", "later_on", "later_marked"] ["effect", "film"] (defScope s__followed) := ⟨rfl, rfl, rfl, by decide +kernel, rfl, by decide +kernel, by decide +kernel⟩
@[reducible] def m__followed : SM := sSeq (sUnp [2, 3, 4] (eVar 0)) (sSeq (sUnp [5, 6, 7] (eCall (arN 2) g__effect_for (aCons (eVar 1) (aCons (eVar 4) (aNil))))) (sRet (eTup (aCons (eOp (alt2 (fOr) (fOwn "Light" (arN 2) g_Light___or__)) (eOp (alt2 (fSub) (fOwn "Light" (arN 2) g_Light___sub__)) (eVar 2) (eVar 6)) (eVar 5)) (aCons (eOp (alt2 (fOr) (fOwn "Light" (arN 2) g_Light___or__)) (eOp (alt2 (fSub) (fOwn "Light" (arN 2) g_Light___sub__)) (eVar 3) (eVar 5)) (eVar 6)) (aCons (eVar 7) (aNil)))))))
def g__followed : FM := runB 8 m__followed
theorem ok__followed (T : Tx P K mg C A FD) : FnG P w K mg base C NN 8 (A "_followed") (arN 2) g__followed :=
  fng_of T.F__followed sc__followed (T.F__followed.binds (ps := ["effect", "film"]) fun _ _ _ _ _ _ us hl => match us, hl with | [_, _], _ => rfl) (fun cdv Ar outer s H E B hr =>
    (dss_cons (ds_unp (is := [2, 3, 4]) rfl rfl (de_var (pv 0)) (pgs_cons (pg_name (i := 2) sc__followed.nd rfl (Or.inl rfl)) (pgs_cons (pg_name (i := 3) sc__followed.nd rfl (Or.inl rfl)) (pgs_cons (pg_name (i := 4) sc__followed.nd rfl (Or.inl rfl)) pgs_nil))) rfl)
    (dss_cons (ds_unp (is := [5, 6, 7]) rfl rfl (de_call (ok__effect_for T) rfl (hr.mono (by decide)) rfl T.M__effect_for T.F__effect_for.kp (takesF rfl rfl rfl rfl) (da_cons (de_var (pv 1)) (da_cons (de_var (pv 4)) da_nil))) (pgs_cons (pg_name (i := 5) sc__followed.nd rfl (Or.inl rfl)) (pgs_cons (pg_name (i := 6) sc__followed.nd rfl (Or.inl rfl)) (pgs_cons (pg_name (i := 7) sc__followed.nd rfl (Or.inl rfl)) pgs_nil))) rfl)
    (dss_one (ds_ret (de_tup (da_cons (de_op (opr_alt dop_or (dop_own rfl (hr.mono (by decide)) T.sf_Light___or__ T.ow_Light___or__ T.fn_Light___or__ (ok_Light___or__ T))) (de_op (opr_alt dop_sub (dop_own rfl (hr.mono (by decide)) T.sf_Light___sub__ T.ow_Light___sub__ T.fn_Light___sub__ (ok_Light___sub__ T))) (de_var (pv 2)) (de_var (pv 6))) (de_var (pv 5))) (da_cons (de_op (opr_alt dop_or (dop_own rfl (hr.mono (by decide)) T.sf_Light___or__ T.ow_Light___or__ T.fn_Light___or__ (ok_Light___or__ T))) (de_op (opr_alt dop_sub (dop_own rfl (hr.mono (by decide)) T.sf_Light___sub__ T.ow_Light___sub__ T.fn_Light___sub__ (ok_Light___sub__ T))) (de_var (pv 3)) (de_var (pv 5))) (de_var (pv 6))) (da_cons (de_var (pv 7)) da_nil)))))))))
theorem sc_Film___add__ : FnScope ["self", "other"] ["self", "other"] (defScope s_Film___add__) := ⟨rfl, rfl, rfl, by decide +kernel, rfl, by decide +kernel, by decide +kernel⟩
@[reducible] def m_Film___add__ : SM := sRet (eMake "Film" (arN 2) g_Film___init__ (aCons (eCall (arN 2) g__followed (aCons (eFld [("Film", 0)] (eVar 0)) (aCons (eVar 1) (aNil)))) (aCons (eCall (arN 2) g__followed (aCons (eFld [("Film", 1)] (eVar 0)) (aCons (eVar 1) (aNil)))) (aNil))))
def g_Film___add__ : FM := runB 2 m_Film___add__
theorem ok_Film___add__ (T : Tx P K mg C A FD) : FnG P w K mg base C NN 9 (A "Film.__add__") (arN 2) g_Film___add__ :=
  fng_of T.F_Film___add__ sc_Film___add__ (T.F_Film___add__.binds (ps := ["self", "other"]) fun _ _ _ _ _ _ us hl => match us, hl with | [_, _], _ => rfl) (fun cdv Ar outer s H E B hr =>
    (dss_one (ds_ret (de_make T.mk_Film (ok_Film___init__ T) rfl (hr.mono (by decide)) rfl T.M_Film (takesF rfl rfl rfl rfl) (da_cons (de_call (ok__followed T) rfl (hr.mono (by decide)) rfl T.M__followed T.F__followed.kp (takesF rfl rfl rfl rfl) (da_cons (de_fld (ks := [("Film", 0)]) rfl (kix_all (all_cons (hf_Film_bare T) all_nil)) (de_var (pv 0))) (da_cons (de_var (pv 1)) da_nil))) (da_cons (de_call (ok__followed T) rfl (hr.mono (by decide)) rfl T.M__followed T.F__followed.kp (takesF rfl rfl rfl rfl) (da_cons (de_fld (ks := [("Film", 1)]) rfl (kix_all (all_cons (hf_Film_inked T) all_nil)) (de_var (pv 0))) (da_cons (de_var (pv 1)) da_nil))) da_nil))))))
theorem sc_Ink_film : FnScope ["self", "bare", "inked", "nothing"] ["self"] (defScope s_Ink_film) := ⟨rfl, rfl, rfl, by decide +kernel, rfl, by decide +kernel, by decide +kernel⟩
@[reducible] def m_Ink_film : SM := sSeq (sSet2 1 2 (eTup (aCons (eFld [("Ink", 0), ("Filter", 0), ("Opaque", 0), ("Bleach", 0)] (eVar 0)) (aCons (eFld [("Ink", 1), ("Filter", 1), ("Opaque", 1), ("Bleach", 1)] (eVar 0)) (aCons (eC (.bl true)) (aNil)))))) (sSeq (sSet 3 (eCMeth "Film" (arN 1) g_Film_nothing aNil)) (sSeq (sIf (bOf isB (eOp (fEq) (eFld [("Ink", 2), ("Filter", 2), ("Opaque", 2), ("Bleach", 2)] (eVar 0)) (eC (.str "inked")))) (sSet 1 (eFld [("Film", 0)] (eVar 3))) (sNil)) (sSeq (sIf (bOf isB (eOp (fEq) (eFld [("Ink", 2), ("Filter", 2), ("Opaque", 2), ("Bleach", 2)] (eVar 0)) (eC (.str "bare")))) (sSet 2 (eFld [("Film", 1)] (eVar 3))) (sNil)) (sRet (eMake "Film" (arN 2) g_Film___init__ (aCons (eVar 1) (aCons (eVar 2) (aNil))))))))
def g_Ink_film : FM := runB 4 m_Ink_film
theorem ok_Ink_film (T : Tx P K mg C A FD) : FnG P w K mg base C NN 7 (A "Ink.film") (arN 1) g_Ink_film :=
  fng_of T.F_Ink_film sc_Ink_film (T.F_Ink_film.binds (ps := ["self"]) fun _ _ _ _ _ _ us hl => match us, hl with | [_], _ => rfl) (fun cdv Ar outer s H E B hr =>
    (dss_cons (ds_set2 (de_tup (da_cons (de_fld (ks := [("Ink", 0), ("Filter", 0), ("Opaque", 0), ("Bleach", 0)]) rfl (kix_all (all_cons (hf_Ink_off T) (all_cons (hf_Filter_off T) (all_cons (hf_Opaque_off T) (all_cons (hf_Bleach_off T) all_nil))))) (de_var (pv 0))) (da_cons (de_fld (ks := [("Ink", 1), ("Filter", 1), ("Opaque", 1), ("Bleach", 1)]) rfl (kix_all (all_cons (hf_Ink_on T) (all_cons (hf_Filter_on T) (all_cons (hf_Opaque_on T) (all_cons (hf_Bleach_on T) all_nil))))) (de_var (pv 0))) (da_cons de_bl da_nil)))) (pg_name (i := 1) sc_Ink_film.nd rfl (Or.inl rfl)) (pg_name (i := 2) sc_Ink_film.nd rfl (Or.inl rfl)))
    (dss_cons (ds_set (i := 3) sc_Ink_film.nd rfl (Or.inl rfl) (let ⟨_, h1⟩ := T.cm_Film_nothing; de_cmeth0 rfl rfl T.M_Film T.cr_Film h1 (ok_Film_nothing T) (hr.mono (by decide)) (takesF rfl rfl rfl rfl)))
    (dss_cons (ds_if (db_cmp (dop_eq rfl hr.units) (de_fld (ks := [("Ink", 2), ("Filter", 2), ("Opaque", 2), ("Bleach", 2)]) rfl (kix_all (all_cons (hf_Ink_takes T) (all_cons (hf_Filter_takes T) (all_cons (hf_Opaque_takes T) (all_cons (hf_Bleach_takes T) all_nil))))) (de_var (pv 0))) de_str (nomark _)) (dss_one (ds_set (i := 1) sc_Ink_film.nd rfl (Or.inl rfl) (de_fld (ks := [("Film", 0)]) rfl (kix_all (all_cons (hf_Film_bare T) all_nil)) (de_var (pv 3))))) dss_nil)
    (dss_cons (ds_if (db_cmp (dop_eq rfl hr.units) (de_fld (ks := [("Ink", 2), ("Filter", 2), ("Opaque", 2), ("Bleach", 2)]) rfl (kix_all (all_cons (hf_Ink_takes T) (all_cons (hf_Filter_takes T) (all_cons (hf_Opaque_takes T) (all_cons (hf_Bleach_takes T) all_nil))))) (de_var (pv 0))) de_str (nomark _)) (dss_one (ds_set (i := 2) sc_Ink_film.nd rfl (Or.inl rfl) (de_fld (ks := [("Film", 1)]) rfl (kix_all (all_cons (hf_Film_inked T) all_nil)) (de_var (pv 3))))) dss_nil)
    (dss_one (ds_ret (de_make T.mk_Film (ok_Film___init__ T) rfl (hr.mono (by decide)) rfl T.M_Film (takesF rfl rfl rfl rfl) (da_cons (de_var (pv 1)) (da_cons (de_var (pv 2)) da_nil))))))))))
theorem hm_Bleach_film (T : Tx P K mg C A FD) : HasM P w K mg base C NN 7 "film" "Bleach" (arN 1) g_Ink_film := ⟨T.cl_Bleach, by decide +kernel, _, T.me_Bleach_film, ok_Ink_film T⟩
theorem hm_Filter_film (T : Tx P K mg C A FD) : HasM P w K mg base C NN 7 "film" "Filter" (arN 1) g_Ink_film := ⟨T.cl_Filter, by decide +kernel, _, T.me_Filter_film, ok_Ink_film T⟩
theorem hm_Ink_film (T : Tx P K mg C A FD) : HasM P w K mg base C NN 7 "film" "Ink" (arN 1) g_Ink_film := ⟨T.cl_Ink, by decide +kernel, _, T.me_Ink_film, ok_Ink_film T⟩
theorem hm_Opaque_film (T : Tx P K mg C A FD) : HasM P w K mg base C NN 7 "film" "Opaque" (arN 1) g_Ink_film := ⟨T.cl_Opaque, by decide +kernel, _, T.me_Opaque_film, ok_Ink_film T⟩
theorem sc_Light___and__ : FnScope ["self", "other"] ["self", "other"] (defScope s_Light___and__) := ⟨rfl, rfl, rfl, by decide +kernel, rfl, by decide +kernel, by decide +kernel⟩
@[reducible] def m_Light___and__ : SM := sRet (eCall (arN 1) g__light (aCons (eOp (fAnd) (eFld [("Light", 1)] (eVar 0)) (eFld [("Light", 1)] (eVar 1))) (aNil)))
def g_Light___and__ : FM := runB 2 m_Light___and__
theorem ok_Light___and__ (T : Tx P K mg C A FD) : FnG P w K mg base C NN 7 (A "Light.__and__") (arN 2) g_Light___and__ :=
  fng_of T.F_Light___and__ sc_Light___and__ (T.F_Light___and__.binds (ps := ["self", "other"]) fun _ _ _ _ _ _ us hl => match us, hl with | [_, _], _ => rfl) (fun cdv Ar outer s H E B hr =>
    (dss_one (ds_ret (de_call (ok__light T) rfl (hr.mono (by decide)) rfl T.M__light T.F__light.kp (takesF rfl rfl rfl rfl) (da_cons (de_op dop_and (de_fld (ks := [("Light", 1)]) rfl (kix_all (all_cons (hf_Light_number T) all_nil)) (de_var (pv 0))) (de_fld (ks := [("Light", 1)]) rfl (kix_all (all_cons (hf_Light_number T) all_nil)) (de_var (pv 1)))) da_nil)))))
theorem sc_Light___bool__ : FnScope ["self"] ["self"] (defScope s_Light___bool__) := ⟨rfl, rfl, rfl, by decide +kernel, rfl, by decide +kernel, by decide +kernel⟩
@[reducible] def m_Light___bool__ : SM := sRet (eFN fBoolT (aCons (eFld [("Light", 0)] (eVar 0)) (aNil)))
def g_Light___bool__ : FM := runB 1 m_Light___bool__
theorem ok_Light___bool__ (T : Tx P K mg C A FD) : FnG P w K mg base C NN 1 (A "Light.__bool__") (arN 1) g_Light___bool__ :=
  fng_of T.F_Light___bool__ sc_Light___bool__ (T.F_Light___bool__.binds (ps := ["self"]) fun _ _ _ _ _ _ us hl => match us, hl with | [_], _ => rfl) (fun cdv Ar outer s H E B hr =>
    (dss_one (ds_ret (de_callT (dcall_boolT rfl) rfl T.no_bool boot_bool (da_cons (de_fld (ks := [("Light", 0)]) rfl (kix_all (all_cons (hf_Light_bands T) all_nil)) (de_var (pv 0))) da_nil)))))
theorem sc_Ink___init__ : FnScope ["self", "off", "on", "takes", "shared"] ["self", "off", "on", "takes"] (defScope s_Ink___init__) := ⟨rfl, rfl, rfl, by decide +kernel, rfl, by decide +kernel, by decide +kernel⟩
theorem kb_Ink___init__ (T : Tx P K mg C A FD) : KBn K (FD "Ink.__init__") ["self", "off", "on", "takes"] 3 ["takes"] (· ++ ·) (· ++ ·) := T.F_Ink___init__.kbn fun _ _ _ _ _ _ us ws h1 h2 => match us, ws, h1, h2 with | [_, _, _], [_], _, _ => rfl
@[reducible] def m_Ink___init___for_Ink : SM := sSeq (sSet 4 (eOp (alt2 (fAnd) (fOwn "Light" (arN 2) g_Light___and__)) (eVar 1) (eVar 2))) (sSeq (sIf (bOf (truO "Light" (arN 1) g_Light___bool__) (eVar 4)) (sSt) (sNil)) (sSeq (sIf (bOf isB (eOp (fNotInS) (eVar 3) (eC (.tup ([("any" : Str), ("bare" : Str), ("inked" : Str)].map .str))))) (sSt) (sNil)) (sSeq (sFld 0 "Ink" 0 (eVar 1)) (sSeq (sFld 0 "Ink" 1 (eVar 2)) (sFld 0 "Ink" 2 (eVar 3))))))
def g_Ink___init___for_Ink : IM := runI 5 "Ink" m_Ink___init___for_Ink
theorem ok_Ink___init___for_Ink (T : Tx P K mg C A FD) : FnOk P w K mg base (L2N.CX P w) 8 (A "Ink.__init__") (FD "Ink.__init__") ["self", "off", "on", "takes"] (SpI K C NN "Ink" (arN 3) g_Ink___init___for_Ink) :=
  fnoi_of T.F_Ink___init__ sc_Ink___init__ (fun cdv Ar outer s H E B x hr =>
    (dss_cons (ds_set (i := 4) sc_Ink___init__.nd rfl (Or.inl rfl) (de_op (opr_alt dop_and (dop_own rfl (hr.mono (by decide)) T.sf_Light___and__ T.ow_Light___and__ T.fn_Light___and__ (ok_Light___and__ T))) (de_var (pv 1)) (de_var (pv 2))))
    (dss_cons (ds_if (db_truO rfl (hr.mono (by decide)) (takesF rfl rfl rfl rfl) T.ow_Light___bool__ T.fn_Light___bool__ (ok_Light___bool__ T) (de_var (pv 4))) (dss_one ds_never) dss_nil)
    (dss_cons (ds_if (db_cmp (dop_notinS rfl) (de_var (pv 3)) (de_ctup (cl := "Ink") rfl rfl T.M_Ink T.cr_Ink T.ct_Ink_TAKES) (by rfl)) (dss_one ds_never) dss_nil)
    (dss_cons (ds_fld (hf_Ink_off T) (pv 0) (de_var (pv 1)))
    (dss_cons (ds_fld (hf_Ink_on T) (pv 0) (de_var (pv 2)))
    (dss_one (ds_fld (hf_Ink_takes T) (pv 0) (de_var (pv 3))))))))))
@[reducible] def m_Ink___init___for_Filter : SM := sSeq (sSet 4 (eOp (alt2 (fAnd) (fOwn "Light" (arN 2) g_Light___and__)) (eVar 1) (eVar 2))) (sSeq (sIf (bOf (truO "Light" (arN 1) g_Light___bool__) (eVar 4)) (sSt) (sNil)) (sSeq (sIf (bOf isB (eOp (fNotInS) (eVar 3) (eC (.tup ([("any" : Str), ("bare" : Str), ("inked" : Str)].map .str))))) (sSt) (sNil)) (sSeq (sFld 0 "Filter" 0 (eVar 1)) (sSeq (sFld 0 "Filter" 1 (eVar 2)) (sFld 0 "Filter" 2 (eVar 3))))))
def g_Ink___init___for_Filter : IM := runI 5 "Filter" m_Ink___init___for_Filter
theorem ok_Ink___init___for_Filter (T : Tx P K mg C A FD) : FnOk P w K mg base (L2N.CX P w) 8 (A "Ink.__init__") (FD "Ink.__init__") ["self", "off", "on", "takes"] (SpI K C NN "Filter" (arN 3) g_Ink___init___for_Filter) :=
  fnoi_of T.F_Ink___init__ sc_Ink___init__ (fun cdv Ar outer s H E B x hr =>
    (dss_cons (ds_set (i := 4) sc_Ink___init__.nd rfl (Or.inl rfl) (de_op (opr_alt dop_and (dop_own rfl (hr.mono (by decide)) T.sf_Light___and__ T.ow_Light___and__ T.fn_Light___and__ (ok_Light___and__ T))) (de_var (pv 1)) (de_var (pv 2))))
    (dss_cons (ds_if (db_truO rfl (hr.mono (by decide)) (takesF rfl rfl rfl rfl) T.ow_Light___bool__ T.fn_Light___bool__ (ok_Light___bool__ T) (de_var (pv 4))) (dss_one ds_never) dss_nil)
    (dss_cons (ds_if (db_cmp (dop_notinS rfl) (de_var (pv 3)) (de_ctup (cl := "Ink") rfl rfl T.M_Ink T.cr_Ink T.ct_Ink_TAKES) (by rfl)) (dss_one ds_never) dss_nil)
    (dss_cons (ds_fld (hf_Filter_off T) (pv 0) (de_var (pv 1)))
    (dss_cons (ds_fld (hf_Filter_on T) (pv 0) (de_var (pv 2)))
    (dss_one (ds_fld (hf_Filter_takes T) (pv 0) (de_var (pv 3))))))))))
theorem sc_Filter___init__ : NdefX.NScope ["self", "light", "takes", "__class__"] ["self", "light", "takes"] [("__class__" : Str)] (defScope s_Filter___init__) := NdefX.nscope_by (by decide +kernel)
@[reducible] def m_Filter___init__ : AM := aApp 2 1 (aCons (eVar 1) (aCons (eMake "Light" (arS 0) g_Light___init__ aNil) (aNil))) (aCons (eVar 2) (aNil))
def g_Filter___init__ : IM := runS 4 "Filter" m_Filter___init__ (arN 3) g_Ink___init___for_Filter
theorem ok_Filter___init__ (T : Tx P K mg C A FD) : FnOk P w K mg base (L2N.CX P w) 9 (A "Filter.__init__") (FD "Filter.__init__") ["self", "light", "takes"] (SpI K C NN "Filter" (arN 2) g_Filter___init__) :=
  supi_ok (k := 8) (k2 := 8) (n := 2) (Nm := ["self", "light", "takes", "__class__"]) T.su_Filter sc_Filter___init__ (ok_Ink___init___for_Filter T) (kb_Ink___init__ T) (by decide) rfl rfl (fun cc c Ar outer s H E B x hr => ⟨(da_cons (de_var (pv 1)) (da_cons (de_make0 T.mk_Light (ok_Light___init__ T) rfl (hr.mono (by decide)) rfl T.M_Light (takesF rfl rfl rfl rfl)) da_nil)),
    (dk_cons (de_var (pv 2)) dk_nil)⟩)
theorem sc_Light_numbered : FnScope ["cls", "number"] ["cls", "number"] (defScope s_Light_numbered) := ⟨rfl, rfl, rfl, by decide +kernel, rfl, by decide +kernel, by decide +kernel⟩
@[reducible] def m_Light_numbered : SM := sSeq (sIf (bOr (bOf isB (eOp (fLt) (eVar 1) (eC (.int 0)))) (bOf isB (eOp (fGe) (eVar 1) (eC (.int 64))))) (sSt) (sNil)) (sRet (eCall (arN 1) g__light (aCons (eVar 1) (aNil))))
def g_Light_numbered : FM := runB 2 m_Light_numbered
theorem ok_Light_numbered (T : Tx P K mg C A FD) : FnG P w K mg base C NN 7 (A "Light.numbered") (arN 2) g_Light_numbered :=
  fng_of T.F_Light_numbered sc_Light_numbered (T.F_Light_numbered.binds (ps := ["cls", "number"]) fun _ _ _ _ _ _ us hl => match us, hl with | [_, _], _ => rfl) (fun cdv Ar outer s H E B hr =>
    (dss_cons (ds_if (DW.db (dw_or (db_cmp dop_lt (de_var (pv 1)) de_int (nomark _)) (dw_or1 (db_cmp dop_ge (de_var (pv 1)) (let ⟨_, h1, h2⟩ := T.co_LIGHTS; de_c (pe_glob rfl h1 h2) (fun _ _ _ => .int)) (nomark _))))) (dss_one ds_never) dss_nil)
    (dss_one (ds_ret (de_call (ok__light T) rfl (hr.mono (by decide)) rfl T.M__light T.F__light.kp (takesF rfl rfl rfl rfl) (da_cons (de_var (pv 1)) da_nil))))))
@[reducible] def m_Ink___init___for_Bleach : SM := sSeq (sSet 4 (eOp (alt2 (fAnd) (fOwn "Light" (arN 2) g_Light___and__)) (eVar 1) (eVar 2))) (sSeq (sIf (bOf (truO "Light" (arN 1) g_Light___bool__) (eVar 4)) (sSt) (sNil)) (sSeq (sIf (bOf isB (eOp (fNotInS) (eVar 3) (eC (.tup ([("any" : Str), ("bare" : Str), ("inked" : Str)].map .str))))) (sSt) (sNil)) (sSeq (sFld 0 "Bleach" 0 (eVar 1)) (sSeq (sFld 0 "Bleach" 1 (eVar 2)) (sFld 0 "Bleach" 2 (eVar 3))))))
def g_Ink___init___for_Bleach : IM := runI 5 "Bleach" m_Ink___init___for_Bleach
theorem ok_Ink___init___for_Bleach (T : Tx P K mg C A FD) : FnOk P w K mg base (L2N.CX P w) 8 (A "Ink.__init__") (FD "Ink.__init__") ["self", "off", "on", "takes"] (SpI K C NN "Bleach" (arN 3) g_Ink___init___for_Bleach) :=
  fnoi_of T.F_Ink___init__ sc_Ink___init__ (fun cdv Ar outer s H E B x hr =>
    (dss_cons (ds_set (i := 4) sc_Ink___init__.nd rfl (Or.inl rfl) (de_op (opr_alt dop_and (dop_own rfl (hr.mono (by decide)) T.sf_Light___and__ T.ow_Light___and__ T.fn_Light___and__ (ok_Light___and__ T))) (de_var (pv 1)) (de_var (pv 2))))
    (dss_cons (ds_if (db_truO rfl (hr.mono (by decide)) (takesF rfl rfl rfl rfl) T.ow_Light___bool__ T.fn_Light___bool__ (ok_Light___bool__ T) (de_var (pv 4))) (dss_one ds_never) dss_nil)
    (dss_cons (ds_if (db_cmp (dop_notinS rfl) (de_var (pv 3)) (de_ctup (cl := "Ink") rfl rfl T.M_Ink T.cr_Ink T.ct_Ink_TAKES) (by rfl)) (dss_one ds_never) dss_nil)
    (dss_cons (ds_fld (hf_Bleach_off T) (pv 0) (de_var (pv 1)))
    (dss_cons (ds_fld (hf_Bleach_on T) (pv 0) (de_var (pv 2)))
    (dss_one (ds_fld (hf_Bleach_takes T) (pv 0) (de_var (pv 3))))))))))
theorem sc_Bleach___init__ : NdefX.NScope ["self", "light", "takes", "__class__"] ["self", "light", "takes"] [("__class__" : Str)] (defScope s_Bleach___init__) := NdefX.nscope_by (by decide +kernel)
@[reducible] def m_Bleach___init__ : AM := aApp 2 1 (aCons (eMake "Light" (arS 0) g_Light___init__ aNil) (aCons (eVar 1) (aNil))) (aCons (eVar 2) (aNil))
def g_Bleach___init__ : IM := runS 4 "Bleach" m_Bleach___init__ (arN 3) g_Ink___init___for_Bleach
theorem ok_Bleach___init__ (T : Tx P K mg C A FD) : FnOk P w K mg base (L2N.CX P w) 9 (A "Bleach.__init__") (FD "Bleach.__init__") ["self", "light", "takes"] (SpI K C NN "Bleach" (arN 2) g_Bleach___init__) :=
  supi_ok (k := 8) (k2 := 8) (n := 2) (Nm := ["self", "light", "takes", "__class__"]) T.su_Bleach sc_Bleach___init__ (ok_Ink___init___for_Bleach T) (kb_Ink___init__ T) (by decide) rfl rfl (fun cc c Ar outer s H E B x hr => ⟨(da_cons (de_make0 T.mk_Light (ok_Light___init__ T) rfl (hr.mono (by decide)) rfl T.M_Light (takesF rfl rfl rfl rfl)) (da_cons (de_var (pv 1)) da_nil)),
    (dk_cons (de_var (pv 2)) dk_nil)⟩)
@[reducible] def m_Ink___init___for_Opaque : SM := sSeq (sSet 4 (eOp (alt2 (fAnd) (fOwn "Light" (arN 2) g_Light___and__)) (eVar 1) (eVar 2))) (sSeq (sIf (bOf (truO "Light" (arN 1) g_Light___bool__) (eVar 4)) (sSt) (sNil)) (sSeq (sIf (bOf isB (eOp (fNotInS) (eVar 3) (eC (.tup ([("any" : Str), ("bare" : Str), ("inked" : Str)].map .str))))) (sSt) (sNil)) (sSeq (sFld 0 "Opaque" 0 (eVar 1)) (sSeq (sFld 0 "Opaque" 1 (eVar 2)) (sFld 0 "Opaque" 2 (eVar 3))))))
def g_Ink___init___for_Opaque : IM := runI 5 "Opaque" m_Ink___init___for_Opaque
theorem ok_Ink___init___for_Opaque (T : Tx P K mg C A FD) : FnOk P w K mg base (L2N.CX P w) 8 (A "Ink.__init__") (FD "Ink.__init__") ["self", "off", "on", "takes"] (SpI K C NN "Opaque" (arN 3) g_Ink___init___for_Opaque) :=
  fnoi_of T.F_Ink___init__ sc_Ink___init__ (fun cdv Ar outer s H E B x hr =>
    (dss_cons (ds_set (i := 4) sc_Ink___init__.nd rfl (Or.inl rfl) (de_op (opr_alt dop_and (dop_own rfl (hr.mono (by decide)) T.sf_Light___and__ T.ow_Light___and__ T.fn_Light___and__ (ok_Light___and__ T))) (de_var (pv 1)) (de_var (pv 2))))
    (dss_cons (ds_if (db_truO rfl (hr.mono (by decide)) (takesF rfl rfl rfl rfl) T.ow_Light___bool__ T.fn_Light___bool__ (ok_Light___bool__ T) (de_var (pv 4))) (dss_one ds_never) dss_nil)
    (dss_cons (ds_if (db_cmp (dop_notinS rfl) (de_var (pv 3)) (de_ctup (cl := "Ink") rfl rfl T.M_Ink T.cr_Ink T.ct_Ink_TAKES) (by rfl)) (dss_one ds_never) dss_nil)
    (dss_cons (ds_fld (hf_Opaque_off T) (pv 0) (de_var (pv 1)))
    (dss_cons (ds_fld (hf_Opaque_on T) (pv 0) (de_var (pv 2)))
    (dss_one (ds_fld (hf_Opaque_takes T) (pv 0) (de_var (pv 3))))))))))
theorem sc_Light___invert__ : FnScope ["self"] ["self"] (defScope s_Light___invert__) := ⟨rfl, rfl, rfl, by decide +kernel, rfl, by decide +kernel, by decide +kernel⟩
@[reducible] def m_Light___invert__ : SM := sRet (eCall (arN 1) g__light (aCons (eOp (fSub) (eOp (fSub) (eC (.int 64)) (eC (.int 1))) (eFld [("Light", 1)] (eVar 0))) (aNil)))
def g_Light___invert__ : FM := runB 1 m_Light___invert__
theorem ok_Light___invert__ (T : Tx P K mg C A FD) : FnG P w K mg base C NN 7 (A "Light.__invert__") (arN 1) g_Light___invert__ :=
  fng_of T.F_Light___invert__ sc_Light___invert__ (T.F_Light___invert__.binds (ps := ["self"]) fun _ _ _ _ _ _ us hl => match us, hl with | [_], _ => rfl) (fun cdv Ar outer s H E B hr =>
    (dss_one (ds_ret (de_call (ok__light T) rfl (hr.mono (by decide)) rfl T.M__light T.F__light.kp (takesF rfl rfl rfl rfl) (da_cons (de_op dop_sub (de_op dop_sub (let ⟨_, h1, h2⟩ := T.co_LIGHTS; de_c (pe_glob rfl h1 h2) (fun _ _ _ => .int)) de_int) (de_fld (ks := [("Light", 1)]) rfl (kix_all (all_cons (hf_Light_number T) all_nil)) (de_var (pv 0)))) da_nil)))))
theorem sc_Opaque___init__ : NdefX.NScope ["self", "light", "takes", "__class__"] ["self", "light", "takes"] [("__class__" : Str)] (defScope s_Opaque___init__) := NdefX.nscope_by (by decide +kernel)
@[reducible] def m_Opaque___init__ : AM := aApp 2 1 (aCons (eUn (alt1 (fInv) (fOwn1 "Light" (arN 1) g_Light___invert__)) (eVar 1)) (aCons (eVar 1) (aNil))) (aCons (eVar 2) (aNil))
def g_Opaque___init__ : IM := runS 4 "Opaque" m_Opaque___init__ (arN 3) g_Ink___init___for_Opaque
theorem ok_Opaque___init__ (T : Tx P K mg C A FD) : FnOk P w K mg base (L2N.CX P w) 9 (A "Opaque.__init__") (FD "Opaque.__init__") ["self", "light", "takes"] (SpI K C NN "Opaque" (arN 2) g_Opaque___init__) :=
  supi_ok (k := 8) (k2 := 8) (n := 2) (Nm := ["self", "light", "takes", "__class__"]) T.su_Opaque sc_Opaque___init__ (ok_Ink___init___for_Opaque T) (kb_Ink___init__ T) (by decide) rfl rfl (fun cc c Ar outer s H E B x hr => ⟨(da_cons (de_un (unr_alt dun_inv (dun_own rfl (hr.mono (by decide)) T.ow_Light___invert__ T.fn_Light___invert__ (ok_Light___invert__ T))) (de_var (pv 1))) (da_cons (de_var (pv 1)) da_nil)),
    (dk_cons (de_var (pv 2)) dk_nil)⟩)
theorem sc__law_ink : FnScope ["_law_one_here"] ["_law_one_here"] (defScope s__law_ink) := ⟨rfl, rfl, rfl, by decide +kernel, rfl, by decide +kernel, by decide +kernel⟩
@[reducible] def m__law_ink : SM := sSeq (sIf (bOf isB (eOp (fEq) (eOp fIx (eVar 0) (eC (.int 5))) (eC (.str "filter")))) (sRet (eMake "Filter" (arN 2) g_Filter___init__ (aApp 1 1 (aCons (eCMeth "Light" (arN 2) g_Light_numbered (aCons (eOp fIx (eVar 0) (eC (.int 3))) (aNil))) (aNil)) (aCons (eOp fIx (eVar 0) (eC (.int 2))) (aNil))))) (sNil)) (sSeq (sIf (bOf isB (eOp (fEq) (eOp fIx (eVar 0) (eC (.int 5))) (eC (.str "bleach")))) (sRet (eMake "Bleach" (arN 2) g_Bleach___init__ (aApp 1 1 (aCons (eCMeth "Light" (arN 2) g_Light_numbered (aCons (eOp fIx (eVar 0) (eC (.int 4))) (aNil))) (aNil)) (aCons (eOp fIx (eVar 0) (eC (.int 2))) (aNil))))) (sNil)) (sSeq (sIf (bOf isB (eOp (fEq) (eOp fIx (eVar 0) (eC (.int 5))) (eC (.str "opaque")))) (sRet (eMake "Opaque" (arN 2) g_Opaque___init__ (aApp 1 1 (aCons (eCMeth "Light" (arN 2) g_Light_numbered (aCons (eOp fIx (eVar 0) (eC (.int 4))) (aNil))) (aNil)) (aCons (eOp fIx (eVar 0) (eC (.int 2))) (aNil))))) (sNil)) (sRet (eMake "Ink" (arN 3) g_Ink___init___for_Ink (aApp 2 1 (aCons (eCMeth "Light" (arN 2) g_Light_numbered (aCons (eOp fIx (eVar 0) (eC (.int 3))) (aNil))) (aCons (eCMeth "Light" (arN 2) g_Light_numbered (aCons (eOp fIx (eVar 0) (eC (.int 4))) (aNil))) (aNil))) (aCons (eOp fIx (eVar 0) (eC (.int 2))) (aNil)))))))
def g__law_ink : FM := runB 1 m__law_ink
theorem ok__law_ink (T : Tx P K mg C A FD) : FnG P w K mg base C NN 11 (A "_law_ink") (arN 1) g__law_ink :=
  fng_of T.F__law_ink sc__law_ink (T.F__law_ink.binds (ps := ["_law_one_here"]) fun _ _ _ _ _ _ us hl => match us, hl with | [_], _ => rfl) (fun cdv Ar outer s H E B hr =>
    (dss_cons (ds_if (db_cmp (dop_eq rfl hr.units) (de_ix (dix rfl) (de_var (pv 0)) de_int) de_str (nomark _)) (dss_one (ds_ret (de_makeK (n := 1) T.mk_Filter (ok_Filter___init__ T) T.kbs_Filter rfl rfl (hr.mono (by decide)) rfl T.M_Filter (takesF rfl rfl rfl rfl) (da_cons (let ⟨_, h1⟩ := T.cm_Light_numbered; de_cmeth rfl rfl T.M_Light T.cr_Light h1 (ok_Light_numbered T) (hr.mono (by decide)) (takesF rfl rfl rfl rfl) (da_cons (de_ix (dix rfl) (de_var (pv 0)) de_int) da_nil)) da_nil) (dk_cons (de_ix (dix rfl) (de_var (pv 0)) de_int) dk_nil)))) dss_nil)
    (dss_cons (ds_if (db_cmp (dop_eq rfl hr.units) (de_ix (dix rfl) (de_var (pv 0)) de_int) de_str (nomark _)) (dss_one (ds_ret (de_makeK (n := 1) T.mk_Bleach (ok_Bleach___init__ T) T.kbs_Bleach rfl rfl (hr.mono (by decide)) rfl T.M_Bleach (takesF rfl rfl rfl rfl) (da_cons (let ⟨_, h1⟩ := T.cm_Light_numbered; de_cmeth rfl rfl T.M_Light T.cr_Light h1 (ok_Light_numbered T) (hr.mono (by decide)) (takesF rfl rfl rfl rfl) (da_cons (de_ix (dix rfl) (de_var (pv 0)) de_int) da_nil)) da_nil) (dk_cons (de_ix (dix rfl) (de_var (pv 0)) de_int) dk_nil)))) dss_nil)
    (dss_cons (ds_if (db_cmp (dop_eq rfl hr.units) (de_ix (dix rfl) (de_var (pv 0)) de_int) de_str (nomark _)) (dss_one (ds_ret (de_makeK (n := 1) T.mk_Opaque (ok_Opaque___init__ T) T.kbs_Opaque rfl rfl (hr.mono (by decide)) rfl T.M_Opaque (takesF rfl rfl rfl rfl) (da_cons (let ⟨_, h1⟩ := T.cm_Light_numbered; de_cmeth rfl rfl T.M_Light T.cr_Light h1 (ok_Light_numbered T) (hr.mono (by decide)) (takesF rfl rfl rfl rfl) (da_cons (de_ix (dix rfl) (de_var (pv 0)) de_int) da_nil)) da_nil) (dk_cons (de_ix (dix rfl) (de_var (pv 0)) de_int) dk_nil)))) dss_nil)
    (dss_one (ds_ret (de_makeK (n := 2) T.mk_Ink (ok_Ink___init___for_Ink T) (kb_Ink___init__ T) rfl rfl (hr.mono (by decide)) rfl T.M_Ink (takesF rfl rfl rfl rfl) (da_cons (let ⟨_, h1⟩ := T.cm_Light_numbered; de_cmeth rfl rfl T.M_Light T.cr_Light h1 (ok_Light_numbered T) (hr.mono (by decide)) (takesF rfl rfl rfl rfl) (da_cons (de_ix (dix rfl) (de_var (pv 0)) de_int) da_nil)) (da_cons (let ⟨_, h1⟩ := T.cm_Light_numbered; de_cmeth rfl rfl T.M_Light T.cr_Light h1 (ok_Light_numbered T) (hr.mono (by decide)) (takesF rfl rfl rfl rfl) (da_cons (de_ix (dix rfl) (de_var (pv 0)) de_int) da_nil)) da_nil)) (dk_cons (de_ix (dix rfl) (de_var (pv 0)) de_int) dk_nil))))))))
theorem sc__law_sum : FnScope ["_law_ones", "_law_total", "_law_one_here"] ["_law_ones"] (defScope s__law_sum) := ⟨rfl, rfl, rfl, by decide +kernel, rfl, by decide +kernel, by decide +kernel⟩
@[reducible] def m__law_sum : SM := sSeq (sSet 1 (eCMeth "Film" (arN 1) g_Film_nothing aNil)) (sSeq (sFor 2 (lSeq (eVar 0)) (sSet 1 (eOp (alt2 (fAdd) (fOwn "Film" (arN 2) g_Film___add__)) (eVar 1) (eMeth [("Ink", ((arN 1 : Ar), g_Ink_film)), ("Filter", ((arN 1 : Ar), g_Ink_film)), ("Opaque", ((arN 1 : Ar), g_Ink_film)), ("Bleach", ((arN 1 : Ar), g_Ink_film))] (eCall (arN 1) g__law_ink (aCons (eVar 2) (aNil))) aNil)))) (sRet (eVar 1)))
def g__law_sum : FM := runB 3 m__law_sum
theorem ok__law_sum (T : Tx P K mg C A FD) : FnG P w K mg base C NN 12 (A "_law_sum") (arN 1) g__law_sum :=
  fng_of T.F__law_sum sc__law_sum (T.F__law_sum.binds (ps := ["_law_ones"]) fun _ _ _ _ _ _ us hl => match us, hl with | [_], _ => rfl) (fun cdv Ar outer s H E B hr =>
    (dss_cons (ds_set (i := 1) sc__law_sum.nd rfl (Or.inl rfl) (let ⟨_, h1⟩ := T.cm_Film_nothing; de_cmeth0 rfl rfl T.M_Film T.cr_Film h1 (ok_Film_nothing T) (hr.mono (by decide)) (takesF rfl rfl rfl rfl)))
    (dss_cons (ds_for (k := 2) (passes_of rfl) rfl (di_lst rfl (de_var (pv 0))) (pg_name (i := 2) sc__law_sum.nd rfl (Or.inl rfl)) (dss_one (ds_set (i := 1) sc__law_sum.nd rfl (Or.inl rfl) (de_op (opr_alt dop_add (dop_own rfl (hr.mono (by decide)) T.sf_Film___add__ T.ow_Film___add__ T.fn_Film___add__ (ok_Film___add__ T))) (de_var (pv 1)) (de_meth0 (lv := 7) rfl (hr.mono (by decide)) (takesF rfl rfl rfl rfl) (fun k A g => kfn_all (all_cons (hm_Ink_film T) (all_cons (hm_Filter_film T) (all_cons (hm_Opaque_film T) (all_cons (hm_Bleach_film T) all_nil)))) k A g) (de_call (ok__law_ink T) rfl (hr.mono (by decide)) rfl T.M__law_ink T.F__law_ink.kp (takesF rfl rfl rfl rfl) (da_cons (de_var (pv 2)) da_nil)))))))
    (dss_one (ds_ret (de_var (pv 1)))))))
theorem sc__law_active : FnScope ["_law_one_here", "_law_lit"] ["_law_one_here", "_law_lit"] (defScope s__law_active) := ⟨rfl, rfl, rfl, by decide +kernel, rfl, by decide +kernel, by decide +kernel⟩
@[reducible] def m__law_active : SM := sSeq (sIf (bOf isB (eOp (fIs) (eOp fIx (eVar 0) (eC (.int 0))) (eC .non))) (sRet (eC (.bl true))) (sNil)) (sRet (eOp (fNe) (eOp (fInS) (eOp fIx (eVar 0) (eC (.int 0))) (eVar 1)) (eOp fIx (eVar 0) (eC (.int 1)))))
def g__law_active : FM := runB 2 m__law_active
theorem ok__law_active (T : Tx P K mg C A FD) : FnG P w K mg base C NN 1 (A "_law_active") (arN 2) g__law_active :=
  fng_of T.F__law_active sc__law_active (T.F__law_active.binds (ps := ["_law_one_here", "_law_lit"]) fun _ _ _ _ _ _ us hl => match us, hl with | [_, _], _ => rfl) (fun cdv Ar outer s H E B hr =>
    (dss_cons (ds_if (db_cmp dop_is (de_ix (dix rfl) (de_var (pv 0)) de_int) de_non (nomark _)) (dss_one (ds_ret de_bl)) dss_nil)
    (dss_one (ds_ret (de_cmp (dop_ne rfl hr.units) (de_cmp (dop_inS rfl) (de_ix (dix rfl) (de_var (pv 0)) de_int) (de_var (pv 1)) (by rfl)) (de_ix (dix rfl) (de_var (pv 0)) de_int) (nomark _))))))
theorem sc__law_step : FnScope ["_law_state", "_law_one_here", "_law_lit"] ["_law_state", "_law_one_here", "_law_lit"] (defScope s__law_step) := ⟨rfl, rfl, rfl, by decide +kernel, rfl, by decide +kernel, by decide +kernel⟩
@[reducible] def m__law_step : SM := sSeq (sIf (bNot (bOf truE (eCall (arN 2) g__law_active (aCons (eVar 1) (aCons (eVar 2) (aNil)))))) (sRet (eVar 0)) (sNil)) (sSeq (sIf (bOr (bAnd (bOf isB (eOp (fEq) (eOp fIx (eVar 1) (eC (.int 2))) (eC (.str "bare")))) (bOf truE (eOp fIx (eVar 0) (eC (.int 1))))) (bAnd (bOf isB (eOp (fEq) (eOp fIx (eVar 1) (eC (.int 2))) (eC (.str "inked")))) (bNot (bOf truE (eOp fIx (eVar 0) (eC (.int 1))))))) (sRet (eVar 0)) (sNil)) (sRet (eTup (aCons (eOp (fOr) (eOp (fAnd) (eOp fIx (eVar 0) (eC (.int 0))) (eOp (fSub) (eC (.int 63)) (eOp fIx (eVar 1) (eC (.int 3))))) (eOp fIx (eVar 1) (eC (.int 4)))) (aCons (eC (.bl true)) (aNil))))))
def g__law_step : FM := runB 3 m__law_step
theorem ok__law_step (T : Tx P K mg C A FD) : FnG P w K mg base C NN 2 (A "_law_step") (arN 3) g__law_step :=
  fng_of T.F__law_step sc__law_step (T.F__law_step.binds (ps := ["_law_state", "_law_one_here", "_law_lit"]) fun _ _ _ _ _ _ us hl => match us, hl with | [_, _, _], _ => rfl) (fun cdv Ar outer s H E B hr =>
    (dss_cons (ds_if (db_not (db_tru rfl (de_call (ok__law_active T) rfl (hr.mono (by decide)) rfl T.M__law_active T.F__law_active.kp (takesF rfl rfl rfl rfl) (da_cons (de_var (pv 1)) (da_cons (de_var (pv 2)) da_nil))))) (dss_one (ds_ret (de_var (pv 0)))) dss_nil)
    (dss_cons (ds_if (DW.db (dw_or (DW.db (dw_and (db_cmp (dop_eq rfl hr.units) (de_ix (dix rfl) (de_var (pv 1)) de_int) de_str (nomark _)) (dw_and1 (db_tru rfl (de_ix (dix rfl) (de_var (pv 0)) de_int))))) (dw_or1 (DW.db (dw_and (db_cmp (dop_eq rfl hr.units) (de_ix (dix rfl) (de_var (pv 1)) de_int) de_str (nomark _)) (dw_and1 (db_not (db_tru rfl (de_ix (dix rfl) (de_var (pv 0)) de_int))))))))) (dss_one (ds_ret (de_var (pv 0)))) dss_nil)
    (dss_one (ds_ret (de_tup (da_cons (de_op dop_or (de_op dop_and (de_ix (dix rfl) (de_var (pv 0)) de_int) (de_op dop_sub de_int (de_ix (dix rfl) (de_var (pv 1)) de_int))) (de_ix (dix rfl) (de_var (pv 1)) de_int)) (da_cons de_bl da_nil))))))))
theorem sc__law_print : FnScope ["_law_ones", "_law_lit", "_law_colour", "_law_wet", "_law_state", "_law_one_here"] ["_law_ones", "_law_lit", "_law_colour", "_law_wet"] (defScope s__law_print) := ⟨rfl, rfl, rfl, by decide +kernel, rfl, by decide +kernel, by decide +kernel⟩
@[reducible] def m__law_print : SM := sSeq (sSet 4 (eTup (aCons (eVar 2) (aCons (eVar 3) (aNil))))) (sSeq (sFor 5 (lSeq (eVar 0)) (sSet 4 (eCall (arN 3) g__law_step (aCons (eVar 4) (aCons (eVar 5) (aCons (eVar 1) (aNil))))))) (sRet (eVar 4)))
def g__law_print : FM := runB 6 m__law_print
theorem ok__law_print (T : Tx P K mg C A FD) : FnG P w K mg base C NN 3 (A "_law_print") (arN 4) g__law_print :=
  fng_of T.F__law_print sc__law_print (T.F__law_print.binds (ps := ["_law_ones", "_law_lit", "_law_colour", "_law_wet"]) fun _ _ _ _ _ _ us hl => match us, hl with | [_, _, _, _], _ => rfl) (fun cdv Ar outer s H E B hr =>
    (dss_cons (ds_set (i := 4) sc__law_print.nd rfl (Or.inl rfl) (de_tup (da_cons (de_var (pv 2)) (da_cons (de_var (pv 3)) da_nil))))
    (dss_cons (ds_for (k := 5) (passes_of rfl) rfl (di_lst rfl (de_var (pv 0))) (pg_name (i := 5) sc__law_print.nd rfl (Or.inl rfl)) (dss_one (ds_set (i := 4) sc__law_print.nd rfl (Or.inl rfl) (de_call (ok__law_step T) rfl (hr.mono (by decide)) rfl T.M__law_step T.F__law_step.kp (takesF rfl rfl rfl rfl) (da_cons (de_var (pv 4)) (da_cons (de_var (pv 5)) (da_cons (de_var (pv 1)) da_nil)))))))
    (dss_one (ds_ret (de_var (pv 4)))))))
theorem sc__law_film : FnScope ["_law_ones", "_law_lit", "_law_k"] ["_law_ones", "_law_lit"] (defScope s__law_film) := ⟨rfl, rfl, rfl, by decide +kernel, rfl, by decide +kernel, by decide +kernel⟩
@[reducible] def m__law_film : SM := sRet (eLc 2 [2] (lRng1 (aCons (eC (.int 4)) (aNil))) (bYes) (eCall (arN 4) g__law_print (aCons (eVar 0) (aCons (eVar 1) (aCons (eOp fIx (eLst (aCons (eC (.int 0)) (aCons (eC (.int 63)) (aNil)))) (eOp (fMod) (eVar 2) (eC (.int 2)))) (aCons (eOp (fGt) (eVar 2) (eC (.int 1))) (aNil)))))))
def g__law_film : FM := runB 3 m__law_film
theorem ok__law_film (T : Tx P K mg C A FD) : FnG P w K mg base C NN 4 (A "_law_film") (arN 2) g__law_film :=
  fng_of T.F__law_film sc__law_film (T.F__law_film.binds (ps := ["_law_ones", "_law_lit"]) fun _ _ _ _ _ _ us hl => match us, hl with | [_, _], _ => rfl) (fun cdv Ar outer s H E B hr =>
    (dss_one (ds_ret (de_lc (own := [("_law_k", 2)]) rfl sc__law_film.nd (di_range1 rfl T.no_range (da_cons de_int da_nil)) (blkOk_by (own := [("_law_k", 2)]) (N := ["_law_ones", "_law_lit", "_law_k"]) (sc := defScope s__law_film) (by decide +kernel)) (by decide) (fun _ _ _ _ _ => pg_name (i := 2) sc__law_film.nd rfl (Or.inl rfl)) (fun _ _ _ _ _ => dts_nil) (fun _ _ _ _ _ => (de_call (ok__law_print T) rfl (hr.mono (by decide)) rfl T.M__law_print T.F__law_print.kp takesB (da_cons (de_var (pv 0)) (da_cons (de_var (pv 1)) (da_cons (de_ix (dix rfl) (de_lst (da_cons de_int (da_cons de_int da_nil))) (de_op dop_mod (de_var (pv 2)) de_int)) (da_cons (de_cmp dop_gt (de_var (pv 2)) de_int (nomark _)) da_nil))))))))))
theorem sc_Light___eq__ : FnScope ["self", "other"] ["self", "other"] (defScope s_Light___eq__) := ⟨rfl, rfl, rfl, by decide +kernel, rfl, by decide +kernel, by decide +kernel⟩
@[reducible] def m_Light___eq__ : SM := sRet (eAnd (eFN (fIsi TB) (aCons (eVar 1) (aCons (eC (.cls "Light")) (aNil)))) (eOp (fEq) (eFld [("Light", 1)] (eVar 0)) (eFld [("Light", 1)] (eVar 1))))
def g_Light___eq__ : FM := runB 2 m_Light___eq__
theorem ok_Light___eq__ (T : Tx P K mg C A FD) : FnG P w K mg base C NN 1 (A "Light.__eq__") (arN 2) g_Light___eq__ :=
  fng_of T.F_Light___eq__ sc_Light___eq__ (T.F_Light___eq__.binds (ps := ["self", "other"]) fun _ _ _ _ _ _ us hl => match us, hl with | [_, _], _ => rfl) (fun cdv Ar outer s H E B hr =>
    (dss_one (ds_ret (de_and (de_callB (dcall_isi (tb := TB) rfl T.ik (fun _ _ _ h => isi_tb T h)) rfl T.no_isinstance boot_isinstance (da_cons (de_var (pv 1)) (da_cons (de_c (v := V.ref (C "Light")) (pe_glob rfl T.M_Light rfl) (fun _ _ _ => Rep.cls)) da_nil))) (de_one (de_cmp (dop_eq rfl hr.units) (de_fld (ks := [("Light", 1)]) rfl (kix_all (all_cons (hf_Light_number T) all_nil)) (de_var (pv 0))) (de_fld (ks := [("Light", 1)]) rfl (kix_all (all_cons (hf_Light_number T) all_nil)) (de_var (pv 1))) (nomark _)))))))
theorem sc_Film___eq__ : FnScope ["self", "other"] ["self", "other"] (defScope s_Film___eq__) := ⟨rfl, rfl, rfl, by decide +kernel, rfl, by decide +kernel, by decide +kernel⟩
@[reducible] def m_Film___eq__ : SM := sRet (eAnd (eFN (fIsi TB) (aCons (eVar 1) (aCons (eC (.cls "Film")) (aNil)))) (eAnd (eOp (alt2 (fEq) (fEqT "Light" (arN 2) g_Light___eq__)) (eFld [("Film", 0)] (eVar 0)) (eFld [("Film", 0)] (eVar 1))) (eOp (alt2 (fEq) (fEqT "Light" (arN 2) g_Light___eq__)) (eFld [("Film", 1)] (eVar 0)) (eFld [("Film", 1)] (eVar 1)))))
def g_Film___eq__ : FM := runB 2 m_Film___eq__
theorem ok_Film___eq__ (T : Tx P K mg C A FD) : FnG P w K mg base C NN 3 (A "Film.__eq__") (arN 2) g_Film___eq__ :=
  fng_of T.F_Film___eq__ sc_Film___eq__ (T.F_Film___eq__.binds (ps := ["self", "other"]) fun _ _ _ _ _ _ us hl => match us, hl with | [_, _], _ => rfl) (fun cdv Ar outer s H E B hr =>
    (dss_one (ds_ret (de_and (de_callB (dcall_isi (tb := TB) rfl T.ik (fun _ _ _ h => isi_tb T h)) rfl T.no_isinstance boot_isinstance (da_cons (de_var (pv 1)) (da_cons (de_c (v := V.ref (C "Film")) (pe_glob rfl T.M_Film rfl) (fun _ _ _ => Rep.cls)) da_nil))) (de_and (de_cmp (opr_alt (dop_eq rfl hr.units) (dop_eqT (lv := 1) rfl (hr.mono (by decide)) T.ow_Light___eq__ T.fn_Light___eq__ (ok_Light___eq__ T))) (de_fld (ks := [("Film", 0)]) rfl (kix_all (all_cons (hf_Film_bare T) all_nil)) (de_var (pv 0))) (de_fld (ks := [("Film", 0)]) rfl (kix_all (all_cons (hf_Film_bare T) all_nil)) (de_var (pv 1))) (nomark _)) (de_one (de_cmp (opr_alt (dop_eq rfl hr.units) (dop_eqT (lv := 1) rfl (hr.mono (by decide)) T.ow_Light___eq__ T.fn_Light___eq__ (ok_Light___eq__ T))) (de_fld (ks := [("Film", 1)]) rfl (kix_all (all_cons (hf_Film_inked T) all_nil)) (de_var (pv 0))) (de_fld (ks := [("Film", 1)]) rfl (kix_all (all_cons (hf_Film_inked T) all_nil)) (de_var (pv 1))) (nomark _))))))))
theorem sc__law_is : FnScope ["_law_actual", "_law_expected"] ["_law_actual", "_law_expected"] (defScope s__law_is) := ⟨rfl, rfl, rfl, by decide +kernel, rfl, by decide +kernel, by decide +kernel⟩
@[reducible] def m__law_is : SM := sRet (eAnd (eFN (fIsi TB) (aCons (eVar 0) (aCons (eC (.ty "bool")) (aNil)))) (eOp (fEq) (eVar 0) (eVar 1)))
def g__law_is : FM := runB 2 m__law_is
theorem ok__law_is (T : Tx P K mg C A FD) : FnG P w K mg base C NN 1 (A "_law_is") (arN 2) g__law_is :=
  fng_of T.F__law_is sc__law_is (T.F__law_is.binds (ps := ["_law_actual", "_law_expected"]) fun _ _ _ _ _ _ us hl => match us, hl with | [_, _], _ => rfl) (fun cdv Ar outer s H E B hr =>
    (dss_one (ds_ret (de_and (de_callB (dcall_isi (tb := TB) rfl T.ik (fun _ _ _ h => isi_tb T h)) rfl T.no_isinstance boot_isinstance (da_cons (de_var (pv 0)) (da_cons (de_c (v := V.ty "bool") (pe_bltn rfl T.no_bool boot_bool rfl) (fun _ _ _ => Rep.ty)) da_nil))) (de_one (de_cmp (dop_eq rfl hr.units) (de_var (pv 0)) (de_var (pv 1)) (nomark _)))))))
theorem sc__law_effect : FnScope ["_law_states", "_law_start"] ["_law_states", "_law_start"] (defScope s__law_effect) := ⟨rfl, rfl, rfl, by decide +kernel, rfl, by decide +kernel, by decide +kernel⟩
@[reducible] def m__law_effect : SM := sRet (eTup (aCons (eOp (fAnd) (eC (.int 63)) (eOp (fSub) (eC (.int 63)) (eOp fIx (eOp fIx (eVar 0) (eOp (fAdd) (eVar 1) (eC (.int 1)))) (eC (.int 0))))) (aCons (eOp fIx (eOp fIx (eVar 0) (eVar 1)) (eC (.int 0))) (aCons (eOp fIx (eOp fIx (eVar 0) (eVar 1)) (eC (.int 1))) (aNil)))))
def g__law_effect : FM := runB 2 m__law_effect
theorem ok__law_effect (T : Tx P K mg C A FD) : FnG P w K mg base C NN 1 (A "_law_effect") (arN 2) g__law_effect :=
  fng_of T.F__law_effect sc__law_effect (T.F__law_effect.binds (ps := ["_law_states", "_law_start"]) fun _ _ _ _ _ _ us hl => match us, hl with | [_, _], _ => rfl) (fun cdv Ar outer s H E B hr =>
    (dss_one (ds_ret (de_tup (da_cons (de_op dop_and de_int (de_op dop_sub de_int (de_ix (dix rfl) (de_ix (dix rfl) (de_var (pv 0)) (de_op dop_add (de_var (pv 1)) de_int)) de_int))) (da_cons (de_ix (dix rfl) (de_ix (dix rfl) (de_var (pv 0)) (de_var (pv 1))) de_int) (da_cons (de_ix (dix rfl) (de_ix (dix rfl) (de_var (pv 0)) (de_var (pv 1))) de_int) da_nil)))))))
theorem sc__writes_nothing : FnScope ["effect", "off", "on", "_"] ["effect"] (defScope s__writes_nothing) := ⟨rfl, rfl, rfl, by decide +kernel, rfl, by decide +kernel, by decide +kernel⟩
@[reducible] def m__writes_nothing : SM := sSeq (sUnp [1, 2, 3] (eVar 0)) (sRet (eAnd (eNotO "Light" (arN 1) g_Light___bool__ (eVar 1)) (eNotO "Light" (arN 1) g_Light___bool__ (eVar 2))))
def g__writes_nothing : FM := runB 4 m__writes_nothing
theorem ok__writes_nothing (T : Tx P K mg C A FD) : FnG P w K mg base C NN 2 (A "_writes_nothing") (arN 1) g__writes_nothing :=
  fng_of T.F__writes_nothing sc__writes_nothing (T.F__writes_nothing.binds (ps := ["effect"]) fun _ _ _ _ _ _ us hl => match us, hl with | [_], _ => rfl) (fun cdv Ar outer s H E B hr =>
    (dss_cons (ds_unp (is := [1, 2, 3]) rfl rfl (de_var (pv 0)) (pgs_cons (pg_name (i := 1) sc__writes_nothing.nd rfl (Or.inl rfl)) (pgs_cons (pg_name (i := 2) sc__writes_nothing.nd rfl (Or.inl rfl)) (pgs_cons (pg_name (i := 3) sc__writes_nothing.nd rfl (Or.inl rfl)) pgs_nil))) rfl)
    (dss_one (ds_ret (de_and (de_notO rfl (hr.mono (by decide)) (takesF rfl rfl rfl rfl) T.ow_Light___bool__ T.fn_Light___bool__ (ok_Light___bool__ T) (de_var (pv 1))) (de_one (de_notO rfl (hr.mono (by decide)) (takesF rfl rfl rfl rfl) T.ow_Light___bool__ T.fn_Light___bool__ (ok_Light___bool__ T) (de_var (pv 2)))))))))
theorem sc_Film_idle : FnScope ["self", "marks"] ["self"] (defScope s_Film_idle) := ⟨rfl, rfl, rfl, by decide +kernel, rfl, by decide +kernel, by decide +kernel⟩
@[reducible] def m_Film_idle : SM := sSeq (sSet 1 (eOp fIx (eFld [("Film", 0)] (eVar 0)) (eC (.int 2)))) (sRet (eAnd (eNot (eVar 1)) (eAnd (eCall (arN 1) g__writes_nothing (aCons (eFld [("Film", 0)] (eVar 0)) (aNil))) (eCall (arN 1) g__writes_nothing (aCons (eFld [("Film", 1)] (eVar 0)) (aNil))))))
def g_Film_idle : FM := runB 2 m_Film_idle
theorem ok_Film_idle (T : Tx P K mg C A FD) : FnOk P w K mg base (L2N.CX P w) 3 (A "Film.idle") (FD "Film.idle") ["self"] (Spd K C NN (arN 1) g_Film_idle) :=
  fno_of T.F_Film_idle sc_Film_idle (fun cdv Ar outer s H E B hr =>
    (dss_cons (ds_set (i := 1) sc_Film_idle.nd rfl (Or.inl rfl) (de_ix (dix rfl) (de_fld (ks := [("Film", 0)]) rfl (kix_all (all_cons (hf_Film_bare T) all_nil)) (de_var (pv 0))) de_int))
    (dss_one (ds_ret (de_and (de_not (de_var (pv 1))) (de_and (de_call (ok__writes_nothing T) rfl (hr.mono (by decide)) rfl T.M__writes_nothing T.F__writes_nothing.kp (takesF rfl rfl rfl rfl) (da_cons (de_fld (ks := [("Film", 0)]) rfl (kix_all (all_cons (hf_Film_bare T) all_nil)) (de_var (pv 0))) da_nil)) (de_one (de_call (ok__writes_nothing T) rfl (hr.mono (by decide)) rfl T.M__writes_nothing T.F__writes_nothing.kp (takesF rfl rfl rfl rfl) (da_cons (de_fld (ks := [("Film", 1)]) rfl (kix_all (all_cons (hf_Film_inked T) all_nil)) (de_var (pv 0))) da_nil)))))))))
theorem sc__law_bands : FnScope ["_law_number", "_law_k"] ["_law_number"] (defScope s__law_bands) := ⟨rfl, rfl, rfl, by decide +kernel, rfl, by decide +kernel, by decide +kernel⟩
@[reducible] def m__law_bands : SM := sRet (eLc 1 [1] (lRng1 (aCons (eC (.int 6)) (aNil))) (bOf isB (eOp (fEq) (eOp (fMod) (eFN fInt (aCons (eOp (fShr) (eVar 0) (eVar 1)) (aNil))) (eC (.int 2))) (eC (.int 1)))) (eVar 1))
def g__law_bands : FM := runB 2 m__law_bands
theorem ok__law_bands (T : Tx P K mg C A FD) : FnG P w K mg base C NN 1 (A "_law_bands") (arN 1) g__law_bands :=
  fng_of T.F__law_bands sc__law_bands (T.F__law_bands.binds (ps := ["_law_number"]) fun _ _ _ _ _ _ us hl => match us, hl with | [_], _ => rfl) (fun cdv Ar outer s H E B hr =>
    (dss_one (ds_ret (de_lc (own := [("_law_k", 1)]) rfl sc__law_bands.nd (di_range1 rfl T.no_range (da_cons de_int da_nil)) (blkOk_by (own := [("_law_k", 1)]) (N := ["_law_number", "_law_k"]) (sc := defScope s__law_bands) (by decide +kernel)) (by decide) (fun _ _ _ _ _ => pg_name (i := 1) sc__law_bands.nd rfl (Or.inl rfl)) (fun _ _ _ _ _ => (dts_one (db_cmp (dop_eq rfl hr.units) (de_op dop_mod (de_callT dcall_int rfl T.no_int boot_int (da_cons (de_op dop_shr (de_var (pv 0)) (de_var (pv 1))) da_nil)) de_int) de_int (nomark _)))) (fun _ _ _ _ _ => (de_var (pv 1)))))))
theorem sc__law_int : FnScope ["_law_actual", "_law_expected"] ["_law_actual", "_law_expected"] (defScope s__law_int) := ⟨rfl, rfl, rfl, by decide +kernel, rfl, by decide +kernel, by decide +kernel⟩
@[reducible] def m__law_int : SM := sRet (eAnd (eFN (fIsi TB) (aCons (eVar 0) (aCons (eC (.ty "int")) (aNil)))) (eAnd (eNot (eFN (fIsi TB) (aCons (eVar 0) (aCons (eC (.ty "bool")) (aNil))))) (eOp (fEq) (eVar 0) (eVar 1))))
def g__law_int : FM := runB 2 m__law_int
theorem ok__law_int (T : Tx P K mg C A FD) : FnG P w K mg base C NN 1 (A "_law_int") (arN 2) g__law_int :=
  fng_of T.F__law_int sc__law_int (T.F__law_int.binds (ps := ["_law_actual", "_law_expected"]) fun _ _ _ _ _ _ us hl => match us, hl with | [_, _], _ => rfl) (fun cdv Ar outer s H E B hr =>
    (dss_one (ds_ret (de_and (de_callB (dcall_isi (tb := TB) rfl T.ik (fun _ _ _ h => isi_tb T h)) rfl T.no_isinstance boot_isinstance (da_cons (de_var (pv 0)) (da_cons (de_c (v := V.ty "int") (pe_bltn rfl T.no_int boot_int rfl) (fun _ _ _ => Rep.ty)) da_nil))) (de_and (de_not (de_callB (dcall_isi (tb := TB) rfl T.ik (fun _ _ _ h => isi_tb T h)) rfl T.no_isinstance boot_isinstance (da_cons (de_var (pv 0)) (da_cons (de_c (v := V.ty "bool") (pe_bltn rfl T.no_bool boot_bool rfl) (fun _ _ _ => Rep.ty)) da_nil)))) (de_one (de_cmp (dop_eq rfl hr.units) (de_var (pv 0)) (de_var (pv 1)) (nomark _))))))))
theorem sc__law_same_light : FnScope ["_law_actual", "_law_number", "_law_bands_here", "_law_k"] ["_law_actual", "_law_number"] (defScope s__law_same_light) := ⟨rfl, rfl, rfl, by decide +kernel, rfl, by decide +kernel, by decide +kernel⟩
@[reducible] def m__law_same_light : SM := sSeq (sSet 2 (eCall (arN 1) g__law_bands (aCons (eVar 1) (aNil)))) (sSeq (sIf (bOr (bNot (bOf truE (eFN (fIsi TB) (aCons (eVar 0) (aCons (eC (.cls "Light")) (aNil)))))) (bOr (bNot (bOf truE (eFN (fIsi TB) (aCons (eFld [("Light", 0)] (eVar 0)) (aCons (eC (.ty "tuple")) (aNil)))))) (bOf isB (eOp (fNe) (eFN fLen (aCons (eFld [("Light", 0)] (eVar 0)) (aNil))) (eFN fLen (aCons (eVar 2) (aNil))))))) (sRet (eC (.bl false))) (sNil)) (sSeq (sIf (bNot (bOf truE (eCall (arN 2) g__law_int (aCons (eFld [("Light", 1)] (eVar 0)) (aCons (eVar 1) (aNil)))))) (sRet (eC (.bl false))) (sNil)) (sRet (eFN fAll (aCons (eLc 3 [3] (lRng1 (aCons (eFN fLen (aCons (eVar 2) (aNil))) (aNil))) (bYes) (eCall (arN 2) g__law_int (aCons (eOp fIx (eFld [("Light", 0)] (eVar 0)) (eVar 3)) (aCons (eOp fIx (eVar 2) (eVar 3)) (aNil))))) (aNil))))))
def g__law_same_light : FM := runB 4 m__law_same_light
theorem ok__law_same_light (T : Tx P K mg C A FD) : FnG P w K mg base C NN 2 (A "_law_same_light") (arN 2) g__law_same_light :=
  fng_of T.F__law_same_light sc__law_same_light (T.F__law_same_light.binds (ps := ["_law_actual", "_law_number"]) fun _ _ _ _ _ _ us hl => match us, hl with | [_, _], _ => rfl) (fun cdv Ar outer s H E B hr =>
    (dss_cons (ds_set (i := 2) sc__law_same_light.nd rfl (Or.inr rfl) (de_call (ok__law_bands T) rfl (hr.mono (by decide)) rfl T.M__law_bands T.F__law_bands.kp (takesF rfl rfl rfl rfl) (da_cons (de_var (pv 1)) da_nil)))
    (dss_cons (ds_if (DW.db (dw_or (db_not (db_tru rfl (de_callB (dcall_isi (tb := TB) rfl T.ik (fun _ _ _ h => isi_tb T h)) rfl T.no_isinstance boot_isinstance (da_cons (de_var (pv 0)) (da_cons (de_c (v := V.ref (C "Light")) (pe_glob rfl T.M_Light rfl) (fun _ _ _ => Rep.cls)) da_nil))))) (dw_or (db_not (db_tru rfl (de_callB (dcall_isi (tb := TB) rfl T.ik (fun _ _ _ h => isi_tb T h)) rfl T.no_isinstance boot_isinstance (da_cons (de_fld (ks := [("Light", 0)]) rfl (kix_all (all_cons (hf_Light_bands T) all_nil)) (de_var (pv 0))) (da_cons (de_c (v := V.ty "tuple") (pe_bltn rfl T.no_tuple boot_tuple rfl) (fun _ _ _ => Rep.ty)) da_nil))))) (dw_or1 (db_cmp (dop_ne rfl hr.units) (de_callB (dcall_len rfl) rfl T.no_len boot_len (da_cons (de_fld (ks := [("Light", 0)]) rfl (kix_all (all_cons (hf_Light_bands T) all_nil)) (de_var (pv 0))) da_nil)) (de_callB (dcall_len rfl) rfl T.no_len boot_len (da_cons (de_var (pv 2)) da_nil)) (nomark _)))))) (dss_one (ds_ret de_bl)) dss_nil)
    (dss_cons (ds_if (db_not (db_tru rfl (de_call (ok__law_int T) rfl (hr.mono (by decide)) rfl T.M__law_int T.F__law_int.kp (takesF rfl rfl rfl rfl) (da_cons (de_fld (ks := [("Light", 1)]) rfl (kix_all (all_cons (hf_Light_number T) all_nil)) (de_var (pv 0))) (da_cons (de_var (pv 1)) da_nil))))) (dss_one (ds_ret de_bl)) dss_nil)
    (dss_one (ds_ret (de_callB (dcall_all rfl rfl) rfl T.no_all boot_all (da_cons (de_lc (own := [("_law_k", 3)]) rfl sc__law_same_light.nd (di_range1 rfl T.no_range (da_cons (de_callB (dcall_len rfl) rfl T.no_len boot_len (da_cons (de_var (pv 2)) da_nil)) da_nil)) (blkOk_by (own := [("_law_k", 3)]) (N := ["_law_actual", "_law_number", "_law_bands_here", "_law_k"]) (sc := defScope s__law_same_light) (by decide +kernel)) (by decide) (fun _ _ _ _ _ => pg_name (i := 3) sc__law_same_light.nd rfl (Or.inl rfl)) (fun _ _ _ _ _ => dts_nil) (fun _ _ _ _ _ => (de_call (ok__law_int T) rfl (hr.mono (by decide)) rfl T.M__law_int T.F__law_int.kp takesB (da_cons (de_ix (dix rfl) (de_fld (ks := [("Light", 0)]) rfl (kix_all (all_cons (hf_Light_bands T) all_nil)) (de_var (pv 0))) (de_var (pv 3))) (da_cons (de_ix (dix rfl) (de_var (pv 2)) (de_var (pv 3))) da_nil))))) da_nil))))))))
theorem sc__law_same_effect : FnScope ["_law_actual", "_law_expected"] ["_law_actual", "_law_expected"] (defScope s__law_same_effect) := ⟨rfl, rfl, rfl, by decide +kernel, rfl, by decide +kernel, by decide +kernel⟩
@[reducible] def m__law_same_effect : SM := sSeq (sIf (bOr (bNot (bOf truE (eFN (fIsi TB) (aCons (eVar 0) (aCons (eC (.ty "tuple")) (aNil)))))) (bOf isB (eOp (fNe) (eFN fLen (aCons (eVar 0) (aNil))) (eC (.int 3))))) (sRet (eC (.bl false))) (sNil)) (sSeq (sIf (bOr (bNot (bOf truE (eCall (arN 2) g__law_same_light (aCons (eOp fIx (eVar 0) (eC (.int 0))) (aCons (eOp fIx (eVar 1) (eC (.int 0))) (aNil)))))) (bNot (bOf truE (eCall (arN 2) g__law_same_light (aCons (eOp fIx (eVar 0) (eC (.int 1))) (aCons (eOp fIx (eVar 1) (eC (.int 1))) (aNil))))))) (sRet (eC (.bl false))) (sNil)) (sRet (eAnd (eFN (fIsi TB) (aCons (eOp fIx (eVar 0) (eC (.int 2))) (aCons (eC (.ty "bool")) (aNil)))) (eOp (fEq) (eOp fIx (eVar 0) (eC (.int 2))) (eOp fIx (eVar 1) (eC (.int 2)))))))
def g__law_same_effect : FM := runB 2 m__law_same_effect
theorem ok__law_same_effect (T : Tx P K mg C A FD) : FnG P w K mg base C NN 3 (A "_law_same_effect") (arN 2) g__law_same_effect :=
  fng_of T.F__law_same_effect sc__law_same_effect (T.F__law_same_effect.binds (ps := ["_law_actual", "_law_expected"]) fun _ _ _ _ _ _ us hl => match us, hl with | [_, _], _ => rfl) (fun cdv Ar outer s H E B hr =>
    (dss_cons (ds_if (DW.db (dw_or (db_not (db_tru rfl (de_callB (dcall_isi (tb := TB) rfl T.ik (fun _ _ _ h => isi_tb T h)) rfl T.no_isinstance boot_isinstance (da_cons (de_var (pv 0)) (da_cons (de_c (v := V.ty "tuple") (pe_bltn rfl T.no_tuple boot_tuple rfl) (fun _ _ _ => Rep.ty)) da_nil))))) (dw_or1 (db_cmp (dop_ne rfl hr.units) (de_callB (dcall_len rfl) rfl T.no_len boot_len (da_cons (de_var (pv 0)) da_nil)) de_int (nomark _))))) (dss_one (ds_ret de_bl)) dss_nil)
    (dss_cons (ds_if (DW.db (dw_or (db_not (db_tru rfl (de_call (ok__law_same_light T) rfl (hr.mono (by decide)) rfl T.M__law_same_light T.F__law_same_light.kp (takesF rfl rfl rfl rfl) (da_cons (de_ix (dix rfl) (de_var (pv 0)) de_int) (da_cons (de_ix (dix rfl) (de_var (pv 1)) de_int) da_nil))))) (dw_or1 (db_not (db_tru rfl (de_call (ok__law_same_light T) rfl (hr.mono (by decide)) rfl T.M__law_same_light T.F__law_same_light.kp (takesF rfl rfl rfl rfl) (da_cons (de_ix (dix rfl) (de_var (pv 0)) de_int) (da_cons (de_ix (dix rfl) (de_var (pv 1)) de_int) da_nil)))))))) (dss_one (ds_ret de_bl)) dss_nil)
    (dss_one (ds_ret (de_and (de_callB (dcall_isi (tb := TB) rfl T.ik (fun _ _ _ h => isi_tb T h)) rfl T.no_isinstance boot_isinstance (da_cons (de_ix (dix rfl) (de_var (pv 0)) de_int) (da_cons (de_c (v := V.ty "bool") (pe_bltn rfl T.no_bool boot_bool rfl) (fun _ _ _ => Rep.ty)) da_nil))) (de_one (de_cmp (dop_eq rfl hr.units) (de_ix (dix rfl) (de_var (pv 0)) de_int) (de_ix (dix rfl) (de_var (pv 1)) de_int) (nomark _)))))))))
theorem sc__law_same_text : FnScope ["_law_actual", "_law_expected"] ["_law_actual", "_law_expected"] (defScope s__law_same_text) := ⟨rfl, rfl, rfl, by decide +kernel, rfl, by decide +kernel, by decide +kernel⟩
@[reducible] def m__law_same_text : SM := sRet (eAnd (eFN (fIsi TB) (aCons (eVar 0) (aCons (eC (.ty "str")) (aNil)))) (eOp (fEq) (eVar 0) (eVar 1)))
def g__law_same_text : FM := runB 2 m__law_same_text
theorem ok__law_same_text (T : Tx P K mg C A FD) : FnG P w K mg base C NN 1 (A "_law_same_text") (arN 2) g__law_same_text :=
  fng_of T.F__law_same_text sc__law_same_text (T.F__law_same_text.binds (ps := ["_law_actual", "_law_expected"]) fun _ _ _ _ _ _ us hl => match us, hl with | [_, _], _ => rfl) (fun cdv Ar outer s H E B hr =>
    (dss_one (ds_ret (de_and (de_callB (dcall_isi (tb := TB) rfl T.ik (fun _ _ _ h => isi_tb T h)) rfl T.no_isinstance boot_isinstance (da_cons (de_var (pv 0)) (da_cons (de_c (v := V.ty "str") (pe_bltn rfl T.no_str boot_str rfl) (fun _ _ _ => Rep.ty)) da_nil))) (de_one (de_cmp (dop_eq rfl hr.units) (de_var (pv 0)) (de_var (pv 1)) (nomark _)))))))
theorem sc__law_does : FnScope ["_law_effect_here", "_law_band"] ["_law_effect_here", "_law_band"] (defScope s__law_does) := ⟨rfl, rfl, rfl, by decide +kernel, rfl, by decide +kernel, by decide +kernel⟩
@[reducible] def m__law_does : SM := sSeq (sIf (bOf isB (eOp (fInI) (eVar 1) (eCall (arN 1) g__law_bands (aCons (eOp fIx (eVar 0) (eC (.int 0))) (aNil))))) (sRet (eC (.str "off"))) (sNil)) (sSeq (sIf (bOf isB (eOp (fInI) (eVar 1) (eCall (arN 1) g__law_bands (aCons (eOp fIx (eVar 0) (eC (.int 1))) (aNil))))) (sRet (eC (.str "on"))) (sNil)) (sRet (eC (.str "leave"))))
def g__law_does : FM := runB 2 m__law_does
theorem ok__law_does (T : Tx P K mg C A FD) : FnG P w K mg base C NN 2 (A "_law_does") (arN 2) g__law_does :=
  fng_of T.F__law_does sc__law_does (T.F__law_does.binds (ps := ["_law_effect_here", "_law_band"]) fun _ _ _ _ _ _ us hl => match us, hl with | [_, _], _ => rfl) (fun cdv Ar outer s H E B hr =>
    (dss_cons (ds_if (db_cmp (dop_inI rfl) (de_var (pv 1)) (de_call (ok__law_bands T) rfl (hr.mono (by decide)) rfl T.M__law_bands T.F__law_bands.kp (takesF rfl rfl rfl rfl) (da_cons (de_ix (dix rfl) (de_var (pv 0)) de_int) da_nil)) (by rfl)) (dss_one (ds_ret de_str)) dss_nil)
    (dss_cons (ds_if (db_cmp (dop_inI rfl) (de_var (pv 1)) (de_call (ok__law_bands T) rfl (hr.mono (by decide)) rfl T.M__law_bands T.F__law_bands.kp (takesF rfl rfl rfl rfl) (da_cons (de_ix (dix rfl) (de_var (pv 0)) de_int) da_nil)) (by rfl)) (dss_one (ds_ret de_str)) dss_nil)
    (dss_one (ds_ret de_str)))))
theorem sc_Light___contains__ : FnScope ["self", "band"] ["self", "band"] (defScope s_Light___contains__) := ⟨rfl, rfl, rfl, by decide +kernel, rfl, by decide +kernel, by decide +kernel⟩
@[reducible] def m_Light___contains__ : SM := sRet (eOp (fInI) (eVar 1) (eFld [("Light", 0)] (eVar 0)))
def g_Light___contains__ : FM := runB 2 m_Light___contains__
theorem ok_Light___contains__ (T : Tx P K mg C A FD) : FnG P w K mg base C NN 1 (A "Light.__contains__") (arN 2) g_Light___contains__ :=
  fng_of T.F_Light___contains__ sc_Light___contains__ (T.F_Light___contains__.binds (ps := ["self", "band"]) fun _ _ _ _ _ _ us hl => match us, hl with | [_, _], _ => rfl) (fun cdv Ar outer s H E B hr =>
    (dss_one (ds_ret (de_cmp (dop_inI rfl) (de_var (pv 1)) (de_fld (ks := [("Light", 0)]) rfl (kix_all (all_cons (hf_Light_bands T) all_nil)) (de_var (pv 0))) (by rfl)))))
theorem sc_Film_does : FnScope ["self", "band", "inked", "off", "on", "_"] ["self", "band", "inked"] (defScope s_Film_does) := ⟨rfl, rfl, rfl, by decide +kernel, rfl, by decide +kernel, by decide +kernel⟩
@[reducible] def m_Film_does : SM := sSeq (sDrop (eCall (arN 1) g_check_band (aCons (eVar 1) (aNil)))) (sSeq (sUnp [3, 4, 5] (eCall (arN 2) g__effect_for (aCons (eVar 0) (aCons (eVar 2) (aNil))))) (sSeq (sIf (bOf isB (eOp (alt2 (fInI) (fInOwn "Light" (arN 2) g_Light___contains__)) (eVar 1) (eVar 3))) (sRet (eC (.str "off"))) (sNil)) (sSeq (sIf (bOf isB (eOp (alt2 (fInI) (fInOwn "Light" (arN 2) g_Light___contains__)) (eVar 1) (eVar 4))) (sRet (eC (.str "on"))) (sNil)) (sRet (eC (.str "leave"))))))
def g_Film_does : FM := runB 6 m_Film_does
theorem ok_Film_does (T : Tx P K mg C A FD) : FnOk P w K mg base (L2N.CX P w) 4 (A "Film.does") (FD "Film.does") ["self", "band", "inked"] (Spd K C NN (arN 3) g_Film_does) :=
  fno_of T.F_Film_does sc_Film_does (fun cdv Ar outer s H E B hr =>
    (dss_cons (ds_expr (de_call (ok_check_band T) rfl (hr.mono (by decide)) rfl T.M_check_band T.F_check_band.kp (takesF rfl rfl rfl rfl) (da_cons (de_var (pv 1)) da_nil)))
    (dss_cons (ds_unp (is := [3, 4, 5]) rfl rfl (de_call (ok__effect_for T) rfl (hr.mono (by decide)) rfl T.M__effect_for T.F__effect_for.kp (takesF rfl rfl rfl rfl) (da_cons (de_var (pv 0)) (da_cons (de_var (pv 2)) da_nil))) (pgs_cons (pg_name (i := 3) sc_Film_does.nd rfl (Or.inl rfl)) (pgs_cons (pg_name (i := 4) sc_Film_does.nd rfl (Or.inl rfl)) (pgs_cons (pg_name (i := 5) sc_Film_does.nd rfl (Or.inl rfl)) pgs_nil))) rfl)
    (dss_cons (ds_if (db_cmp (opr_alt (dop_inI rfl) (dop_inO rfl (hr.mono (by decide)) T.ow_Light___contains__ T.fn_Light___contains__ (ok_Light___contains__ T))) (de_var (pv 1)) (de_var (pv 3)) (by rfl)) (dss_one (ds_ret de_str)) dss_nil)
    (dss_cons (ds_if (db_cmp (opr_alt (dop_inI rfl) (dop_inO rfl (hr.mono (by decide)) T.ow_Light___contains__ T.fn_Light___contains__ (ok_Light___contains__ T))) (de_var (pv 1)) (de_var (pv 4)) (by rfl)) (dss_one (ds_ret de_str)) dss_nil)
    (dss_one (ds_ret de_str)))))))
theorem kb_Film_does (T : Tx P K mg C A FD) : KBn K (FD "Film.does") ["self", "band", "inked"] 2 ["inked"] (· ++ ·) (· ++ ·) := T.F_Film_does.kbn fun _ _ _ _ _ _ us ws h1 h2 => match us, ws, h1, h2 with | [_, _], [_], _, _ => rfl
theorem od_Film_does (T : Tx P K mg C A FD) : FnG P w K mg base C NN 4 (A "Film.does") (arN 2) (dflF [.bl false] g_Film_does) := fng_dfl (dds := [.bl false]) (ok_Film_does T) T.bd_Film_does (.cons cst_bl .nil) rfl
theorem hm_Film_does (T : Tx P K mg C A FD) : HasM P w K mg base C NN 4 "does" "Film" (arN 2) (dflF [.bl false] g_Film_does) := ⟨T.cl_Film, by decide +kernel, _, T.me_Film_does, od_Film_does T⟩
theorem hk_Film_does (T : Tx P K mg C A FD) : HasMK P w K mg base C NN 4 "does" 1 ["inked"] "Film" (arN 3) g_Film_does := ⟨T.cl_Film, by decide +kernel, _, _, _, T.me_Film_does, ok_Film_does T, kb_Film_does T⟩
theorem oh__law_int (T : Tx P K mg C A FD) : FnGH P w K mg base C NN 1 (A "_law_int") (arN 2) g__law_int :=
  fngh_of (m := m__law_int) T.F__law_int sc__law_int (T.F__law_int.binds (ps := ["_law_actual", "_law_expected"]) fun _ _ _ _ _ _ us hl => match us, hl with | [_, _], _ => rfl) (fun cdv Ar outer s H E B p hr hot =>
    (dss_one (ds_ret (de_and (de_callB (dcall_isi (tb := TB) rfl T.ik (fun _ _ _ h => isi_tb T h)) rfl T.no_isinstance boot_isinstance (da_cons (de_var (pv 0)) (da_cons (de_c (v := V.ty "int") (pe_bltn rfl T.no_int boot_int rfl) (fun _ _ _ => Rep.ty)) da_nil))) (de_and (de_not (de_callB (dcall_isi (tb := TB) rfl T.ik (fun _ _ _ h => isi_tb T h)) rfl T.no_isinstance boot_isinstance (da_cons (de_var (pv 0)) (da_cons (de_c (v := V.ty "bool") (pe_bltn rfl T.no_bool boot_bool rfl) (fun _ _ _ => Rep.ty)) da_nil)))) (de_one (de_cmp (dop_eq rfl hr.units) (de_var (pv 0)) (de_var (pv 1)) (nomark _))))))))
theorem sc__law_refused : FnScope ["_law_film_here", "_law_bad", "_law_wet", "e"] ["_law_film_here", "_law_bad", "_law_wet"] (defScope s__law_refused) := ⟨rfl, rfl, rfl, by decide +kernel, rfl, by decide +kernel, by decide +kernel⟩
@[reducible] def m__law_refused : SM := sSeq (sTryAs 3 "InvalidBand" (sIf (bOf isB (eOp (fIs) (eVar 2) (eC .non))) (sDrop (eMeth [("Film", ((arN 2 : Ar), (dflF [.bl false] g_Film_does)))] (eVar 0) (aCons (eVar 1) (aNil)))) (sDrop (eMethK "Film" (arN 3) g_Film_does (eVar 0) (aApp 1 1 (aCons (eVar 1) (aNil)) (aCons (eVar 2) (aNil)))))) (sRet (eCall (arN 2) g__law_int (aCons (eXf 3 "InvalidBand" 0) (aCons (eVar 1) (aNil)))))) (sRet (eC (.bl false)))
def g__law_refused : FM := runB 4 m__law_refused
theorem ok__law_refused (T : Tx P K mg C A FD) : FnG P w K mg base C NN 5 (A "_law_refused") (arN 3) g__law_refused :=
  fng_of T.F__law_refused sc__law_refused (T.F__law_refused.binds (ps := ["_law_film_here", "_law_bad", "_law_wet"]) fun _ _ _ _ _ _ us hl => match us, hl with | [_, _, _], _ => rfl) (fun cdv Ar outer s H E B hr =>
    (dss_cons (ds_tryas (i := 3) (cl := "InvalidBand") rfl rfl sc__law_refused.nd rfl rfl ⟨rfl, by decide, .inl T.M_InvalidBand⟩ (takesF rfl rfl rfl rfl) T.xm_InvalidBand_InvalidBand
    (fun W pn xe tk => (dss_one (ds_if (db_cmp dop_is (de_var (pv 2)) de_non (nomark _)) (dss_one (ds_expr (de_meth (lv := 4) rfl (hr.mono (by decide)) tk (fun k A g => kfn_all (all_cons (hm_Film_does T) all_nil) k A g) (de_var (pv 0)) (da_cons (de_var (pv 1)) da_nil)))) (dss_one (ds_expr (de_methK (lv := 4) (cl := "Film") (n := 1) rfl (hr.mono (by decide)) tk (hk_Film_does T) rfl (de_var (pv 0)) (da_cons (de_var (pv 1)) da_nil) (dk_cons (de_var (pv 2)) dk_nil)))))))
    (fun a dd oe pn hz hf => (dss_one (ds_ret (de_callH (oh__law_int T) rfl (room_suite (hr.mono (by decide))) (hot_suite hz hf) rfl T.M__law_int T.F__law_int.kp takesS (da_cons (de_xf (i := 3) (cl := "InvalidBand") T.er_InvalidBand.xf T.er_InvalidBand.hno (show ixf "band" (NN "InvalidBand") = some 0 by decide +kernel) hz hf (pv 3)) (da_cons (de_var (pv 1)) da_nil)))))))
    (dss_one (ds_ret de_bl))))
theorem sc_law : FnScope ["_law_script", "_law_box_here", "_law_ones", "_law_others", "_law_film_here", "_law_other", "_law_states", "_law_same", "_law_effects", "_law_idle", "_law_band", "_law_bad"] ["_law_script"] (defScope s_law) := ⟨rfl, rfl, rfl, by decide +kernel, rfl, by decide +kernel, by decide +kernel⟩
@[reducible] def m_law : SM := sSeq (sSet 1 (eCall (arN 1) g__law_box (aCons (eVar 0) (aNil)))) (sSeq (sSet 2 (eCall (arN 5) g__law_drawn (aCons (eVar 1) (aCons (eLst (aNil)) (aCons (eC (.int 3)) (aCons (eC (.bl true)) (aCons (eC (.bl false)) (aNil)))))))) (sSeq (sSet 3 (eCall (arN 5) g__law_near (aCons (eVar 1) (aCons (eVar 2) (aCons (eLst (aNil)) (aCons (eC (.bl true)) (aCons (eC (.bl false)) (aNil)))))))) (sSeq (sSet 4 (eCall (arN 1) g__law_sum (aCons (eVar 2) (aNil)))) (sSeq (sSet 5 (eCall (arN 1) g__law_sum (aCons (eVar 3) (aNil)))) (sSeq (sSet 6 (eCall (arN 2) g__law_film (aCons (eVar 2) (aCons (eLst (aNil)) (aNil))))) (sSeq (sSet 7 (eOp (alt2 (fEq) (fEqO NT_Film "Film" (arN 2) g_Film___eq__)) (eVar 6) (eCall (arN 2) g__law_film (aCons (eVar 3) (aCons (eLst (aNil)) (aNil)))))) (sSeq (sIf (bOr (bNot (bOf truE (eCall (arN 2) g__law_is (aCons (eOp (alt2 (fEq) (fEqO NT_Film "Film" (arN 2) g_Film___eq__)) (eVar 4) (eVar 5)) (aCons (eVar 7) (aNil)))))) (bOr (bNot (bOf truE (eCall (arN 2) g__law_is (aCons (eOp (alt2 (fEq) (fEqO NT_Film "Film" (arN 2) g_Film___eq__)) (eVar 5) (eVar 4)) (aCons (eVar 7) (aNil)))))) (bNot (bOf truE (eCall (arN 2) g__law_is (aCons (eOp (alt2 (fEq) (fEqO NT_Film "Film" (arN 2) g_Film___eq__)) (eVar 4) (eVar 6)) (aCons (eC (.bl false)) (aNil)))))))) (sRet (eC (.bl false))) (sNil)) (sSeq (sSet 8 (eLst (aCons (eCall (arN 2) g__law_effect (aCons (eVar 6) (aCons (eC (.int 0)) (aNil)))) (aCons (eCall (arN 2) g__law_effect (aCons (eVar 6) (aCons (eC (.int 2)) (aNil)))) (aNil))))) (sSeq (sSet 9 (eAnd (eOp (alt2 (fEq) (fEqO NT_Film "Film" (arN 2) g_Film___eq__)) (eOp fIx (eVar 8) (eC (.int 0))) (eTup (aCons (eC (.int 0)) (aCons (eC (.int 0)) (aCons (eC (.bl false)) (aNil)))))) (eOp (alt2 (fEq) (fEqO NT_Film "Film" (arN 2) g_Film___eq__)) (eOp fIx (eVar 8) (eC (.int 1))) (eTup (aCons (eC (.int 0)) (aCons (eC (.int 0)) (aCons (eC (.bl true)) (aNil)))))))) (sSeq (sIf (bNot (bOf truE (eCall (arN 2) g__law_is (aCons (eProp "Film" (arN 1) g_Film_idle (eVar 4)) (aCons (eVar 9) (aNil)))))) (sRet (eC (.bl false))) (sNil)) (sSeq (sIf (bOr (bNot (bOf truE (eCall (arN 2) g__law_same_effect (aCons (eFld [("Film", 0)] (eVar 4)) (aCons (eOp fIx (eVar 8) (eC (.int 0))) (aNil)))))) (bNot (bOf truE (eCall (arN 2) g__law_same_effect (aCons (eFld [("Film", 1)] (eVar 4)) (aCons (eOp fIx (eVar 8) (eC (.int 1))) (aNil))))))) (sRet (eC (.bl false))) (sNil)) (sSeq (sFor 10 (lRng1 (aCons (eC (.int 6)) (aNil))) (sSeq (sIf (bNot (bOf truE (eCall (arN 2) g__law_same_text (aCons (eMeth [("Film", ((arN 2 : Ar), (dflF [.bl false] g_Film_does)))] (eVar 4) (aCons (eVar 10) (aNil))) (aCons (eCall (arN 2) g__law_does (aCons (eOp fIx (eVar 8) (eC (.int 0))) (aCons (eVar 10) (aNil)))) (aNil)))))) (sRet (eC (.bl false))) (sNil)) (sSeq (sIf (bNot (bOf truE (eCall (arN 2) g__law_same_text (aCons (eMethK "Film" (arN 3) g_Film_does (eVar 4) (aApp 1 1 (aCons (eVar 10) (aNil)) (aCons (eC (.bl true)) (aNil)))) (aCons (eCall (arN 2) g__law_does (aCons (eOp fIx (eVar 8) (eC (.int 1))) (aCons (eVar 10) (aNil)))) (aNil)))))) (sRet (eC (.bl false))) (sNil)) (sIf (bNot (bOf truE (eCall (arN 2) g__law_same_text (aCons (eMethK "Film" (arN 3) g_Film_does (eVar 4) (aApp 1 1 (aCons (eVar 10) (aNil)) (aCons (eC (.bl false)) (aNil)))) (aCons (eCall (arN 2) g__law_does (aCons (eOp fIx (eVar 8) (eC (.int 0))) (aCons (eVar 10) (aNil)))) (aNil)))))) (sRet (eC (.bl false))) (sNil))))) (sSeq (sSet 11 (eOp fIx (eLst (aCons (eUn fNeg (eC (.int 1))) (aCons (eC (.int 6)) (aCons (eOp (fSub) (eUn fNeg (eC (.int 2))) (eCall (arN 2) g__law_draw (aCons (eVar 1) (aCons (eOp (fPow) (eC (.int 10)) (eC (.int 20))) (aNil))))) (aCons (eOp (fAdd) (eC (.int 7)) (eCall (arN 2) g__law_draw (aCons (eVar 1) (aCons (eOp (fPow) (eC (.int 10)) (eC (.int 20))) (aNil))))) (aNil)))))) (eCall (arN 2) g__law_draw (aCons (eVar 1) (aCons (eC (.int 4)) (aNil)))))) (sRet (eAnd (eCall (arN 3) g__law_refused (aCons (eVar 4) (aCons (eVar 11) (aCons (eC (.bl false)) (aNil))))) (eAnd (eCall (arN 3) g__law_refused (aCons (eVar 5) (aCons (eVar 11) (aCons (eC (.bl true)) (aNil))))) (eCall (arN 3) g__law_refused (aCons (eVar 4) (aCons (eVar 11) (aCons (eC .non) (aNil)))))))))))))))))))))
def g_law : FM := runB 12 m_law
theorem ok_law (T : Tx P K mg C A FD) : FnOk P w K mg base (L2N.CX P w) 13 (A "law") (FD "law") ["_law_script"] (Spd K C NN (arN 1) g_law) :=
  fno_of T.F_law sc_law (fun cdv Ar outer s H E B hr =>
    (dss_cons (ds_set (i := 1) sc_law.nd rfl (Or.inl rfl) (de_call (ok__law_box T) rfl (hr.mono (by decide)) rfl T.M__law_box T.F__law_box.kp (takesF rfl rfl rfl rfl) (da_cons (de_var (pv 0)) da_nil)))
    (dss_cons (ds_set (i := 2) sc_law.nd rfl (Or.inl rfl) (de_call (ok__law_drawn T) rfl (hr.mono (by decide)) rfl T.M__law_drawn T.F__law_drawn.kp (takesF rfl rfl rfl rfl) (da_cons (de_var (pv 1)) (da_cons (de_lst da_nil) (da_cons de_int (da_cons de_bl (da_cons de_bl da_nil)))))))
    (dss_cons (ds_set (i := 3) sc_law.nd rfl (Or.inl rfl) (de_call (ok__law_near T) rfl (hr.mono (by decide)) rfl T.M__law_near T.F__law_near.kp (takesF rfl rfl rfl rfl) (da_cons (de_var (pv 1)) (da_cons (de_var (pv 2)) (da_cons (de_lst da_nil) (da_cons de_bl (da_cons de_bl da_nil)))))))
    (dss_cons (ds_set (i := 4) sc_law.nd rfl (Or.inl rfl) (de_call (ok__law_sum T) rfl (hr.mono (by decide)) rfl T.M__law_sum T.F__law_sum.kp (takesF rfl rfl rfl rfl) (da_cons (de_var (pv 2)) da_nil)))
    (dss_cons (ds_set (i := 5) sc_law.nd rfl (Or.inl rfl) (de_call (ok__law_sum T) rfl (hr.mono (by decide)) rfl T.M__law_sum T.F__law_sum.kp (takesF rfl rfl rfl rfl) (da_cons (de_var (pv 3)) da_nil)))
    (dss_cons (ds_set (i := 6) sc_law.nd rfl (Or.inl rfl) (de_call (ok__law_film T) rfl (hr.mono (by decide)) rfl T.M__law_film T.F__law_film.kp (takesF rfl rfl rfl rfl) (da_cons (de_var (pv 2)) (da_cons (de_lst da_nil) da_nil))))
    (dss_cons (ds_set (i := 7) sc_law.nd rfl (Or.inl rfl) (de_cmp (opr_alt (dop_eq rfl hr.units) (dop_eqO rfl (hr.mono (by decide)) (nt_Film T) T.ow_Film___eq__ T.fn_Film___eq__ (ok_Film___eq__ T))) (de_var (pv 6)) (de_call (ok__law_film T) rfl (hr.mono (by decide)) rfl T.M__law_film T.F__law_film.kp (takesF rfl rfl rfl rfl) (da_cons (de_var (pv 3)) (da_cons (de_lst da_nil) da_nil))) (nomark _)))
    (dss_cons (ds_if (DW.db (dw_or (db_not (db_tru rfl (de_call (ok__law_is T) rfl (hr.mono (by decide)) rfl T.M__law_is T.F__law_is.kp (takesF rfl rfl rfl rfl) (da_cons (de_cmp (opr_alt (dop_eq rfl hr.units) (dop_eqO rfl (hr.mono (by decide)) (nt_Film T) T.ow_Film___eq__ T.fn_Film___eq__ (ok_Film___eq__ T))) (de_var (pv 4)) (de_var (pv 5)) (nomark _)) (da_cons (de_var (pv 7)) da_nil))))) (dw_or (db_not (db_tru rfl (de_call (ok__law_is T) rfl (hr.mono (by decide)) rfl T.M__law_is T.F__law_is.kp (takesF rfl rfl rfl rfl) (da_cons (de_cmp (opr_alt (dop_eq rfl hr.units) (dop_eqO rfl (hr.mono (by decide)) (nt_Film T) T.ow_Film___eq__ T.fn_Film___eq__ (ok_Film___eq__ T))) (de_var (pv 5)) (de_var (pv 4)) (nomark _)) (da_cons (de_var (pv 7)) da_nil))))) (dw_or1 (db_not (db_tru rfl (de_call (ok__law_is T) rfl (hr.mono (by decide)) rfl T.M__law_is T.F__law_is.kp (takesF rfl rfl rfl rfl) (da_cons (de_cmp (opr_alt (dop_eq rfl hr.units) (dop_eqO rfl (hr.mono (by decide)) (nt_Film T) T.ow_Film___eq__ T.fn_Film___eq__ (ok_Film___eq__ T))) (de_var (pv 4)) (de_var (pv 6)) (nomark _)) (da_cons de_bl da_nil))))))))) (dss_one (ds_ret de_bl)) dss_nil)
    (dss_cons (ds_set (i := 8) sc_law.nd rfl (Or.inl rfl) (de_lst (da_cons (de_call (ok__law_effect T) rfl (hr.mono (by decide)) rfl T.M__law_effect T.F__law_effect.kp (takesF rfl rfl rfl rfl) (da_cons (de_var (pv 6)) (da_cons de_int da_nil))) (da_cons (de_call (ok__law_effect T) rfl (hr.mono (by decide)) rfl T.M__law_effect T.F__law_effect.kp (takesF rfl rfl rfl rfl) (da_cons (de_var (pv 6)) (da_cons de_int da_nil))) da_nil))))
    (dss_cons (ds_set (i := 9) sc_law.nd rfl (Or.inl rfl) (de_and (de_cmp (opr_alt (dop_eq rfl hr.units) (dop_eqO rfl (hr.mono (by decide)) (nt_Film T) T.ow_Film___eq__ T.fn_Film___eq__ (ok_Film___eq__ T))) (de_ix (dix rfl) (de_var (pv 8)) de_int) (de_tup (da_cons de_int (da_cons de_int (da_cons de_bl da_nil)))) (nomark _)) (de_one (de_cmp (opr_alt (dop_eq rfl hr.units) (dop_eqO rfl (hr.mono (by decide)) (nt_Film T) T.ow_Film___eq__ T.fn_Film___eq__ (ok_Film___eq__ T))) (de_ix (dix rfl) (de_var (pv 8)) de_int) (de_tup (da_cons de_int (da_cons de_int (da_cons de_bl da_nil)))) (nomark _)))))
    (dss_cons (ds_if (db_not (db_tru rfl (de_call (ok__law_is T) rfl (hr.mono (by decide)) rfl T.M__law_is T.F__law_is.kp (takesF rfl rfl rfl rfl) (da_cons (let ⟨_, h1⟩ := T.pr_Film_idle; de_prop (lv := 3) (cl := "Film") rfl (hr.mono (by decide)) T.cl_Film h1 (ok_Film_idle T) (T.F_Film_idle.binds (ps := ["self"]) fun _ _ _ _ _ _ us hl => match us, hl with | [_], _ => rfl) (de_var (pv 4))) (da_cons (de_var (pv 9)) da_nil))))) (dss_one (ds_ret de_bl)) dss_nil)
    (dss_cons (ds_if (DW.db (dw_or (db_not (db_tru rfl (de_call (ok__law_same_effect T) rfl (hr.mono (by decide)) rfl T.M__law_same_effect T.F__law_same_effect.kp (takesF rfl rfl rfl rfl) (da_cons (de_fld (ks := [("Film", 0)]) rfl (kix_all (all_cons (hf_Film_bare T) all_nil)) (de_var (pv 4))) (da_cons (de_ix (dix rfl) (de_var (pv 8)) de_int) da_nil))))) (dw_or1 (db_not (db_tru rfl (de_call (ok__law_same_effect T) rfl (hr.mono (by decide)) rfl T.M__law_same_effect T.F__law_same_effect.kp (takesF rfl rfl rfl rfl) (da_cons (de_fld (ks := [("Film", 1)]) rfl (kix_all (all_cons (hf_Film_inked T) all_nil)) (de_var (pv 4))) (da_cons (de_ix (dix rfl) (de_var (pv 8)) de_int) da_nil)))))))) (dss_one (ds_ret de_bl)) dss_nil)
    (dss_cons (ds_for (k := 10) (passes_of rfl) rfl (di_range1 rfl T.no_range (da_cons de_int da_nil)) (pg_name (i := 10) sc_law.nd rfl (Or.inl rfl)) (dss_cons (ds_if (db_not (db_tru rfl (de_call (ok__law_same_text T) rfl (hr.mono (by decide)) rfl T.M__law_same_text T.F__law_same_text.kp (takesF rfl rfl rfl rfl) (da_cons (de_meth (lv := 4) rfl (hr.mono (by decide)) (takesF rfl rfl rfl rfl) (fun k A g => kfn_all (all_cons (hm_Film_does T) all_nil) k A g) (de_var (pv 4)) (da_cons (de_var (pv 10)) da_nil)) (da_cons (de_call (ok__law_does T) rfl (hr.mono (by decide)) rfl T.M__law_does T.F__law_does.kp (takesF rfl rfl rfl rfl) (da_cons (de_ix (dix rfl) (de_var (pv 8)) de_int) (da_cons (de_var (pv 10)) da_nil))) da_nil))))) (dss_one (ds_ret de_bl)) dss_nil)
    (dss_cons (ds_if (db_not (db_tru rfl (de_call (ok__law_same_text T) rfl (hr.mono (by decide)) rfl T.M__law_same_text T.F__law_same_text.kp (takesF rfl rfl rfl rfl) (da_cons (de_methK (lv := 4) (cl := "Film") (n := 1) rfl (hr.mono (by decide)) (takesF rfl rfl rfl rfl) (hk_Film_does T) rfl (de_var (pv 4)) (da_cons (de_var (pv 10)) da_nil) (dk_cons de_bl dk_nil)) (da_cons (de_call (ok__law_does T) rfl (hr.mono (by decide)) rfl T.M__law_does T.F__law_does.kp (takesF rfl rfl rfl rfl) (da_cons (de_ix (dix rfl) (de_var (pv 8)) de_int) (da_cons (de_var (pv 10)) da_nil))) da_nil))))) (dss_one (ds_ret de_bl)) dss_nil)
    (dss_one (ds_if (db_not (db_tru rfl (de_call (ok__law_same_text T) rfl (hr.mono (by decide)) rfl T.M__law_same_text T.F__law_same_text.kp (takesF rfl rfl rfl rfl) (da_cons (de_methK (lv := 4) (cl := "Film") (n := 1) rfl (hr.mono (by decide)) (takesF rfl rfl rfl rfl) (hk_Film_does T) rfl (de_var (pv 4)) (da_cons (de_var (pv 10)) da_nil) (dk_cons de_bl dk_nil)) (da_cons (de_call (ok__law_does T) rfl (hr.mono (by decide)) rfl T.M__law_does T.F__law_does.kp (takesF rfl rfl rfl rfl) (da_cons (de_ix (dix rfl) (de_var (pv 8)) de_int) (da_cons (de_var (pv 10)) da_nil))) da_nil))))) (dss_one (ds_ret de_bl)) dss_nil)))))
    (dss_cons (ds_set (i := 11) sc_law.nd rfl (Or.inl rfl) (de_ix (dix rfl) (de_lst (da_cons (de_un dun_neg de_int) (da_cons de_int (da_cons (de_op dop_sub (de_un dun_neg de_int) (de_call (ok__law_draw T) rfl (hr.mono (by decide)) rfl T.M__law_draw T.F__law_draw.kp (takesF rfl rfl rfl rfl) (da_cons (de_var (pv 1)) (da_cons (de_op dop_pow de_int de_int) da_nil)))) (da_cons (de_op dop_add de_int (de_call (ok__law_draw T) rfl (hr.mono (by decide)) rfl T.M__law_draw T.F__law_draw.kp (takesF rfl rfl rfl rfl) (da_cons (de_var (pv 1)) (da_cons (de_op dop_pow de_int de_int) da_nil)))) da_nil))))) (de_call (ok__law_draw T) rfl (hr.mono (by decide)) rfl T.M__law_draw T.F__law_draw.kp (takesF rfl rfl rfl rfl) (da_cons (de_var (pv 1)) (da_cons de_int da_nil)))))
    (dss_one (ds_ret (de_and (de_call (ok__law_refused T) rfl (hr.mono (by decide)) rfl T.M__law_refused T.F__law_refused.kp (takesF rfl rfl rfl rfl) (da_cons (de_var (pv 4)) (da_cons (de_var (pv 11)) (da_cons de_bl da_nil)))) (de_and (de_call (ok__law_refused T) rfl (hr.mono (by decide)) rfl T.M__law_refused T.F__law_refused.kp (takesF rfl rfl rfl rfl) (da_cons (de_var (pv 5)) (da_cons (de_var (pv 11)) (da_cons de_bl da_nil)))) (de_one (de_call (ok__law_refused T) rfl (hr.mono (by decide)) rfl T.M__law_refused T.F__law_refused.kp (takesF rfl rfl rfl rfl) (da_cons (de_var (pv 4)) (da_cons (de_var (pv 11)) (da_cons de_non da_nil))))))))))))))))))))))))
end
/-! ### what the top has written -/
set_option maxHeartbeats 0 in
theorem all_mk {l : PySem.W.OpenLaw} {w : World} {K : PySem.W.Frag} {h : Heap} {mg : Str → Option Value} {fa C_Bleach C_Film C_Filter C_Ink C_InvalidBand C_Light C_Opaque f__law_box f__law_draw f__law_light f__law_one f__law_drawn f__law_near f_check_band f__bands_of f_Light___init__ f_Film___init__ f_Film_nothing p_Film_nothing f__effect_for f__light f_Light___or__ f_Light___sub__ f__followed f_Film___add__ f_Ink_film f_Light___and__ f_Light___bool__ f_Ink___init__ f_Light_numbered p_Light_numbered f_Light___invert__ f__law_ink f__law_sum f__law_active f__law_step f__law_print f__law_film f_Light___eq__ f_Film___eq__ f__law_is f__law_effect f__writes_nothing f_Film_idle p_Film_idle f__law_bands f__law_int f__law_same_light f__law_same_effect f__law_same_text f__law_does f_Light___contains__ f_Film_does kD_Film_does f__law_refused f_law ct_Ink_TAKES f_InvalidBand___init__ cc_InvalidBand___init__ cd_InvalidBand___init__ N_InvalidBand___init__ f_Filter___init__ cc_Filter___init__ cd_Filter___init__ f_Bleach___init__ cc_Bleach___init__ cd_Bleach___init__ f_Opaque___init__ cc_Opaque___init__ cd_Opaque___init__ : Addr}
    {oc__law_box kV__law_box dc__law_box pm__law_box cd__law_box ct__law_box : Value}
    {od__law_box an__law_box : Option Addr}
    {sl__law_box : Array (Option Value)}
    {oc__law_draw kV__law_draw dc__law_draw pm__law_draw cd__law_draw ct__law_draw : Value}
    {od__law_draw an__law_draw : Option Addr}
    {sl__law_draw : Array (Option Value)}
    {oc__law_light kV__law_light dc__law_light pm__law_light cd__law_light ct__law_light : Value}
    {od__law_light an__law_light : Option Addr}
    {sl__law_light : Array (Option Value)}
    {oc__law_one kV__law_one dc__law_one pm__law_one cd__law_one ct__law_one : Value}
    {od__law_one an__law_one : Option Addr}
    {sl__law_one : Array (Option Value)}
    {oc__law_drawn kV__law_drawn dc__law_drawn pm__law_drawn cd__law_drawn ct__law_drawn : Value}
    {od__law_drawn an__law_drawn : Option Addr}
    {sl__law_drawn : Array (Option Value)}
    {oc__law_near kV__law_near dc__law_near pm__law_near cd__law_near ct__law_near : Value}
    {od__law_near an__law_near : Option Addr}
    {sl__law_near : Array (Option Value)}
    {oc_check_band kV_check_band dc_check_band pm_check_band cd_check_band ct_check_band : Value}
    {od_check_band an_check_band : Option Addr}
    {sl_check_band : Array (Option Value)}
    {oc__bands_of kV__bands_of dc__bands_of pm__bands_of cd__bands_of ct__bands_of : Value}
    {od__bands_of an__bands_of : Option Addr}
    {sl__bands_of : Array (Option Value)}
    {oc_Light___init__ kV_Light___init__ dc_Light___init__ pm_Light___init__ cd_Light___init__ ct_Light___init__ : Value}
    {od_Light___init__ an_Light___init__ : Option Addr}
    {sl_Light___init__ : Array (Option Value)}
    {oc_Film___init__ kV_Film___init__ dc_Film___init__ pm_Film___init__ cd_Film___init__ ct_Film___init__ : Value}
    {od_Film___init__ an_Film___init__ : Option Addr}
    {sl_Film___init__ : Array (Option Value)}
    {r_Film_nothing : List Value}
    {oc_Film_nothing kV_Film_nothing dc_Film_nothing pm_Film_nothing cd_Film_nothing ct_Film_nothing : Value}
    {od_Film_nothing an_Film_nothing : Option Addr}
    {sl_Film_nothing : Array (Option Value)}
    {oc__effect_for kV__effect_for dc__effect_for pm__effect_for cd__effect_for ct__effect_for : Value}
    {od__effect_for an__effect_for : Option Addr}
    {sl__effect_for : Array (Option Value)}
    {oc__light kV__light dc__light pm__light cd__light ct__light : Value}
    {od__light an__light : Option Addr}
    {sl__light : Array (Option Value)}
    {oc_Light___or__ kV_Light___or__ dc_Light___or__ pm_Light___or__ cd_Light___or__ ct_Light___or__ : Value}
    {od_Light___or__ an_Light___or__ : Option Addr}
    {sl_Light___or__ : Array (Option Value)}
    {oc_Light___sub__ kV_Light___sub__ dc_Light___sub__ pm_Light___sub__ cd_Light___sub__ ct_Light___sub__ : Value}
    {od_Light___sub__ an_Light___sub__ : Option Addr}
    {sl_Light___sub__ : Array (Option Value)}
    {oc__followed kV__followed dc__followed pm__followed cd__followed ct__followed : Value}
    {od__followed an__followed : Option Addr}
    {sl__followed : Array (Option Value)}
    {oc_Film___add__ kV_Film___add__ dc_Film___add__ pm_Film___add__ cd_Film___add__ ct_Film___add__ : Value}
    {od_Film___add__ an_Film___add__ : Option Addr}
    {sl_Film___add__ : Array (Option Value)}
    {oc_Ink_film kV_Ink_film dc_Ink_film pm_Ink_film cd_Ink_film ct_Ink_film : Value}
    {od_Ink_film an_Ink_film : Option Addr}
    {sl_Ink_film : Array (Option Value)}
    {oc_Light___and__ kV_Light___and__ dc_Light___and__ pm_Light___and__ cd_Light___and__ ct_Light___and__ : Value}
    {od_Light___and__ an_Light___and__ : Option Addr}
    {sl_Light___and__ : Array (Option Value)}
    {oc_Light___bool__ kV_Light___bool__ dc_Light___bool__ pm_Light___bool__ cd_Light___bool__ ct_Light___bool__ : Value}
    {od_Light___bool__ an_Light___bool__ : Option Addr}
    {sl_Light___bool__ : Array (Option Value)}
    {oc_Ink___init__ kV_Ink___init__ dc_Ink___init__ pm_Ink___init__ cd_Ink___init__ ct_Ink___init__ : Value}
    {od_Ink___init__ an_Ink___init__ : Option Addr}
    {sl_Ink___init__ : Array (Option Value)}
    {r_Light_numbered : List Value}
    {oc_Light_numbered kV_Light_numbered dc_Light_numbered pm_Light_numbered cd_Light_numbered ct_Light_numbered : Value}
    {od_Light_numbered an_Light_numbered : Option Addr}
    {sl_Light_numbered : Array (Option Value)}
    {oc_Light___invert__ kV_Light___invert__ dc_Light___invert__ pm_Light___invert__ cd_Light___invert__ ct_Light___invert__ : Value}
    {od_Light___invert__ an_Light___invert__ : Option Addr}
    {sl_Light___invert__ : Array (Option Value)}
    {oc__law_ink kV__law_ink dc__law_ink pm__law_ink cd__law_ink ct__law_ink : Value}
    {od__law_ink an__law_ink : Option Addr}
    {sl__law_ink : Array (Option Value)}
    {oc__law_sum kV__law_sum dc__law_sum pm__law_sum cd__law_sum ct__law_sum : Value}
    {od__law_sum an__law_sum : Option Addr}
    {sl__law_sum : Array (Option Value)}
    {oc__law_active kV__law_active dc__law_active pm__law_active cd__law_active ct__law_active : Value}
    {od__law_active an__law_active : Option Addr}
    {sl__law_active : Array (Option Value)}
    {oc__law_step kV__law_step dc__law_step pm__law_step cd__law_step ct__law_step : Value}
    {od__law_step an__law_step : Option Addr}
    {sl__law_step : Array (Option Value)}
    {oc__law_print kV__law_print dc__law_print pm__law_print cd__law_print ct__law_print : Value}
    {od__law_print an__law_print : Option Addr}
    {sl__law_print : Array (Option Value)}
    {oc__law_film kV__law_film dc__law_film pm__law_film cd__law_film ct__law_film : Value}
    {od__law_film an__law_film : Option Addr}
    {sl__law_film : Array (Option Value)}
    {oc_Light___eq__ kV_Light___eq__ dc_Light___eq__ pm_Light___eq__ cd_Light___eq__ ct_Light___eq__ : Value}
    {od_Light___eq__ an_Light___eq__ : Option Addr}
    {sl_Light___eq__ : Array (Option Value)}
    {oc_Film___eq__ kV_Film___eq__ dc_Film___eq__ pm_Film___eq__ cd_Film___eq__ ct_Film___eq__ : Value}
    {od_Film___eq__ an_Film___eq__ : Option Addr}
    {sl_Film___eq__ : Array (Option Value)}
    {oc__law_is kV__law_is dc__law_is pm__law_is cd__law_is ct__law_is : Value}
    {od__law_is an__law_is : Option Addr}
    {sl__law_is : Array (Option Value)}
    {oc__law_effect kV__law_effect dc__law_effect pm__law_effect cd__law_effect ct__law_effect : Value}
    {od__law_effect an__law_effect : Option Addr}
    {sl__law_effect : Array (Option Value)}
    {oc__writes_nothing kV__writes_nothing dc__writes_nothing pm__writes_nothing cd__writes_nothing ct__writes_nothing : Value}
    {od__writes_nothing an__writes_nothing : Option Addr}
    {sl__writes_nothing : Array (Option Value)}
    {r_Film_idle : List Value}
    {oc_Film_idle kV_Film_idle dc_Film_idle pm_Film_idle cd_Film_idle ct_Film_idle : Value}
    {od_Film_idle an_Film_idle : Option Addr}
    {sl_Film_idle : Array (Option Value)}
    {oc__law_bands kV__law_bands dc__law_bands pm__law_bands cd__law_bands ct__law_bands : Value}
    {od__law_bands an__law_bands : Option Addr}
    {sl__law_bands : Array (Option Value)}
    {oc__law_int kV__law_int dc__law_int pm__law_int cd__law_int ct__law_int : Value}
    {od__law_int an__law_int : Option Addr}
    {sl__law_int : Array (Option Value)}
    {oc__law_same_light kV__law_same_light dc__law_same_light pm__law_same_light cd__law_same_light ct__law_same_light : Value}
    {od__law_same_light an__law_same_light : Option Addr}
    {sl__law_same_light : Array (Option Value)}
    {oc__law_same_effect kV__law_same_effect dc__law_same_effect pm__law_same_effect cd__law_same_effect ct__law_same_effect : Value}
    {od__law_same_effect an__law_same_effect : Option Addr}
    {sl__law_same_effect : Array (Option Value)}
    {oc__law_same_text kV__law_same_text dc__law_same_text pm__law_same_text cd__law_same_text ct__law_same_text : Value}
    {od__law_same_text an__law_same_text : Option Addr}
    {sl__law_same_text : Array (Option Value)}
    {oc__law_does kV__law_does dc__law_does pm__law_does cd__law_does ct__law_does : Value}
    {od__law_does an__law_does : Option Addr}
    {sl__law_does : Array (Option Value)}
    {oc_Light___contains__ kV_Light___contains__ dc_Light___contains__ pm_Light___contains__ cd_Light___contains__ ct_Light___contains__ : Value}
    {od_Light___contains__ an_Light___contains__ : Option Addr}
    {sl_Light___contains__ : Array (Option Value)}
    {oc_Film_does dc_Film_does pm_Film_does cd_Film_does ct_Film_does : Value}
    {od_Film_does an_Film_does : Option Addr}
    {sl_Film_does : Array (Option Value)}
    {oc__law_refused kV__law_refused dc__law_refused pm__law_refused cd__law_refused ct__law_refused : Value}
    {od__law_refused an__law_refused : Option Addr}
    {sl__law_refused : Array (Option Value)}
    {oc_law kV_law dc_law pm_law cd_law ct_law : Value}
    {od_law an_law : Option Addr}
    {sl_law : Array (Option Value)}
    {t_Light_BANDS : Tok}
    {td_Ink_TAKES : Option Addr}
    {tn_Ink_TAKES : Nat}
    {tl_Ink_TAKES : Array (Option Value)}
    {tk0_Ink_TAKES tk1_Ink_TAKES tk2_Ink_TAKES : Tok}
    {t_LIGHTS : Tok}
    {oc_InvalidBand___init__ dc_InvalidBand___init__ pm_InvalidBand___init__ ct_InvalidBand___init__ o1_InvalidBand___init__ o2_InvalidBand___init__ : Value}
    {od_InvalidBand___init__ d1_InvalidBand___init__ d2_InvalidBand___init__ dd_InvalidBand___init__ : Option Addr}
    {sl_InvalidBand___init__ s1_InvalidBand___init__ s2_InvalidBand___init__ : Array (Option Value)}
    {vs_InvalidBand___init__ : Array Value}
    {fl_InvalidBand___init__ nm_InvalidBand___init__ qn_InvalidBand___init__ : Str}
    {tf_InvalidBand___init__ : Tok}
    {bs_InvalidBand___init__ bm_InvalidBand___init__ sb_InvalidBand___init__ : List Value}
    {sn_InvalidBand___init__ : List Str}
    {ab_InvalidBand___init__ : Bool}
    {col_InvalidBand___init__ : Option Bool}
    {k0_InvalidBand___init__ k1_InvalidBand___init__ k2_InvalidBand___init__ k3_InvalidBand___init__ k5_InvalidBand___init__ : Option Value}
    {oc_Filter___init__ kV_Filter___init__ dc_Filter___init__ pm_Filter___init__ ct_Filter___init__ o1_Filter___init__ o2_Filter___init__ : Value}
    {od_Filter___init__ an_Filter___init__ d1_Filter___init__ d2_Filter___init__ : Option Addr}
    {sl_Filter___init__ s1_Filter___init__ s2_Filter___init__ : Array (Option Value)}
    {vs_Filter___init__ : Array Value}
    {fl_Filter___init__ : Str}
    {tf_Filter___init__ : Tok}
    {oc_Bleach___init__ kV_Bleach___init__ dc_Bleach___init__ pm_Bleach___init__ ct_Bleach___init__ o1_Bleach___init__ o2_Bleach___init__ : Value}
    {od_Bleach___init__ an_Bleach___init__ d1_Bleach___init__ d2_Bleach___init__ : Option Addr}
    {sl_Bleach___init__ s1_Bleach___init__ s2_Bleach___init__ : Array (Option Value)}
    {vs_Bleach___init__ : Array Value}
    {fl_Bleach___init__ : Str}
    {tf_Bleach___init__ : Tok}
    {oc_Opaque___init__ kV_Opaque___init__ dc_Opaque___init__ pm_Opaque___init__ ct_Opaque___init__ o1_Opaque___init__ o2_Opaque___init__ : Value}
    {od_Opaque___init__ an_Opaque___init__ d1_Opaque___init__ d2_Opaque___init__ : Option Addr}
    {sl_Opaque___init__ s1_Opaque___init__ s2_Opaque___init__ : Array (Option Value)}
    {vs_Opaque___init__ : Array Value}
    {fl_Opaque___init__ : Str}
    {tf_Opaque___init__ : Tok}
    (X : K.In h) (G : h.Ns mainGlobals mg) (hfa : mg "law" = some (.ref fa))
    (aC_Bleach : PySem.W.nsIn K mainGlobals "Bleach" = some (some (.ref C_Bleach)))
    (aC_Film : PySem.W.nsIn K mainGlobals "Film" = some (some (.ref C_Film)))
    (aC_Filter : PySem.W.nsIn K mainGlobals "Filter" = some (some (.ref C_Filter)))
    (aC_Ink : PySem.W.nsIn K mainGlobals "Ink" = some (some (.ref C_Ink)))
    (aC_InvalidBand : PySem.W.nsIn K mainGlobals "InvalidBand" = some (some (.ref C_InvalidBand)))
    (aC_Light : PySem.W.nsIn K mainGlobals "Light" = some (some (.ref C_Light)))
    (aC_Opaque : PySem.W.nsIn K mainGlobals "Opaque" = some (some (.ref C_Opaque)))
    (a__law_box : PySem.W.nsIn K mainGlobals "_law_box" = some (some (.ref f__law_box)))
    (l__law_box : K.lookup f__law_box = some ⟨oc__law_box, od__law_box, .func (PySem.W.fnOf "_law_box" "_law_box" (defArgs s__law_box) (defBody s__law_box) (defScope s__law_box) .none kV__law_box dc__law_box pm__law_box an__law_box cd__law_box ct__law_box), sl__law_box⟩)
    (c__law_box : PySem.W.codeIn K cd__law_box "_law_box" = true)
    (k__law_box : PySem.W.keepIn K (.ref f__law_box) = true)
    (a__law_draw : PySem.W.nsIn K mainGlobals "_law_draw" = some (some (.ref f__law_draw)))
    (l__law_draw : K.lookup f__law_draw = some ⟨oc__law_draw, od__law_draw, .func (PySem.W.fnOf "_law_draw" "_law_draw" (defArgs s__law_draw) (defBody s__law_draw) (defScope s__law_draw) .none kV__law_draw dc__law_draw pm__law_draw an__law_draw cd__law_draw ct__law_draw), sl__law_draw⟩)
    (c__law_draw : PySem.W.codeIn K cd__law_draw "_law_draw" = true)
    (k__law_draw : PySem.W.keepIn K (.ref f__law_draw) = true)
    (a__law_light : PySem.W.nsIn K mainGlobals "_law_light" = some (some (.ref f__law_light)))
    (l__law_light : K.lookup f__law_light = some ⟨oc__law_light, od__law_light, .func (PySem.W.fnOf "_law_light" "_law_light" (defArgs s__law_light) (defBody s__law_light) (defScope s__law_light) .none kV__law_light dc__law_light pm__law_light an__law_light cd__law_light ct__law_light), sl__law_light⟩)
    (c__law_light : PySem.W.codeIn K cd__law_light "_law_light" = true)
    (k__law_light : PySem.W.keepIn K (.ref f__law_light) = true)
    (a__law_one : PySem.W.nsIn K mainGlobals "_law_one" = some (some (.ref f__law_one)))
    (l__law_one : K.lookup f__law_one = some ⟨oc__law_one, od__law_one, .func (PySem.W.fnOf "_law_one" "_law_one" (defArgs s__law_one) (defBody s__law_one) (defScope s__law_one) .none kV__law_one dc__law_one pm__law_one an__law_one cd__law_one ct__law_one), sl__law_one⟩)
    (c__law_one : PySem.W.codeIn K cd__law_one "_law_one" = true)
    (k__law_one : PySem.W.keepIn K (.ref f__law_one) = true)
    (a__law_drawn : PySem.W.nsIn K mainGlobals "_law_drawn" = some (some (.ref f__law_drawn)))
    (l__law_drawn : K.lookup f__law_drawn = some ⟨oc__law_drawn, od__law_drawn, .func (PySem.W.fnOf "_law_drawn" "_law_drawn" (defArgs s__law_drawn) (defBody s__law_drawn) (defScope s__law_drawn) .none kV__law_drawn dc__law_drawn pm__law_drawn an__law_drawn cd__law_drawn ct__law_drawn), sl__law_drawn⟩)
    (c__law_drawn : PySem.W.codeIn K cd__law_drawn "_law_drawn" = true)
    (k__law_drawn : PySem.W.keepIn K (.ref f__law_drawn) = true)
    (a__law_near : PySem.W.nsIn K mainGlobals "_law_near" = some (some (.ref f__law_near)))
    (l__law_near : K.lookup f__law_near = some ⟨oc__law_near, od__law_near, .func (PySem.W.fnOf "_law_near" "_law_near" (defArgs s__law_near) (defBody s__law_near) (defScope s__law_near) .none kV__law_near dc__law_near pm__law_near an__law_near cd__law_near ct__law_near), sl__law_near⟩)
    (c__law_near : PySem.W.codeIn K cd__law_near "_law_near" = true)
    (k__law_near : PySem.W.keepIn K (.ref f__law_near) = true)
    (a_check_band : PySem.W.nsIn K mainGlobals "check_band" = some (some (.ref f_check_band)))
    (l_check_band : K.lookup f_check_band = some ⟨oc_check_band, od_check_band, .func (PySem.W.fnOf "check_band" "check_band" (defArgs s_check_band) (defBody s_check_band) (defScope s_check_band) .none kV_check_band dc_check_band pm_check_band an_check_band cd_check_band ct_check_band), sl_check_band⟩)
    (c_check_band : PySem.W.codeIn K cd_check_band "check_band" = true)
    (k_check_band : PySem.W.keepIn K (.ref f_check_band) = true)
    (a__bands_of : PySem.W.nsIn K mainGlobals "_bands_of" = some (some (.ref f__bands_of)))
    (l__bands_of : K.lookup f__bands_of = some ⟨oc__bands_of, od__bands_of, .func (PySem.W.fnOf "_bands_of" "_bands_of" (defArgs s__bands_of) (defBody s__bands_of) (defScope s__bands_of) .none kV__bands_of dc__bands_of pm__bands_of an__bands_of cd__bands_of ct__bands_of), sl__bands_of⟩)
    (c__bands_of : PySem.W.codeIn K cd__bands_of "_bands_of" = true)
    (k__bands_of : PySem.W.keepIn K (.ref f__bands_of) = true)
    (a_Light___init__ : PySem.W.findIn K (.ref C_Light) "__init__" = some (some (.ref f_Light___init__)))
    (i_Light___init__ : PySem.W.isFn K (.ref f_Light___init__) = true)
    (l_Light___init__ : K.lookup f_Light___init__ = some ⟨oc_Light___init__, od_Light___init__, .func (PySem.W.fnOf "__init__" "Light.__init__" (defArgs s_Light___init__) (defBody s_Light___init__) (defScope s_Light___init__) .none kV_Light___init__ dc_Light___init__ pm_Light___init__ an_Light___init__ cd_Light___init__ ct_Light___init__), sl_Light___init__⟩)
    (c_Light___init__ : PySem.W.codeIn K cd_Light___init__ "Light.__init__" = true)
    (k_Light___init__ : PySem.W.keepIn K (.ref f_Light___init__) = true)
    (a_Film___init__ : PySem.W.findIn K (.ref C_Film) "__init__" = some (some (.ref f_Film___init__)))
    (i_Film___init__ : PySem.W.isFn K (.ref f_Film___init__) = true)
    (l_Film___init__ : K.lookup f_Film___init__ = some ⟨oc_Film___init__, od_Film___init__, .func (PySem.W.fnOf "__init__" "Film.__init__" (defArgs s_Film___init__) (defBody s_Film___init__) (defScope s_Film___init__) .none kV_Film___init__ dc_Film___init__ pm_Film___init__ an_Film___init__ cd_Film___init__ ct_Film___init__), sl_Film___init__⟩)
    (c_Film___init__ : PySem.W.codeIn K cd_Film___init__ "Film.__init__" = true)
    (k_Film___init__ : PySem.W.keepIn K (.ref f_Film___init__) = true)
    (a_Film_nothing : PySem.W.findCls K (.ref C_Film) (.type "type") "nothing" = some (.get (.builtin "classmethod.__get__") (.ref p_Film_nothing) .none (.ref C_Film)))
    (r1_Film_nothing : PySem.W.recIn K p_Film_nothing "classmethod" = some (.ref f_Film_nothing :: r_Film_nothing))
    (i_Film_nothing : PySem.W.fnIn K f_Film_nothing = true)
    (l_Film_nothing : K.lookup f_Film_nothing = some ⟨oc_Film_nothing, od_Film_nothing, .func (PySem.W.fnOf "nothing" "Film.nothing" (defArgs s_Film_nothing) (defBody s_Film_nothing) (defScope s_Film_nothing) .none kV_Film_nothing dc_Film_nothing pm_Film_nothing an_Film_nothing cd_Film_nothing ct_Film_nothing), sl_Film_nothing⟩)
    (c_Film_nothing : PySem.W.codeIn K cd_Film_nothing "Film.nothing" = true)
    (k_Film_nothing : PySem.W.keepIn K (.ref f_Film_nothing) = true)
    (a__effect_for : PySem.W.nsIn K mainGlobals "_effect_for" = some (some (.ref f__effect_for)))
    (l__effect_for : K.lookup f__effect_for = some ⟨oc__effect_for, od__effect_for, .func (PySem.W.fnOf "_effect_for" "_effect_for" (defArgs s__effect_for) (defBody s__effect_for) (defScope s__effect_for) .none kV__effect_for dc__effect_for pm__effect_for an__effect_for cd__effect_for ct__effect_for), sl__effect_for⟩)
    (c__effect_for : PySem.W.codeIn K cd__effect_for "_effect_for" = true)
    (k__effect_for : PySem.W.keepIn K (.ref f__effect_for) = true)
    (a__light : PySem.W.nsIn K mainGlobals "_light" = some (some (.ref f__light)))
    (l__light : K.lookup f__light = some ⟨oc__light, od__light, .func (PySem.W.fnOf "_light" "_light" (defArgs s__light) (defBody s__light) (defScope s__light) .none kV__light dc__light pm__light an__light cd__light ct__light), sl__light⟩)
    (c__light : PySem.W.codeIn K cd__light "_light" = true)
    (k__light : PySem.W.keepIn K (.ref f__light) = true)
    (a_Light___or__ : PySem.W.findIn K (.ref C_Light) "__or__" = some (some (.ref f_Light___or__)))
    (i_Light___or__ : PySem.W.isFn K (.ref f_Light___or__) = true)
    (l_Light___or__ : K.lookup f_Light___or__ = some ⟨oc_Light___or__, od_Light___or__, .func (PySem.W.fnOf "__or__" "Light.__or__" (defArgs s_Light___or__) (defBody s_Light___or__) (defScope s_Light___or__) .none kV_Light___or__ dc_Light___or__ pm_Light___or__ an_Light___or__ cd_Light___or__ ct_Light___or__), sl_Light___or__⟩)
    (c_Light___or__ : PySem.W.codeIn K cd_Light___or__ "Light.__or__" = true)
    (k_Light___or__ : PySem.W.keepIn K (.ref f_Light___or__) = true)
    (a_Light___sub__ : PySem.W.findIn K (.ref C_Light) "__sub__" = some (some (.ref f_Light___sub__)))
    (i_Light___sub__ : PySem.W.isFn K (.ref f_Light___sub__) = true)
    (l_Light___sub__ : K.lookup f_Light___sub__ = some ⟨oc_Light___sub__, od_Light___sub__, .func (PySem.W.fnOf "__sub__" "Light.__sub__" (defArgs s_Light___sub__) (defBody s_Light___sub__) (defScope s_Light___sub__) .none kV_Light___sub__ dc_Light___sub__ pm_Light___sub__ an_Light___sub__ cd_Light___sub__ ct_Light___sub__), sl_Light___sub__⟩)
    (c_Light___sub__ : PySem.W.codeIn K cd_Light___sub__ "Light.__sub__" = true)
    (k_Light___sub__ : PySem.W.keepIn K (.ref f_Light___sub__) = true)
    (a__followed : PySem.W.nsIn K mainGlobals "_followed" = some (some (.ref f__followed)))
    (l__followed : K.lookup f__followed = some ⟨oc__followed, od__followed, .func (PySem.W.fnOf "_followed" "_followed" (defArgs s__followed) (defBody s__followed) (defScope s__followed) .none kV__followed dc__followed pm__followed an__followed cd__followed ct__followed), sl__followed⟩)
    (c__followed : PySem.W.codeIn K cd__followed "_followed" = true)
    (k__followed : PySem.W.keepIn K (.ref f__followed) = true)
    (a_Film___add__ : PySem.W.findIn K (.ref C_Film) "__add__" = some (some (.ref f_Film___add__)))
    (i_Film___add__ : PySem.W.isFn K (.ref f_Film___add__) = true)
    (l_Film___add__ : K.lookup f_Film___add__ = some ⟨oc_Film___add__, od_Film___add__, .func (PySem.W.fnOf "__add__" "Film.__add__" (defArgs s_Film___add__) (defBody s_Film___add__) (defScope s_Film___add__) .none kV_Film___add__ dc_Film___add__ pm_Film___add__ an_Film___add__ cd_Film___add__ ct_Film___add__), sl_Film___add__⟩)
    (c_Film___add__ : PySem.W.codeIn K cd_Film___add__ "Film.__add__" = true)
    (k_Film___add__ : PySem.W.keepIn K (.ref f_Film___add__) = true)
    (a_Ink_film : PySem.W.findIn K (.ref C_Ink) "film" = some (some (.ref f_Ink_film)))
    (i_Ink_film : PySem.W.isFn K (.ref f_Ink_film) = true)
    (l_Ink_film : K.lookup f_Ink_film = some ⟨oc_Ink_film, od_Ink_film, .func (PySem.W.fnOf "film" "Ink.film" (defArgs s_Ink_film) (defBody s_Ink_film) (defScope s_Ink_film) .none kV_Ink_film dc_Ink_film pm_Ink_film an_Ink_film cd_Ink_film ct_Ink_film), sl_Ink_film⟩)
    (c_Ink_film : PySem.W.codeIn K cd_Ink_film "Ink.film" = true)
    (k_Ink_film : PySem.W.keepIn K (.ref f_Ink_film) = true)
    (a_Light___and__ : PySem.W.findIn K (.ref C_Light) "__and__" = some (some (.ref f_Light___and__)))
    (i_Light___and__ : PySem.W.isFn K (.ref f_Light___and__) = true)
    (l_Light___and__ : K.lookup f_Light___and__ = some ⟨oc_Light___and__, od_Light___and__, .func (PySem.W.fnOf "__and__" "Light.__and__" (defArgs s_Light___and__) (defBody s_Light___and__) (defScope s_Light___and__) .none kV_Light___and__ dc_Light___and__ pm_Light___and__ an_Light___and__ cd_Light___and__ ct_Light___and__), sl_Light___and__⟩)
    (c_Light___and__ : PySem.W.codeIn K cd_Light___and__ "Light.__and__" = true)
    (k_Light___and__ : PySem.W.keepIn K (.ref f_Light___and__) = true)
    (a_Light___bool__ : PySem.W.findIn K (.ref C_Light) "__bool__" = some (some (.ref f_Light___bool__)))
    (i_Light___bool__ : PySem.W.isFn K (.ref f_Light___bool__) = true)
    (l_Light___bool__ : K.lookup f_Light___bool__ = some ⟨oc_Light___bool__, od_Light___bool__, .func (PySem.W.fnOf "__bool__" "Light.__bool__" (defArgs s_Light___bool__) (defBody s_Light___bool__) (defScope s_Light___bool__) .none kV_Light___bool__ dc_Light___bool__ pm_Light___bool__ an_Light___bool__ cd_Light___bool__ ct_Light___bool__), sl_Light___bool__⟩)
    (c_Light___bool__ : PySem.W.codeIn K cd_Light___bool__ "Light.__bool__" = true)
    (k_Light___bool__ : PySem.W.keepIn K (.ref f_Light___bool__) = true)
    (a_Ink___init__ : PySem.W.findIn K (.ref C_Ink) "__init__" = some (some (.ref f_Ink___init__)))
    (i_Ink___init__ : PySem.W.isFn K (.ref f_Ink___init__) = true)
    (l_Ink___init__ : K.lookup f_Ink___init__ = some ⟨oc_Ink___init__, od_Ink___init__, .func (PySem.W.fnOf "__init__" "Ink.__init__" (defArgs s_Ink___init__) (defBody s_Ink___init__) (defScope s_Ink___init__) .none kV_Ink___init__ dc_Ink___init__ pm_Ink___init__ an_Ink___init__ cd_Ink___init__ ct_Ink___init__), sl_Ink___init__⟩)
    (c_Ink___init__ : PySem.W.codeIn K cd_Ink___init__ "Ink.__init__" = true)
    (k_Ink___init__ : PySem.W.keepIn K (.ref f_Ink___init__) = true)
    (a_Light_numbered : PySem.W.findCls K (.ref C_Light) (.type "type") "numbered" = some (.get (.builtin "classmethod.__get__") (.ref p_Light_numbered) .none (.ref C_Light)))
    (r1_Light_numbered : PySem.W.recIn K p_Light_numbered "classmethod" = some (.ref f_Light_numbered :: r_Light_numbered))
    (i_Light_numbered : PySem.W.fnIn K f_Light_numbered = true)
    (l_Light_numbered : K.lookup f_Light_numbered = some ⟨oc_Light_numbered, od_Light_numbered, .func (PySem.W.fnOf "numbered" "Light.numbered" (defArgs s_Light_numbered) (defBody s_Light_numbered) (defScope s_Light_numbered) .none kV_Light_numbered dc_Light_numbered pm_Light_numbered an_Light_numbered cd_Light_numbered ct_Light_numbered), sl_Light_numbered⟩)
    (c_Light_numbered : PySem.W.codeIn K cd_Light_numbered "Light.numbered" = true)
    (k_Light_numbered : PySem.W.keepIn K (.ref f_Light_numbered) = true)
    (a_Light___invert__ : PySem.W.findIn K (.ref C_Light) "__invert__" = some (some (.ref f_Light___invert__)))
    (i_Light___invert__ : PySem.W.isFn K (.ref f_Light___invert__) = true)
    (l_Light___invert__ : K.lookup f_Light___invert__ = some ⟨oc_Light___invert__, od_Light___invert__, .func (PySem.W.fnOf "__invert__" "Light.__invert__" (defArgs s_Light___invert__) (defBody s_Light___invert__) (defScope s_Light___invert__) .none kV_Light___invert__ dc_Light___invert__ pm_Light___invert__ an_Light___invert__ cd_Light___invert__ ct_Light___invert__), sl_Light___invert__⟩)
    (c_Light___invert__ : PySem.W.codeIn K cd_Light___invert__ "Light.__invert__" = true)
    (k_Light___invert__ : PySem.W.keepIn K (.ref f_Light___invert__) = true)
    (a__law_ink : PySem.W.nsIn K mainGlobals "_law_ink" = some (some (.ref f__law_ink)))
    (l__law_ink : K.lookup f__law_ink = some ⟨oc__law_ink, od__law_ink, .func (PySem.W.fnOf "_law_ink" "_law_ink" (defArgs s__law_ink) (defBody s__law_ink) (defScope s__law_ink) .none kV__law_ink dc__law_ink pm__law_ink an__law_ink cd__law_ink ct__law_ink), sl__law_ink⟩)
    (c__law_ink : PySem.W.codeIn K cd__law_ink "_law_ink" = true)
    (k__law_ink : PySem.W.keepIn K (.ref f__law_ink) = true)
    (a__law_sum : PySem.W.nsIn K mainGlobals "_law_sum" = some (some (.ref f__law_sum)))
    (l__law_sum : K.lookup f__law_sum = some ⟨oc__law_sum, od__law_sum, .func (PySem.W.fnOf "_law_sum" "_law_sum" (defArgs s__law_sum) (defBody s__law_sum) (defScope s__law_sum) .none kV__law_sum dc__law_sum pm__law_sum an__law_sum cd__law_sum ct__law_sum), sl__law_sum⟩)
    (c__law_sum : PySem.W.codeIn K cd__law_sum "_law_sum" = true)
    (k__law_sum : PySem.W.keepIn K (.ref f__law_sum) = true)
    (a__law_active : PySem.W.nsIn K mainGlobals "_law_active" = some (some (.ref f__law_active)))
    (l__law_active : K.lookup f__law_active = some ⟨oc__law_active, od__law_active, .func (PySem.W.fnOf "_law_active" "_law_active" (defArgs s__law_active) (defBody s__law_active) (defScope s__law_active) .none kV__law_active dc__law_active pm__law_active an__law_active cd__law_active ct__law_active), sl__law_active⟩)
    (c__law_active : PySem.W.codeIn K cd__law_active "_law_active" = true)
    (k__law_active : PySem.W.keepIn K (.ref f__law_active) = true)
    (a__law_step : PySem.W.nsIn K mainGlobals "_law_step" = some (some (.ref f__law_step)))
    (l__law_step : K.lookup f__law_step = some ⟨oc__law_step, od__law_step, .func (PySem.W.fnOf "_law_step" "_law_step" (defArgs s__law_step) (defBody s__law_step) (defScope s__law_step) .none kV__law_step dc__law_step pm__law_step an__law_step cd__law_step ct__law_step), sl__law_step⟩)
    (c__law_step : PySem.W.codeIn K cd__law_step "_law_step" = true)
    (k__law_step : PySem.W.keepIn K (.ref f__law_step) = true)
    (a__law_print : PySem.W.nsIn K mainGlobals "_law_print" = some (some (.ref f__law_print)))
    (l__law_print : K.lookup f__law_print = some ⟨oc__law_print, od__law_print, .func (PySem.W.fnOf "_law_print" "_law_print" (defArgs s__law_print) (defBody s__law_print) (defScope s__law_print) .none kV__law_print dc__law_print pm__law_print an__law_print cd__law_print ct__law_print), sl__law_print⟩)
    (c__law_print : PySem.W.codeIn K cd__law_print "_law_print" = true)
    (k__law_print : PySem.W.keepIn K (.ref f__law_print) = true)
    (a__law_film : PySem.W.nsIn K mainGlobals "_law_film" = some (some (.ref f__law_film)))
    (l__law_film : K.lookup f__law_film = some ⟨oc__law_film, od__law_film, .func (PySem.W.fnOf "_law_film" "_law_film" (defArgs s__law_film) (defBody s__law_film) (defScope s__law_film) .none kV__law_film dc__law_film pm__law_film an__law_film cd__law_film ct__law_film), sl__law_film⟩)
    (c__law_film : PySem.W.codeIn K cd__law_film "_law_film" = true)
    (k__law_film : PySem.W.keepIn K (.ref f__law_film) = true)
    (a_Light___eq__ : PySem.W.findIn K (.ref C_Light) "__eq__" = some (some (.ref f_Light___eq__)))
    (i_Light___eq__ : PySem.W.isFn K (.ref f_Light___eq__) = true)
    (l_Light___eq__ : K.lookup f_Light___eq__ = some ⟨oc_Light___eq__, od_Light___eq__, .func (PySem.W.fnOf "__eq__" "Light.__eq__" (defArgs s_Light___eq__) (defBody s_Light___eq__) (defScope s_Light___eq__) .none kV_Light___eq__ dc_Light___eq__ pm_Light___eq__ an_Light___eq__ cd_Light___eq__ ct_Light___eq__), sl_Light___eq__⟩)
    (c_Light___eq__ : PySem.W.codeIn K cd_Light___eq__ "Light.__eq__" = true)
    (k_Light___eq__ : PySem.W.keepIn K (.ref f_Light___eq__) = true)
    (a_Film___eq__ : PySem.W.findIn K (.ref C_Film) "__eq__" = some (some (.ref f_Film___eq__)))
    (i_Film___eq__ : PySem.W.isFn K (.ref f_Film___eq__) = true)
    (l_Film___eq__ : K.lookup f_Film___eq__ = some ⟨oc_Film___eq__, od_Film___eq__, .func (PySem.W.fnOf "__eq__" "Film.__eq__" (defArgs s_Film___eq__) (defBody s_Film___eq__) (defScope s_Film___eq__) .none kV_Film___eq__ dc_Film___eq__ pm_Film___eq__ an_Film___eq__ cd_Film___eq__ ct_Film___eq__), sl_Film___eq__⟩)
    (c_Film___eq__ : PySem.W.codeIn K cd_Film___eq__ "Film.__eq__" = true)
    (k_Film___eq__ : PySem.W.keepIn K (.ref f_Film___eq__) = true)
    (a__law_is : PySem.W.nsIn K mainGlobals "_law_is" = some (some (.ref f__law_is)))
    (l__law_is : K.lookup f__law_is = some ⟨oc__law_is, od__law_is, .func (PySem.W.fnOf "_law_is" "_law_is" (defArgs s__law_is) (defBody s__law_is) (defScope s__law_is) .none kV__law_is dc__law_is pm__law_is an__law_is cd__law_is ct__law_is), sl__law_is⟩)
    (c__law_is : PySem.W.codeIn K cd__law_is "_law_is" = true)
    (k__law_is : PySem.W.keepIn K (.ref f__law_is) = true)
    (a__law_effect : PySem.W.nsIn K mainGlobals "_law_effect" = some (some (.ref f__law_effect)))
    (l__law_effect : K.lookup f__law_effect = some ⟨oc__law_effect, od__law_effect, .func (PySem.W.fnOf "_law_effect" "_law_effect" (defArgs s__law_effect) (defBody s__law_effect) (defScope s__law_effect) .none kV__law_effect dc__law_effect pm__law_effect an__law_effect cd__law_effect ct__law_effect), sl__law_effect⟩)
    (c__law_effect : PySem.W.codeIn K cd__law_effect "_law_effect" = true)
    (k__law_effect : PySem.W.keepIn K (.ref f__law_effect) = true)
    (a__writes_nothing : PySem.W.nsIn K mainGlobals "_writes_nothing" = some (some (.ref f__writes_nothing)))
    (l__writes_nothing : K.lookup f__writes_nothing = some ⟨oc__writes_nothing, od__writes_nothing, .func (PySem.W.fnOf "_writes_nothing" "_writes_nothing" (defArgs s__writes_nothing) (defBody s__writes_nothing) (defScope s__writes_nothing) .none kV__writes_nothing dc__writes_nothing pm__writes_nothing an__writes_nothing cd__writes_nothing ct__writes_nothing), sl__writes_nothing⟩)
    (c__writes_nothing : PySem.W.codeIn K cd__writes_nothing "_writes_nothing" = true)
    (k__writes_nothing : PySem.W.keepIn K (.ref f__writes_nothing) = true)
    (a_Film_idle : PySem.W.findIn K (.ref C_Film) "idle" = some (some (.ref p_Film_idle)))
    (pg_Film_idle : PySem.W.specialIn K (.ref p_Film_idle) "__get__" = some (some (.builtin "property.__get__")))
    (pt_Film_idle : PySem.W.takesIn K (.ref p_Film_idle) = some true)
    (r1_Film_idle : PySem.W.recIn K p_Film_idle "property" = some (.ref f_Film_idle :: r_Film_idle))
    (l_Film_idle : K.lookup f_Film_idle = some ⟨oc_Film_idle, od_Film_idle, .func (PySem.W.fnOf "idle" "Film.idle" (defArgs s_Film_idle) (defBody s_Film_idle) (defScope s_Film_idle) .none kV_Film_idle dc_Film_idle pm_Film_idle an_Film_idle cd_Film_idle ct_Film_idle), sl_Film_idle⟩)
    (c_Film_idle : PySem.W.codeIn K cd_Film_idle "Film.idle" = true)
    (k_Film_idle : PySem.W.keepIn K (.ref f_Film_idle) = true)
    (a__law_bands : PySem.W.nsIn K mainGlobals "_law_bands" = some (some (.ref f__law_bands)))
    (l__law_bands : K.lookup f__law_bands = some ⟨oc__law_bands, od__law_bands, .func (PySem.W.fnOf "_law_bands" "_law_bands" (defArgs s__law_bands) (defBody s__law_bands) (defScope s__law_bands) .none kV__law_bands dc__law_bands pm__law_bands an__law_bands cd__law_bands ct__law_bands), sl__law_bands⟩)
    (c__law_bands : PySem.W.codeIn K cd__law_bands "_law_bands" = true)
    (k__law_bands : PySem.W.keepIn K (.ref f__law_bands) = true)
    (a__law_int : PySem.W.nsIn K mainGlobals "_law_int" = some (some (.ref f__law_int)))
    (l__law_int : K.lookup f__law_int = some ⟨oc__law_int, od__law_int, .func (PySem.W.fnOf "_law_int" "_law_int" (defArgs s__law_int) (defBody s__law_int) (defScope s__law_int) .none kV__law_int dc__law_int pm__law_int an__law_int cd__law_int ct__law_int), sl__law_int⟩)
    (c__law_int : PySem.W.codeIn K cd__law_int "_law_int" = true)
    (k__law_int : PySem.W.keepIn K (.ref f__law_int) = true)
    (a__law_same_light : PySem.W.nsIn K mainGlobals "_law_same_light" = some (some (.ref f__law_same_light)))
    (l__law_same_light : K.lookup f__law_same_light = some ⟨oc__law_same_light, od__law_same_light, .func (PySem.W.fnOf "_law_same_light" "_law_same_light" (defArgs s__law_same_light) (defBody s__law_same_light) (defScope s__law_same_light) .none kV__law_same_light dc__law_same_light pm__law_same_light an__law_same_light cd__law_same_light ct__law_same_light), sl__law_same_light⟩)
    (c__law_same_light : PySem.W.codeIn K cd__law_same_light "_law_same_light" = true)
    (k__law_same_light : PySem.W.keepIn K (.ref f__law_same_light) = true)
    (a__law_same_effect : PySem.W.nsIn K mainGlobals "_law_same_effect" = some (some (.ref f__law_same_effect)))
    (l__law_same_effect : K.lookup f__law_same_effect = some ⟨oc__law_same_effect, od__law_same_effect, .func (PySem.W.fnOf "_law_same_effect" "_law_same_effect" (defArgs s__law_same_effect) (defBody s__law_same_effect) (defScope s__law_same_effect) .none kV__law_same_effect dc__law_same_effect pm__law_same_effect an__law_same_effect cd__law_same_effect ct__law_same_effect), sl__law_same_effect⟩)
    (c__law_same_effect : PySem.W.codeIn K cd__law_same_effect "_law_same_effect" = true)
    (k__law_same_effect : PySem.W.keepIn K (.ref f__law_same_effect) = true)
    (a__law_same_text : PySem.W.nsIn K mainGlobals "_law_same_text" = some (some (.ref f__law_same_text)))
    (l__law_same_text : K.lookup f__law_same_text = some ⟨oc__law_same_text, od__law_same_text, .func (PySem.W.fnOf "_law_same_text" "_law_same_text" (defArgs s__law_same_text) (defBody s__law_same_text) (defScope s__law_same_text) .none kV__law_same_text dc__law_same_text pm__law_same_text an__law_same_text cd__law_same_text ct__law_same_text), sl__law_same_text⟩)
    (c__law_same_text : PySem.W.codeIn K cd__law_same_text "_law_same_text" = true)
    (k__law_same_text : PySem.W.keepIn K (.ref f__law_same_text) = true)
    (a__law_does : PySem.W.nsIn K mainGlobals "_law_does" = some (some (.ref f__law_does)))
    (l__law_does : K.lookup f__law_does = some ⟨oc__law_does, od__law_does, .func (PySem.W.fnOf "_law_does" "_law_does" (defArgs s__law_does) (defBody s__law_does) (defScope s__law_does) .none kV__law_does dc__law_does pm__law_does an__law_does cd__law_does ct__law_does), sl__law_does⟩)
    (c__law_does : PySem.W.codeIn K cd__law_does "_law_does" = true)
    (k__law_does : PySem.W.keepIn K (.ref f__law_does) = true)
    (a_Light___contains__ : PySem.W.findIn K (.ref C_Light) "__contains__" = some (some (.ref f_Light___contains__)))
    (i_Light___contains__ : PySem.W.isFn K (.ref f_Light___contains__) = true)
    (l_Light___contains__ : K.lookup f_Light___contains__ = some ⟨oc_Light___contains__, od_Light___contains__, .func (PySem.W.fnOf "__contains__" "Light.__contains__" (defArgs s_Light___contains__) (defBody s_Light___contains__) (defScope s_Light___contains__) .none kV_Light___contains__ dc_Light___contains__ pm_Light___contains__ an_Light___contains__ cd_Light___contains__ ct_Light___contains__), sl_Light___contains__⟩)
    (c_Light___contains__ : PySem.W.codeIn K cd_Light___contains__ "Light.__contains__" = true)
    (k_Light___contains__ : PySem.W.keepIn K (.ref f_Light___contains__) = true)
    (a_Film_does : PySem.W.findIn K (.ref C_Film) "does" = some (some (.ref f_Film_does)))
    (i_Film_does : PySem.W.isFn K (.ref f_Film_does) = true)
    (l_Film_does : K.lookup f_Film_does = some ⟨oc_Film_does, od_Film_does, .func (PySem.W.fnOf "does" "Film.does" (defArgs s_Film_does) (defBody s_Film_does) (defScope s_Film_does) .none (.ref kD_Film_does) dc_Film_does pm_Film_does an_Film_does cd_Film_does ct_Film_does), sl_Film_does⟩)
    (kd_Film_does_inked : PySem.W.nsIn K kD_Film_does "inked" = some (some (.bool false)))
    (c_Film_does : PySem.W.codeIn K cd_Film_does "Film.does" = true)
    (k_Film_does : PySem.W.keepIn K (.ref f_Film_does) = true)
    (a__law_refused : PySem.W.nsIn K mainGlobals "_law_refused" = some (some (.ref f__law_refused)))
    (l__law_refused : K.lookup f__law_refused = some ⟨oc__law_refused, od__law_refused, .func (PySem.W.fnOf "_law_refused" "_law_refused" (defArgs s__law_refused) (defBody s__law_refused) (defScope s__law_refused) .none kV__law_refused dc__law_refused pm__law_refused an__law_refused cd__law_refused ct__law_refused), sl__law_refused⟩)
    (c__law_refused : PySem.W.codeIn K cd__law_refused "_law_refused" = true)
    (k__law_refused : PySem.W.keepIn K (.ref f__law_refused) = true)
    (a_law : PySem.W.nsIn K mainGlobals "law" = some (some (.ref f_law)))
    (l_law : K.lookup f_law = some ⟨oc_law, od_law, .func (PySem.W.fnOf "law" "law" (defArgs s_law) (defBody s_law) (defScope s_law) .none kV_law dc_law pm_law an_law cd_law ct_law), sl_law⟩)
    (c_law : PySem.W.codeIn K cd_law "law" = true)
    (k_law : PySem.W.keepIn K (.ref f_law) = true)
    (pg_Bleach : PySem.W.plainGet K C_Bleach Str.empty = true)
    (hd_Bleach : PySem.W.hasDictIn K C_Bleach = true)
    (po_Bleach : PySem.W.plainOver K C_Bleach = true)
    (sa_Bleach : PySem.W.findIn K (.ref C_Bleach) "__setattr__" = some (some (.builtin "object.__setattr__")))
    (pg_Film : PySem.W.plainGet K C_Film Str.empty = true)
    (hd_Film : PySem.W.hasDictIn K C_Film = true)
    (po_Film : PySem.W.plainOver K C_Film = true)
    (sa_Film : PySem.W.findIn K (.ref C_Film) "__setattr__" = some (some (.builtin "object.__setattr__")))
    (pg_Filter : PySem.W.plainGet K C_Filter Str.empty = true)
    (hd_Filter : PySem.W.hasDictIn K C_Filter = true)
    (po_Filter : PySem.W.plainOver K C_Filter = true)
    (sa_Filter : PySem.W.findIn K (.ref C_Filter) "__setattr__" = some (some (.builtin "object.__setattr__")))
    (pg_Ink : PySem.W.plainGet K C_Ink Str.empty = true)
    (hd_Ink : PySem.W.hasDictIn K C_Ink = true)
    (po_Ink : PySem.W.plainOver K C_Ink = true)
    (sa_Ink : PySem.W.findIn K (.ref C_Ink) "__setattr__" = some (some (.builtin "object.__setattr__")))
    (pg_Light : PySem.W.plainGet K C_Light Str.empty = true)
    (hd_Light : PySem.W.hasDictIn K C_Light = true)
    (po_Light : PySem.W.plainOver K C_Light = true)
    (sa_Light : PySem.W.findIn K (.ref C_Light) "__setattr__" = some (some (.builtin "object.__setattr__")))
    (pg_Opaque : PySem.W.plainGet K C_Opaque Str.empty = true)
    (hd_Opaque : PySem.W.hasDictIn K C_Opaque = true)
    (po_Opaque : PySem.W.plainOver K C_Opaque = true)
    (sa_Opaque : PySem.W.findIn K (.ref C_Opaque) "__setattr__" = some (some (.builtin "object.__setattr__")))
    (n_Bleach_off : PySem.W.findIn K (.ref C_Bleach) "off" = some none)
    (n_Bleach_on : PySem.W.findIn K (.ref C_Bleach) "on" = some none)
    (n_Bleach_takes : PySem.W.findIn K (.ref C_Bleach) "takes" = some none)
    (n_Film_bare : PySem.W.findIn K (.ref C_Film) "bare" = some none)
    (n_Film_inked : PySem.W.findIn K (.ref C_Film) "inked" = some none)
    (n_Filter_off : PySem.W.findIn K (.ref C_Filter) "off" = some none)
    (n_Filter_on : PySem.W.findIn K (.ref C_Filter) "on" = some none)
    (n_Filter_takes : PySem.W.findIn K (.ref C_Filter) "takes" = some none)
    (n_Ink_off : PySem.W.findIn K (.ref C_Ink) "off" = some none)
    (n_Ink_on : PySem.W.findIn K (.ref C_Ink) "on" = some none)
    (n_Ink_takes : PySem.W.findIn K (.ref C_Ink) "takes" = some none)
    (n_Light_bands : PySem.W.findIn K (.ref C_Light) "bands" = some none)
    (n_Light_number : PySem.W.findIn K (.ref C_Light) "number" = some none)
    (n_Opaque_off : PySem.W.findIn K (.ref C_Opaque) "off" = some none)
    (n_Opaque_on : PySem.W.findIn K (.ref C_Opaque) "on" = some none)
    (n_Opaque_takes : PySem.W.findIn K (.ref C_Opaque) "takes" = some none)
    (a_Filter___init__ : PySem.W.findIn K (.ref C_Filter) "__init__" = some (some (.ref f_Filter___init__)))
    (i_Filter___init__ : PySem.W.isFn K (.ref f_Filter___init__) = true)
    (a_Bleach___init__ : PySem.W.findIn K (.ref C_Bleach) "__init__" = some (some (.ref f_Bleach___init__)))
    (i_Bleach___init__ : PySem.W.isFn K (.ref f_Bleach___init__) = true)
    (a_Opaque___init__ : PySem.W.findIn K (.ref C_Opaque) "__init__" = some (some (.ref f_Opaque___init__)))
    (i_Opaque___init__ : PySem.W.isFn K (.ref f_Opaque___init__) = true)
    (mk_Bleach : PySem.W.makesIn K C_Bleach = true)
    (kc_Bleach : PySem.W.keepIn K (.ref C_Bleach) = true)
    (mk_Film : PySem.W.makesIn K C_Film = true)
    (kc_Film : PySem.W.keepIn K (.ref C_Film) = true)
    (mk_Filter : PySem.W.makesIn K C_Filter = true)
    (kc_Filter : PySem.W.keepIn K (.ref C_Filter) = true)
    (mk_Ink : PySem.W.makesIn K C_Ink = true)
    (kc_Ink : PySem.W.keepIn K (.ref C_Ink) = true)
    (mk_Light : PySem.W.makesIn K C_Light = true)
    (kc_Light : PySem.W.keepIn K (.ref C_Light) = true)
    (mk_Opaque : PySem.W.makesIn K C_Opaque = true)
    (kc_Opaque : PySem.W.keepIn K (.ref C_Opaque) = true)
    (am_Bleach_film : PySem.W.findIn K (.ref C_Bleach) "film" = some (some (.ref f_Ink_film)))
    (am_Filter_film : PySem.W.findIn K (.ref C_Filter) "film" = some (some (.ref f_Ink_film)))
    (am_Opaque_film : PySem.W.findIn K (.ref C_Opaque) "film" = some (some (.ref f_Ink_film)))
    (rd_Film : PySem.W.readsIn K C_Film (.type "type") = true)
    (ga_Film : PySem.W.specialIn K (.ref C_Film) "__getattribute__" = some (some (.builtin "type.__getattribute__")))
    (rd_Ink : PySem.W.readsIn K C_Ink (.type "type") = true)
    (ga_Ink : PySem.W.specialIn K (.ref C_Ink) "__getattribute__" = some (some (.builtin "type.__getattribute__")))
    (rd_Light : PySem.W.readsIn K C_Light (.type "type") = true)
    (ga_Light : PySem.W.specialIn K (.ref C_Light) "__getattribute__" = some (some (.builtin "type.__getattribute__")))
    (v_Light_BANDS : PySem.W.findCls K (.ref C_Light) (.type "type") "BANDS" = some (.val (.int 6 t_Light_BANDS)))
    (v_Ink_TAKES : PySem.W.findCls K (.ref C_Ink) (.type "type") "TAKES" = some (.val (.ref ct_Ink_TAKES)))
    (lt_Ink_TAKES : K.lookup ct_Ink_TAKES = some ⟨.type "tuple", td_Ink_TAKES, .seq #[.str "any" tk0_Ink_TAKES, .str "bare" tk1_Ink_TAKES, .str "inked" tk2_Ink_TAKES] tn_Ink_TAKES, tl_Ink_TAKES⟩)
    (co_LIGHTS : PySem.W.nsIn K mainGlobals "LIGHTS" = some (some (.int 64 t_LIGHTS)))
    (sf_Film : PySem.W.selfFirst K C_Film = true)
    (sf_Light : PySem.W.selfFirst K C_Light = true)
    (nf_Film_own_Film : PySem.W.notFirst K C_Film (.ref C_Film) = true)
    (nf_Film_ty_list : PySem.W.notFirst K C_Film (.type "list") = true)
    (ica_Film : PySem.W.findIn K (.ref C_Film) "__class__" = some (some (.builtin "object.__class__")))
    (icm_Film : PySem.W.mroIn K C_Film (.type "object") = some true)
    (ica_Light : PySem.W.findIn K (.ref C_Light) "__class__" = some (some (.builtin "object.__class__")))
    (icm_Light : PySem.W.mroIn K C_Light (.type "object") = some true)
    (ikn : PySem.W.specialIn K (.builtin "object.__class__") "__get__" = some (some (.builtin "getset_descriptor.__get__")))
    (ikt : PySem.W.takesIn K (.builtin "object.__class__") = some true)
    (it_own_Light_own_Light : PySem.W.kitOne K (.ref C_Light) (.ref C_Light) = some true)
    (it_own_Film_own_Film : PySem.W.kitOne K (.ref C_Film) (.ref C_Film) = some true)
    (it_ty_list_own_Film : PySem.W.kitOne K (.type "list") (.ref C_Film) = some false)
    (it_ty_tuple_ty_tuple : PySem.W.kitOne K (.type "tuple") (.type "tuple") = some true)
    (it_ty_int_ty_int : PySem.W.kitOne K (.type "int") (.type "int") = some true)
    (it_ty_int_ty_bool : PySem.W.kitOne K (.type "int") (.type "bool") = some false)
    (it_ty_bool_ty_bool : PySem.W.kitOne K (.type "bool") (.type "bool") = some true)
    (it_ty_str_ty_str : PySem.W.kitOne K (.type "str") (.type "str") = some true)
    (no_all : PySem.W.nsIn K mainGlobals "all" = some (none))
    (no_bool : PySem.W.nsIn K mainGlobals "bool" = some (none))
    (no_int : PySem.W.nsIn K mainGlobals "int" = some (none))
    (no_isinstance : PySem.W.nsIn K mainGlobals "isinstance" = some (none))
    (no_len : PySem.W.nsIn K mainGlobals "len" = some (none))
    (no_list : PySem.W.nsIn K mainGlobals "list" = some (none))
    (no_range : PySem.W.nsIn K mainGlobals "range" = some (none))
    (no_str : PySem.W.nsIn K mainGlobals "str" = some (none))
    (no_super : PySem.W.nsIn K mainGlobals "super" = some (none))
    (no_tuple : PySem.W.nsIn K mainGlobals "tuple" = some (none))
    (a_InvalidBand___init__ : PySem.W.findIn K (.ref C_InvalidBand) "__init__" = some (some (.ref f_InvalidBand___init__)))
    (l_InvalidBand___init__ : K.lookup f_InvalidBand___init__ = some ⟨oc_InvalidBand___init__, od_InvalidBand___init__, .func ((nfo s_InvalidBand___init__ "__init__" "InvalidBand.__init__" cc_InvalidBand___init__ cd_InvalidBand___init__).fd dc_InvalidBand___init__ pm_InvalidBand___init__ ct_InvalidBand___init__), sl_InvalidBand___init__⟩)
    (c_InvalidBand___init__ : PySem.W.codeIn K (.ref cd_InvalidBand___init__) "InvalidBand.__init__" = true)
    (lc_InvalidBand___init__ : K.lookup cd_InvalidBand___init__ = some ⟨o1_InvalidBand___init__, d1_InvalidBand___init__, .fields vs_InvalidBand___init__, s1_InvalidBand___init__⟩)
    (vf_InvalidBand___init__ : vs_InvalidBand___init__[2]? = some (.str fl_InvalidBand___init__ tf_InvalidBand___init__))
    (pf_InvalidBand___init__ : ((l.prog.main.file : Str) == fl_InvalidBand___init__) = true)
    (ce_InvalidBand___init__ : K.lookup cc_InvalidBand___init__ = some ⟨o2_InvalidBand___init__, d2_InvalidBand___init__, .cell (some (.ref C_InvalidBand)), s2_InvalidBand___init__⟩)
    (topS : (l.prog.main.scope.names.lookup ("super" : Str)).isSome = false)
    (hst : PySem.W.nsIn K cStatics "thirdparty.any" = some none)
    (ex_InvalidBand___init__ : K.lookup C_InvalidBand = some (excClassObj nm_InvalidBand___init__ qn_InvalidBand___init__ C_InvalidBand N_InvalidBand___init__ bs_InvalidBand___init__ bm_InvalidBand___init__ true sn_InvalidBand___init__ sb_InvalidBand___init__ ab_InvalidBand___init__ col_InvalidBand___init__ dd_InvalidBand___init__ k0_InvalidBand___init__ k1_InvalidBand___init__ k2_InvalidBand___init__ k3_InvalidBand___init__ k5_InvalidBand___init__ "ValueError.__new__"))
    (rv_InvalidBand___init__ : PySem.HandSPX.refsVE bm_InvalidBand___init__ = true)
    (sa_InvalidBand___init__ : PySem.W.findIn K (.ref C_InvalidBand) "__setattr__" = some (some (.builtin "object.__setattr__")))
    (xc_InvalidBand___init__ : PySem.W.subIn K (.ref C_InvalidBand) (.type "BaseException") = some true)
    (tc_InvalidBand___init__ : PySem.W.typeIn K (.ref C_InvalidBand) = some (.type "type"))
    (kc_InvalidBand___init__ : PySem.W.keepIn K (.ref C_InvalidBand) = true)
    (tf_InvalidBand___init__ : PySem.W.typeIn K (.ref f_InvalidBand___init__) = some (.type "function"))
    (si_InvalidBand___init__ : PySem.W.ks_superIn K C_InvalidBand C_InvalidBand "__init__" = some (some (.builtin "ValueError.__init__")))
    (su_InvalidBand___init__ : PySem.W.mroIn K C_InvalidBand (.ref C_InvalidBand) = some true)
    (hn_InvalidBand___init__ : PySem.W.findIn K (.ref C_InvalidBand) "band" = some none)
    (xg_InvalidBand___init__ : PySem.W.findIn K (.ref C_InvalidBand) "__getattribute__" = some (some (.builtin "BaseException.__getattribute__")))
    (xh_InvalidBand___init__ : PySem.W.findIn K (.ref C_InvalidBand) "__getattr__" = some none)
    (xd_InvalidBand___init__ : PySem.W.hasDictIn K C_InvalidBand = true)
    (l_Filter___init__ : K.lookup f_Filter___init__ = some ⟨oc_Filter___init__, od_Filter___init__, .func (PySem.W.fnX "__init__" "Filter.__init__" (defArgs s_Filter___init__) (defBody s_Filter___init__) (defScope s_Filter___init__) [(("__class__" : Str), cc_Filter___init__)] .none kV_Filter___init__ dc_Filter___init__ pm_Filter___init__ an_Filter___init__ (.ref cd_Filter___init__) ct_Filter___init__), sl_Filter___init__⟩)
    (c_Filter___init__ : PySem.W.codeIn K (.ref cd_Filter___init__) "Filter.__init__" = true)
    (lc_Filter___init__ : K.lookup cd_Filter___init__ = some ⟨o1_Filter___init__, d1_Filter___init__, .fields vs_Filter___init__, s1_Filter___init__⟩)
    (vf_Filter___init__ : vs_Filter___init__[2]? = some (.str fl_Filter___init__ tf_Filter___init__))
    (pf_Filter___init__ : ((l.prog.main.file : Str) == fl_Filter___init__) = true)
    (ce_Filter___init__ : K.lookup cc_Filter___init__ = some ⟨o2_Filter___init__, d2_Filter___init__, .cell (some (.ref C_Filter)), s2_Filter___init__⟩)
    (si_Filter___init__ : PySem.W.ks_superIn K C_Filter C_Filter "__init__" = some (some (.ref f_Ink___init__)))
    (su_Filter___init__ : PySem.W.mroIn K C_Filter (.ref C_Filter) = some true)
    (t2_Ink___init__ : PySem.W.typeIn K (.ref f_Ink___init__) = some (.type "function"))
    (fi_Ink___init__ : PySem.W.fnIn K f_Ink___init__ = true)
    (ik_Filter___init__ : PySem.W.isClsIn K C_Filter = true)
    (l_Bleach___init__ : K.lookup f_Bleach___init__ = some ⟨oc_Bleach___init__, od_Bleach___init__, .func (PySem.W.fnX "__init__" "Bleach.__init__" (defArgs s_Bleach___init__) (defBody s_Bleach___init__) (defScope s_Bleach___init__) [(("__class__" : Str), cc_Bleach___init__)] .none kV_Bleach___init__ dc_Bleach___init__ pm_Bleach___init__ an_Bleach___init__ (.ref cd_Bleach___init__) ct_Bleach___init__), sl_Bleach___init__⟩)
    (c_Bleach___init__ : PySem.W.codeIn K (.ref cd_Bleach___init__) "Bleach.__init__" = true)
    (lc_Bleach___init__ : K.lookup cd_Bleach___init__ = some ⟨o1_Bleach___init__, d1_Bleach___init__, .fields vs_Bleach___init__, s1_Bleach___init__⟩)
    (vf_Bleach___init__ : vs_Bleach___init__[2]? = some (.str fl_Bleach___init__ tf_Bleach___init__))
    (pf_Bleach___init__ : ((l.prog.main.file : Str) == fl_Bleach___init__) = true)
    (ce_Bleach___init__ : K.lookup cc_Bleach___init__ = some ⟨o2_Bleach___init__, d2_Bleach___init__, .cell (some (.ref C_Bleach)), s2_Bleach___init__⟩)
    (si_Bleach___init__ : PySem.W.ks_superIn K C_Bleach C_Bleach "__init__" = some (some (.ref f_Ink___init__)))
    (su_Bleach___init__ : PySem.W.mroIn K C_Bleach (.ref C_Bleach) = some true)
    (ik_Bleach___init__ : PySem.W.isClsIn K C_Bleach = true)
    (l_Opaque___init__ : K.lookup f_Opaque___init__ = some ⟨oc_Opaque___init__, od_Opaque___init__, .func (PySem.W.fnX "__init__" "Opaque.__init__" (defArgs s_Opaque___init__) (defBody s_Opaque___init__) (defScope s_Opaque___init__) [(("__class__" : Str), cc_Opaque___init__)] .none kV_Opaque___init__ dc_Opaque___init__ pm_Opaque___init__ an_Opaque___init__ (.ref cd_Opaque___init__) ct_Opaque___init__), sl_Opaque___init__⟩)
    (c_Opaque___init__ : PySem.W.codeIn K (.ref cd_Opaque___init__) "Opaque.__init__" = true)
    (lc_Opaque___init__ : K.lookup cd_Opaque___init__ = some ⟨o1_Opaque___init__, d1_Opaque___init__, .fields vs_Opaque___init__, s1_Opaque___init__⟩)
    (vf_Opaque___init__ : vs_Opaque___init__[2]? = some (.str fl_Opaque___init__ tf_Opaque___init__))
    (pf_Opaque___init__ : ((l.prog.main.file : Str) == fl_Opaque___init__) = true)
    (ce_Opaque___init__ : K.lookup cc_Opaque___init__ = some ⟨o2_Opaque___init__, d2_Opaque___init__, .cell (some (.ref C_Opaque)), s2_Opaque___init__⟩)
    (si_Opaque___init__ : PySem.W.ks_superIn K C_Opaque C_Opaque "__init__" = some (some (.ref f_Ink___init__)))
    (su_Opaque___init__ : PySem.W.mroIn K C_Opaque (.ref C_Opaque) = some true)
    (ik_Opaque___init__ : PySem.W.isClsIn K C_Opaque = true)
    (xm_InvalidBand_InvalidBand : PySem.W.exmOne K (.ref C_InvalidBand) (.ref C_InvalidBand) = some true)
    (hmath : ∀ ns : List Int, ns.length ≤ 63 → ∃ G', g_law [scr ns] [] = .ok (.d (.bl true)) G') :
    ∃ fd : FuncData, (∀ (s : Shared) (v : Value), BindsTo s fd ⟨[v], []⟩ [("_law_script", v)]) ∧ ∀ base : Heap, K.In base → base.Ns mainGlobals mg → FnOk l.prog w K mg base (L2N.CX l.prog w) 13 fa fd ["_law_script"] (spLaw K) := by
  have e : fa = f_law := by
    have e := hfa.symm.trans (PySem.W.mg_of X G a_law)
    injection e with e
    injection e
  obtain ⟨d__law_box, F__law_box⟩ : ∃ fd, Fun K "_law_box" "_law_box" s__law_box f__law_box fd := ⟨_, fun_mk (st := s__law_box) l__law_box c__law_box k__law_box⟩
  obtain ⟨d__law_draw, F__law_draw⟩ : ∃ fd, Fun K "_law_draw" "_law_draw" s__law_draw f__law_draw fd := ⟨_, fun_mk (st := s__law_draw) l__law_draw c__law_draw k__law_draw⟩
  obtain ⟨d__law_light, F__law_light⟩ : ∃ fd, Fun K "_law_light" "_law_light" s__law_light f__law_light fd := ⟨_, fun_mk (st := s__law_light) l__law_light c__law_light k__law_light⟩
  obtain ⟨d__law_one, F__law_one⟩ : ∃ fd, Fun K "_law_one" "_law_one" s__law_one f__law_one fd := ⟨_, fun_mk (st := s__law_one) l__law_one c__law_one k__law_one⟩
  obtain ⟨d__law_drawn, F__law_drawn⟩ : ∃ fd, Fun K "_law_drawn" "_law_drawn" s__law_drawn f__law_drawn fd := ⟨_, fun_mk (st := s__law_drawn) l__law_drawn c__law_drawn k__law_drawn⟩
  obtain ⟨d__law_near, F__law_near⟩ : ∃ fd, Fun K "_law_near" "_law_near" s__law_near f__law_near fd := ⟨_, fun_mk (st := s__law_near) l__law_near c__law_near k__law_near⟩
  obtain ⟨d_check_band, F_check_band⟩ : ∃ fd, Fun K "check_band" "check_band" s_check_band f_check_band fd := ⟨_, fun_mk (st := s_check_band) l_check_band c_check_band k_check_band⟩
  obtain ⟨d__bands_of, F__bands_of⟩ : ∃ fd, Fun K "_bands_of" "_bands_of" s__bands_of f__bands_of fd := ⟨_, fun_mk (st := s__bands_of) l__bands_of c__bands_of k__bands_of⟩
  obtain ⟨d_Light___init__, F_Light___init__, b_Light___init__⟩ : ∃ fd, Fun K "__init__" "Light.__init__" s_Light___init__ f_Light___init__ fd ∧ BindS fd ["self"] "bands" := ⟨_, fun_mk (st := s_Light___init__) l_Light___init__ c_Light___init__ k_Light___init__, fun us rest hl => bind_star1 (B := fun xs => bindArgs _ ⟨xs, []⟩) (fun _ => rfl) (fun _ _ _ => rfl) us rest hl⟩
  obtain ⟨d_Film___init__, F_Film___init__⟩ : ∃ fd, Fun K "__init__" "Film.__init__" s_Film___init__ f_Film___init__ fd := ⟨_, fun_mk (st := s_Film___init__) l_Film___init__ c_Film___init__ k_Film___init__⟩
  obtain ⟨d_Film_nothing, F_Film_nothing⟩ : ∃ fd, Fun K "nothing" "Film.nothing" s_Film_nothing f_Film_nothing fd := ⟨_, fun_mk (st := s_Film_nothing) l_Film_nothing c_Film_nothing k_Film_nothing⟩
  obtain ⟨d__effect_for, F__effect_for⟩ : ∃ fd, Fun K "_effect_for" "_effect_for" s__effect_for f__effect_for fd := ⟨_, fun_mk (st := s__effect_for) l__effect_for c__effect_for k__effect_for⟩
  obtain ⟨d__light, F__light⟩ : ∃ fd, Fun K "_light" "_light" s__light f__light fd := ⟨_, fun_mk (st := s__light) l__light c__light k__light⟩
  obtain ⟨d_Light___or__, F_Light___or__⟩ : ∃ fd, Fun K "__or__" "Light.__or__" s_Light___or__ f_Light___or__ fd := ⟨_, fun_mk (st := s_Light___or__) l_Light___or__ c_Light___or__ k_Light___or__⟩
  obtain ⟨d_Light___sub__, F_Light___sub__⟩ : ∃ fd, Fun K "__sub__" "Light.__sub__" s_Light___sub__ f_Light___sub__ fd := ⟨_, fun_mk (st := s_Light___sub__) l_Light___sub__ c_Light___sub__ k_Light___sub__⟩
  obtain ⟨d__followed, F__followed⟩ : ∃ fd, Fun K "_followed" "_followed" s__followed f__followed fd := ⟨_, fun_mk (st := s__followed) l__followed c__followed k__followed⟩
  obtain ⟨d_Film___add__, F_Film___add__⟩ : ∃ fd, Fun K "__add__" "Film.__add__" s_Film___add__ f_Film___add__ fd := ⟨_, fun_mk (st := s_Film___add__) l_Film___add__ c_Film___add__ k_Film___add__⟩
  obtain ⟨d_Ink_film, F_Ink_film⟩ : ∃ fd, Fun K "film" "Ink.film" s_Ink_film f_Ink_film fd := ⟨_, fun_mk (st := s_Ink_film) l_Ink_film c_Ink_film k_Ink_film⟩
  obtain ⟨d_Light___and__, F_Light___and__⟩ : ∃ fd, Fun K "__and__" "Light.__and__" s_Light___and__ f_Light___and__ fd := ⟨_, fun_mk (st := s_Light___and__) l_Light___and__ c_Light___and__ k_Light___and__⟩
  obtain ⟨d_Light___bool__, F_Light___bool__⟩ : ∃ fd, Fun K "__bool__" "Light.__bool__" s_Light___bool__ f_Light___bool__ fd := ⟨_, fun_mk (st := s_Light___bool__) l_Light___bool__ c_Light___bool__ k_Light___bool__⟩
  obtain ⟨d_Ink___init__, F_Ink___init__⟩ : ∃ fd, Fun K "__init__" "Ink.__init__" s_Ink___init__ f_Ink___init__ fd := ⟨_, fun_mk (st := s_Ink___init__) l_Ink___init__ c_Ink___init__ k_Ink___init__⟩
  obtain ⟨d_Light_numbered, F_Light_numbered⟩ : ∃ fd, Fun K "numbered" "Light.numbered" s_Light_numbered f_Light_numbered fd := ⟨_, fun_mk (st := s_Light_numbered) l_Light_numbered c_Light_numbered k_Light_numbered⟩
  obtain ⟨d_Light___invert__, F_Light___invert__⟩ : ∃ fd, Fun K "__invert__" "Light.__invert__" s_Light___invert__ f_Light___invert__ fd := ⟨_, fun_mk (st := s_Light___invert__) l_Light___invert__ c_Light___invert__ k_Light___invert__⟩
  obtain ⟨d__law_ink, F__law_ink⟩ : ∃ fd, Fun K "_law_ink" "_law_ink" s__law_ink f__law_ink fd := ⟨_, fun_mk (st := s__law_ink) l__law_ink c__law_ink k__law_ink⟩
  obtain ⟨d__law_sum, F__law_sum⟩ : ∃ fd, Fun K "_law_sum" "_law_sum" s__law_sum f__law_sum fd := ⟨_, fun_mk (st := s__law_sum) l__law_sum c__law_sum k__law_sum⟩
  obtain ⟨d__law_active, F__law_active⟩ : ∃ fd, Fun K "_law_active" "_law_active" s__law_active f__law_active fd := ⟨_, fun_mk (st := s__law_active) l__law_active c__law_active k__law_active⟩
  obtain ⟨d__law_step, F__law_step⟩ : ∃ fd, Fun K "_law_step" "_law_step" s__law_step f__law_step fd := ⟨_, fun_mk (st := s__law_step) l__law_step c__law_step k__law_step⟩
  obtain ⟨d__law_print, F__law_print⟩ : ∃ fd, Fun K "_law_print" "_law_print" s__law_print f__law_print fd := ⟨_, fun_mk (st := s__law_print) l__law_print c__law_print k__law_print⟩
  obtain ⟨d__law_film, F__law_film⟩ : ∃ fd, Fun K "_law_film" "_law_film" s__law_film f__law_film fd := ⟨_, fun_mk (st := s__law_film) l__law_film c__law_film k__law_film⟩
  obtain ⟨d_Light___eq__, F_Light___eq__⟩ : ∃ fd, Fun K "__eq__" "Light.__eq__" s_Light___eq__ f_Light___eq__ fd := ⟨_, fun_mk (st := s_Light___eq__) l_Light___eq__ c_Light___eq__ k_Light___eq__⟩
  obtain ⟨d_Film___eq__, F_Film___eq__⟩ : ∃ fd, Fun K "__eq__" "Film.__eq__" s_Film___eq__ f_Film___eq__ fd := ⟨_, fun_mk (st := s_Film___eq__) l_Film___eq__ c_Film___eq__ k_Film___eq__⟩
  obtain ⟨d__law_is, F__law_is⟩ : ∃ fd, Fun K "_law_is" "_law_is" s__law_is f__law_is fd := ⟨_, fun_mk (st := s__law_is) l__law_is c__law_is k__law_is⟩
  obtain ⟨d__law_effect, F__law_effect⟩ : ∃ fd, Fun K "_law_effect" "_law_effect" s__law_effect f__law_effect fd := ⟨_, fun_mk (st := s__law_effect) l__law_effect c__law_effect k__law_effect⟩
  obtain ⟨d__writes_nothing, F__writes_nothing⟩ : ∃ fd, Fun K "_writes_nothing" "_writes_nothing" s__writes_nothing f__writes_nothing fd := ⟨_, fun_mk (st := s__writes_nothing) l__writes_nothing c__writes_nothing k__writes_nothing⟩
  obtain ⟨d_Film_idle, F_Film_idle⟩ : ∃ fd, Fun K "idle" "Film.idle" s_Film_idle f_Film_idle fd := ⟨_, fun_mk (st := s_Film_idle) l_Film_idle c_Film_idle k_Film_idle⟩
  obtain ⟨d__law_bands, F__law_bands⟩ : ∃ fd, Fun K "_law_bands" "_law_bands" s__law_bands f__law_bands fd := ⟨_, fun_mk (st := s__law_bands) l__law_bands c__law_bands k__law_bands⟩
  obtain ⟨d__law_int, F__law_int⟩ : ∃ fd, Fun K "_law_int" "_law_int" s__law_int f__law_int fd := ⟨_, fun_mk (st := s__law_int) l__law_int c__law_int k__law_int⟩
  obtain ⟨d__law_same_light, F__law_same_light⟩ : ∃ fd, Fun K "_law_same_light" "_law_same_light" s__law_same_light f__law_same_light fd := ⟨_, fun_mk (st := s__law_same_light) l__law_same_light c__law_same_light k__law_same_light⟩
  obtain ⟨d__law_same_effect, F__law_same_effect⟩ : ∃ fd, Fun K "_law_same_effect" "_law_same_effect" s__law_same_effect f__law_same_effect fd := ⟨_, fun_mk (st := s__law_same_effect) l__law_same_effect c__law_same_effect k__law_same_effect⟩
  obtain ⟨d__law_same_text, F__law_same_text⟩ : ∃ fd, Fun K "_law_same_text" "_law_same_text" s__law_same_text f__law_same_text fd := ⟨_, fun_mk (st := s__law_same_text) l__law_same_text c__law_same_text k__law_same_text⟩
  obtain ⟨d__law_does, F__law_does⟩ : ∃ fd, Fun K "_law_does" "_law_does" s__law_does f__law_does fd := ⟨_, fun_mk (st := s__law_does) l__law_does c__law_does k__law_does⟩
  obtain ⟨d_Light___contains__, F_Light___contains__⟩ : ∃ fd, Fun K "__contains__" "Light.__contains__" s_Light___contains__ f_Light___contains__ fd := ⟨_, fun_mk (st := s_Light___contains__) l_Light___contains__ c_Light___contains__ k_Light___contains__⟩
  obtain ⟨d_Film_does, F_Film_does, bd_Film_does⟩ : ∃ fd, Fun K "does" "Film.does" s_Film_does f_Film_does fd ∧ ∃ ds, Vals [.bl false] ds ∧ Binds K fd ["self", "band", "inked"] ds := ⟨_, fun_mk (st := s_Film_does) l_Film_does c_Film_does k_Film_does, binds_kw (D := kD_Film_does) (kws := [("inked", .bl false)]) (all_cons (a := (("inked", .bl false) : Str × V)) (p := fun q : Str × V => ∃ u, PySem.W.nsIn K kD_Film_does q.1 = some (some u) ∧ RelV q.2 u) ⟨_, kd_Film_does_inked, rfl⟩ all_nil) 2 rfl (fun us ks h1 h2 => match us, ks, h1, h2 with | [_, _], [_], _, _ => ⟨_, _, _, _, _, _, rfl, rfl, rfl⟩)⟩
  obtain ⟨d__law_refused, F__law_refused⟩ : ∃ fd, Fun K "_law_refused" "_law_refused" s__law_refused f__law_refused fd := ⟨_, fun_mk (st := s__law_refused) l__law_refused c__law_refused k__law_refused⟩
  obtain ⟨d_law, F_law, b_law⟩ : ∃ fd, Fun K "law" "law" s_law f_law fd ∧ ∀ (s : Shared) (v : Value), BindsTo s fd ⟨[v], []⟩ [("_law_script", v)] := ⟨_, fun_mk (st := s_law) l_law c_law k_law, fun _ _ => .of_eq rfl⟩
  obtain ⟨d_InvalidBand___init__, e_InvalidBand___init__⟩ : ∃ fd, fd = (nfo s_InvalidBand___init__ "__init__" "InvalidBand.__init__" cc_InvalidBand___init__ cd_InvalidBand___init__).fd dc_InvalidBand___init__ pm_InvalidBand___init__ ct_InvalidBand___init__ := ⟨_, rfl⟩
  obtain ⟨d_Filter___init__, e_Filter___init__⟩ : ∃ fd, fd = PySem.W.fnX "__init__" "Filter.__init__" (defArgs s_Filter___init__) (defBody s_Filter___init__) (defScope s_Filter___init__) [(("__class__" : Str), cc_Filter___init__)] .none kV_Filter___init__ dc_Filter___init__ pm_Filter___init__ an_Filter___init__ (.ref cd_Filter___init__) ct_Filter___init__ := ⟨_, rfl⟩
  obtain ⟨d_Bleach___init__, e_Bleach___init__⟩ : ∃ fd, fd = PySem.W.fnX "__init__" "Bleach.__init__" (defArgs s_Bleach___init__) (defBody s_Bleach___init__) (defScope s_Bleach___init__) [(("__class__" : Str), cc_Bleach___init__)] .none kV_Bleach___init__ dc_Bleach___init__ pm_Bleach___init__ an_Bleach___init__ (.ref cd_Bleach___init__) ct_Bleach___init__ := ⟨_, rfl⟩
  obtain ⟨d_Opaque___init__, e_Opaque___init__⟩ : ∃ fd, fd = PySem.W.fnX "__init__" "Opaque.__init__" (defArgs s_Opaque___init__) (defBody s_Opaque___init__) (defScope s_Opaque___init__) [(("__class__" : Str), cc_Opaque___init__)] .none kV_Opaque___init__ dc_Opaque___init__ pm_Opaque___init__ an_Opaque___init__ (.ref cd_Opaque___init__) ct_Opaque___init__ := ⟨_, rfl⟩
  obtain ⟨A, rfl, rfl, rfl, rfl, rfl, rfl, rfl, rfl, rfl, rfl, rfl, rfl, rfl, rfl, rfl, rfl, rfl, rfl, rfl, rfl, rfl, rfl, rfl, rfl, rfl, rfl, rfl, rfl, rfl, rfl, rfl, rfl, rfl, rfl, rfl, rfl, rfl, rfl, rfl, rfl, rfl, rfl, rfl, rfl, rfl, rfl, rfl, rfl, rfl⟩ : ∃ A : String → Addr, A "_law_box" = f__law_box ∧ A "_law_draw" = f__law_draw ∧ A "_law_light" = f__law_light ∧ A "_law_one" = f__law_one ∧ A "_law_drawn" = f__law_drawn ∧ A "_law_near" = f__law_near ∧ A "check_band" = f_check_band ∧ A "_bands_of" = f__bands_of ∧ A "Light.__init__" = f_Light___init__ ∧ A "Film.__init__" = f_Film___init__ ∧ A "Film.nothing" = f_Film_nothing ∧ A "_effect_for" = f__effect_for ∧ A "_light" = f__light ∧ A "Light.__or__" = f_Light___or__ ∧ A "Light.__sub__" = f_Light___sub__ ∧ A "_followed" = f__followed ∧ A "Film.__add__" = f_Film___add__ ∧ A "Ink.film" = f_Ink_film ∧ A "Light.__and__" = f_Light___and__ ∧ A "Light.__bool__" = f_Light___bool__ ∧ A "Ink.__init__" = f_Ink___init__ ∧ A "Light.numbered" = f_Light_numbered ∧ A "Light.__invert__" = f_Light___invert__ ∧ A "_law_ink" = f__law_ink ∧ A "_law_sum" = f__law_sum ∧ A "_law_active" = f__law_active ∧ A "_law_step" = f__law_step ∧ A "_law_print" = f__law_print ∧ A "_law_film" = f__law_film ∧ A "Light.__eq__" = f_Light___eq__ ∧ A "Film.__eq__" = f_Film___eq__ ∧ A "_law_is" = f__law_is ∧ A "_law_effect" = f__law_effect ∧ A "_writes_nothing" = f__writes_nothing ∧ A "Film.idle" = f_Film_idle ∧ A "_law_bands" = f__law_bands ∧ A "_law_int" = f__law_int ∧ A "_law_same_light" = f__law_same_light ∧ A "_law_same_effect" = f__law_same_effect ∧ A "_law_same_text" = f__law_same_text ∧ A "_law_does" = f__law_does ∧ A "Light.__contains__" = f_Light___contains__ ∧ A "Film.does" = f_Film_does ∧ A "_law_refused" = f__law_refused ∧ A "law" = f_law ∧ A "InvalidBand.__init__" = f_InvalidBand___init__ ∧ A "Filter.__init__" = f_Filter___init__ ∧ A "Bleach.__init__" = f_Bleach___init__ ∧ A "Opaque.__init__" = f_Opaque___init__ := ⟨fun s => if s = "_law_box" then f__law_box else if s = "_law_draw" then f__law_draw else if s = "_law_light" then f__law_light else if s = "_law_one" then f__law_one else if s = "_law_drawn" then f__law_drawn else if s = "_law_near" then f__law_near else if s = "check_band" then f_check_band else if s = "_bands_of" then f__bands_of else if s = "Light.__init__" then f_Light___init__ else if s = "Film.__init__" then f_Film___init__ else if s = "Film.nothing" then f_Film_nothing else if s = "_effect_for" then f__effect_for else if s = "_light" then f__light else if s = "Light.__or__" then f_Light___or__ else if s = "Light.__sub__" then f_Light___sub__ else if s = "_followed" then f__followed else if s = "Film.__add__" then f_Film___add__ else if s = "Ink.film" then f_Ink_film else if s = "Light.__and__" then f_Light___and__ else if s = "Light.__bool__" then f_Light___bool__ else if s = "Ink.__init__" then f_Ink___init__ else if s = "Light.numbered" then f_Light_numbered else if s = "Light.__invert__" then f_Light___invert__ else if s = "_law_ink" then f__law_ink else if s = "_law_sum" then f__law_sum else if s = "_law_active" then f__law_active else if s = "_law_step" then f__law_step else if s = "_law_print" then f__law_print else if s = "_law_film" then f__law_film else if s = "Light.__eq__" then f_Light___eq__ else if s = "Film.__eq__" then f_Film___eq__ else if s = "_law_is" then f__law_is else if s = "_law_effect" then f__law_effect else if s = "_writes_nothing" then f__writes_nothing else if s = "Film.idle" then f_Film_idle else if s = "_law_bands" then f__law_bands else if s = "_law_int" then f__law_int else if s = "_law_same_light" then f__law_same_light else if s = "_law_same_effect" then f__law_same_effect else if s = "_law_same_text" then f__law_same_text else if s = "_law_does" then f__law_does else if s = "Light.__contains__" then f_Light___contains__ else if s = "Film.does" then f_Film_does else if s = "_law_refused" then f__law_refused else if s = "law" then f_law else if s = "InvalidBand.__init__" then f_InvalidBand___init__ else if s = "Filter.__init__" then f_Filter___init__ else if s = "Bleach.__init__" then f_Bleach___init__ else f_Opaque___init__, by simp only [reduceIte, String.reduceEq], by simp only [reduceIte, String.reduceEq], by simp only [reduceIte, String.reduceEq], by simp only [reduceIte, String.reduceEq], by simp only [reduceIte, String.reduceEq], by simp only [reduceIte, String.reduceEq], by simp only [reduceIte, String.reduceEq], by simp only [reduceIte, String.reduceEq], by simp only [reduceIte, String.reduceEq], by simp only [reduceIte, String.reduceEq], by simp only [reduceIte, String.reduceEq], by simp only [reduceIte, String.reduceEq], by simp only [reduceIte, String.reduceEq], by simp only [reduceIte, String.reduceEq], by simp only [reduceIte, String.reduceEq], by simp only [reduceIte, String.reduceEq], by simp only [reduceIte, String.reduceEq], by simp only [reduceIte, String.reduceEq], by simp only [reduceIte, String.reduceEq], by simp only [reduceIte, String.reduceEq], by simp only [reduceIte, String.reduceEq], by simp only [reduceIte, String.reduceEq], by simp only [reduceIte, String.reduceEq], by simp only [reduceIte, String.reduceEq], by simp only [reduceIte, String.reduceEq], by simp only [reduceIte, String.reduceEq], by simp only [reduceIte, String.reduceEq], by simp only [reduceIte, String.reduceEq], by simp only [reduceIte, String.reduceEq], by simp only [reduceIte, String.reduceEq], by simp only [reduceIte, String.reduceEq], by simp only [reduceIte, String.reduceEq], by simp only [reduceIte, String.reduceEq], by simp only [reduceIte, String.reduceEq], by simp only [reduceIte, String.reduceEq], by simp only [reduceIte, String.reduceEq], by simp only [reduceIte, String.reduceEq], by simp only [reduceIte, String.reduceEq], by simp only [reduceIte, String.reduceEq], by simp only [reduceIte, String.reduceEq], by simp only [reduceIte, String.reduceEq], by simp only [reduceIte, String.reduceEq], by simp only [reduceIte, String.reduceEq], by simp only [reduceIte, String.reduceEq], by simp only [reduceIte, String.reduceEq], by simp only [reduceIte, String.reduceEq], by simp only [reduceIte, String.reduceEq], by simp only [reduceIte, String.reduceEq], by simp only [reduceIte, String.reduceEq]⟩
  obtain ⟨FD, rfl, rfl, rfl, rfl, rfl, rfl, rfl, rfl, rfl, rfl, rfl, rfl, rfl, rfl, rfl, rfl, rfl, rfl, rfl, rfl, rfl, rfl, rfl, rfl, rfl, rfl, rfl, rfl, rfl, rfl, rfl, rfl, rfl, rfl, rfl, rfl, rfl, rfl, rfl, rfl, rfl, rfl, rfl, rfl, rfl, rfl, rfl, rfl, rfl⟩ : ∃ FD : String → FuncData, FD "_law_box" = d__law_box ∧ FD "_law_draw" = d__law_draw ∧ FD "_law_light" = d__law_light ∧ FD "_law_one" = d__law_one ∧ FD "_law_drawn" = d__law_drawn ∧ FD "_law_near" = d__law_near ∧ FD "check_band" = d_check_band ∧ FD "_bands_of" = d__bands_of ∧ FD "Light.__init__" = d_Light___init__ ∧ FD "Film.__init__" = d_Film___init__ ∧ FD "Film.nothing" = d_Film_nothing ∧ FD "_effect_for" = d__effect_for ∧ FD "_light" = d__light ∧ FD "Light.__or__" = d_Light___or__ ∧ FD "Light.__sub__" = d_Light___sub__ ∧ FD "_followed" = d__followed ∧ FD "Film.__add__" = d_Film___add__ ∧ FD "Ink.film" = d_Ink_film ∧ FD "Light.__and__" = d_Light___and__ ∧ FD "Light.__bool__" = d_Light___bool__ ∧ FD "Ink.__init__" = d_Ink___init__ ∧ FD "Light.numbered" = d_Light_numbered ∧ FD "Light.__invert__" = d_Light___invert__ ∧ FD "_law_ink" = d__law_ink ∧ FD "_law_sum" = d__law_sum ∧ FD "_law_active" = d__law_active ∧ FD "_law_step" = d__law_step ∧ FD "_law_print" = d__law_print ∧ FD "_law_film" = d__law_film ∧ FD "Light.__eq__" = d_Light___eq__ ∧ FD "Film.__eq__" = d_Film___eq__ ∧ FD "_law_is" = d__law_is ∧ FD "_law_effect" = d__law_effect ∧ FD "_writes_nothing" = d__writes_nothing ∧ FD "Film.idle" = d_Film_idle ∧ FD "_law_bands" = d__law_bands ∧ FD "_law_int" = d__law_int ∧ FD "_law_same_light" = d__law_same_light ∧ FD "_law_same_effect" = d__law_same_effect ∧ FD "_law_same_text" = d__law_same_text ∧ FD "_law_does" = d__law_does ∧ FD "Light.__contains__" = d_Light___contains__ ∧ FD "Film.does" = d_Film_does ∧ FD "_law_refused" = d__law_refused ∧ FD "law" = d_law ∧ FD "InvalidBand.__init__" = d_InvalidBand___init__ ∧ FD "Filter.__init__" = d_Filter___init__ ∧ FD "Bleach.__init__" = d_Bleach___init__ ∧ FD "Opaque.__init__" = d_Opaque___init__ := ⟨fun s => if s = "_law_box" then d__law_box else if s = "_law_draw" then d__law_draw else if s = "_law_light" then d__law_light else if s = "_law_one" then d__law_one else if s = "_law_drawn" then d__law_drawn else if s = "_law_near" then d__law_near else if s = "check_band" then d_check_band else if s = "_bands_of" then d__bands_of else if s = "Light.__init__" then d_Light___init__ else if s = "Film.__init__" then d_Film___init__ else if s = "Film.nothing" then d_Film_nothing else if s = "_effect_for" then d__effect_for else if s = "_light" then d__light else if s = "Light.__or__" then d_Light___or__ else if s = "Light.__sub__" then d_Light___sub__ else if s = "_followed" then d__followed else if s = "Film.__add__" then d_Film___add__ else if s = "Ink.film" then d_Ink_film else if s = "Light.__and__" then d_Light___and__ else if s = "Light.__bool__" then d_Light___bool__ else if s = "Ink.__init__" then d_Ink___init__ else if s = "Light.numbered" then d_Light_numbered else if s = "Light.__invert__" then d_Light___invert__ else if s = "_law_ink" then d__law_ink else if s = "_law_sum" then d__law_sum else if s = "_law_active" then d__law_active else if s = "_law_step" then d__law_step else if s = "_law_print" then d__law_print else if s = "_law_film" then d__law_film else if s = "Light.__eq__" then d_Light___eq__ else if s = "Film.__eq__" then d_Film___eq__ else if s = "_law_is" then d__law_is else if s = "_law_effect" then d__law_effect else if s = "_writes_nothing" then d__writes_nothing else if s = "Film.idle" then d_Film_idle else if s = "_law_bands" then d__law_bands else if s = "_law_int" then d__law_int else if s = "_law_same_light" then d__law_same_light else if s = "_law_same_effect" then d__law_same_effect else if s = "_law_same_text" then d__law_same_text else if s = "_law_does" then d__law_does else if s = "Light.__contains__" then d_Light___contains__ else if s = "Film.does" then d_Film_does else if s = "_law_refused" then d__law_refused else if s = "law" then d_law else if s = "InvalidBand.__init__" then d_InvalidBand___init__ else if s = "Filter.__init__" then d_Filter___init__ else if s = "Bleach.__init__" then d_Bleach___init__ else d_Opaque___init__, by simp only [reduceIte, String.reduceEq], by simp only [reduceIte, String.reduceEq], by simp only [reduceIte, String.reduceEq], by simp only [reduceIte, String.reduceEq], by simp only [reduceIte, String.reduceEq], by simp only [reduceIte, String.reduceEq], by simp only [reduceIte, String.reduceEq], by simp only [reduceIte, String.reduceEq], by simp only [reduceIte, String.reduceEq], by simp only [reduceIte, String.reduceEq], by simp only [reduceIte, String.reduceEq], by simp only [reduceIte, String.reduceEq], by simp only [reduceIte, String.reduceEq], by simp only [reduceIte, String.reduceEq], by simp only [reduceIte, String.reduceEq], by simp only [reduceIte, String.reduceEq], by simp only [reduceIte, String.reduceEq], by simp only [reduceIte, String.reduceEq], by simp only [reduceIte, String.reduceEq], by simp only [reduceIte, String.reduceEq], by simp only [reduceIte, String.reduceEq], by simp only [reduceIte, String.reduceEq], by simp only [reduceIte, String.reduceEq], by simp only [reduceIte, String.reduceEq], by simp only [reduceIte, String.reduceEq], by simp only [reduceIte, String.reduceEq], by simp only [reduceIte, String.reduceEq], by simp only [reduceIte, String.reduceEq], by simp only [reduceIte, String.reduceEq], by simp only [reduceIte, String.reduceEq], by simp only [reduceIte, String.reduceEq], by simp only [reduceIte, String.reduceEq], by simp only [reduceIte, String.reduceEq], by simp only [reduceIte, String.reduceEq], by simp only [reduceIte, String.reduceEq], by simp only [reduceIte, String.reduceEq], by simp only [reduceIte, String.reduceEq], by simp only [reduceIte, String.reduceEq], by simp only [reduceIte, String.reduceEq], by simp only [reduceIte, String.reduceEq], by simp only [reduceIte, String.reduceEq], by simp only [reduceIte, String.reduceEq], by simp only [reduceIte, String.reduceEq], by simp only [reduceIte, String.reduceEq], by simp only [reduceIte, String.reduceEq], by simp only [reduceIte, String.reduceEq], by simp only [reduceIte, String.reduceEq], by simp only [reduceIte, String.reduceEq], by simp only [reduceIte, String.reduceEq]⟩
  obtain ⟨C, rfl, rfl, rfl, rfl, rfl, rfl, rfl⟩ : ∃ C : String → Addr, C "Bleach" = C_Bleach ∧ C "Film" = C_Film ∧ C "Filter" = C_Filter ∧ C "Ink" = C_Ink ∧ C "InvalidBand" = C_InvalidBand ∧ C "Light" = C_Light ∧ C "Opaque" = C_Opaque := ⟨fun s => if s = "Bleach" then C_Bleach else if s = "Film" then C_Film else if s = "Filter" then C_Filter else if s = "Ink" then C_Ink else if s = "InvalidBand" then C_InvalidBand else if s = "Light" then C_Light else C_Opaque, by simp only [reduceIte, String.reduceEq], by simp only [reduceIte, String.reduceEq], by simp only [reduceIte, String.reduceEq], by simp only [reduceIte, String.reduceEq], by simp only [reduceIte, String.reduceEq], by simp only [reduceIte, String.reduceEq], by simp only [reduceIte, String.reduceEq]⟩
  subst e
  have T : Tx l.prog K mg C A FD := ⟨F__law_box,
    PySem.W.mg_of X G a__law_box,
    F__law_draw,
    PySem.W.mg_of X G a__law_draw,
    F__law_light,
    PySem.W.mg_of X G a__law_light,
    F__law_one,
    PySem.W.mg_of X G a__law_one,
    F__law_drawn,
    PySem.W.mg_of X G a__law_drawn,
    F__law_near,
    PySem.W.mg_of X G a__law_near,
    F_check_band,
    PySem.W.mg_of X G a_check_band,
    F__bands_of,
    PySem.W.mg_of X G a__bands_of,
    F_Light___init__,
    b_Light___init__,
    F_Film___init__,
    F_Film_nothing,
    F__effect_for,
    PySem.W.mg_of X G a__effect_for,
    F__light,
    PySem.W.mg_of X G a__light,
    F_Light___or__,
    F_Light___sub__,
    F__followed,
    PySem.W.mg_of X G a__followed,
    F_Film___add__,
    F_Ink_film,
    F_Light___and__,
    F_Light___bool__,
    F_Ink___init__,
    F_Light_numbered,
    F_Light___invert__,
    F__law_ink,
    PySem.W.mg_of X G a__law_ink,
    F__law_sum,
    PySem.W.mg_of X G a__law_sum,
    F__law_active,
    PySem.W.mg_of X G a__law_active,
    F__law_step,
    PySem.W.mg_of X G a__law_step,
    F__law_print,
    PySem.W.mg_of X G a__law_print,
    F__law_film,
    PySem.W.mg_of X G a__law_film,
    F_Light___eq__,
    F_Film___eq__,
    F__law_is,
    PySem.W.mg_of X G a__law_is,
    F__law_effect,
    PySem.W.mg_of X G a__law_effect,
    F__writes_nothing,
    PySem.W.mg_of X G a__writes_nothing,
    F_Film_idle,
    F__law_bands,
    PySem.W.mg_of X G a__law_bands,
    F__law_int,
    PySem.W.mg_of X G a__law_int,
    F__law_same_light,
    PySem.W.mg_of X G a__law_same_light,
    F__law_same_effect,
    PySem.W.mg_of X G a__law_same_effect,
    F__law_same_text,
    PySem.W.mg_of X G a__law_same_text,
    F__law_does,
    PySem.W.mg_of X G a__law_does,
    F_Light___contains__,
    F_Film_does,
    F__law_refused,
    PySem.W.mg_of X G a__law_refused,
    F_law,
    PySem.W.mg_of X G a_law,
    PySem.W.mg_of X G aC_Bleach,
    PySem.W.mg_of X G aC_Film,
    PySem.W.mg_of X G aC_Filter,
    PySem.W.mg_of X G aC_Ink,
    PySem.W.mg_of X G aC_InvalidBand,
    PySem.W.mg_of X G aC_Light,
    PySem.W.mg_of X G aC_Opaque,
    ⟨pg_Bleach, hd_Bleach, po_Bleach, sa_Bleach⟩,
    ⟨pg_Film, hd_Film, po_Film, sa_Film⟩,
    ⟨pg_Filter, hd_Filter, po_Filter, sa_Filter⟩,
    ⟨pg_Ink, hd_Ink, po_Ink, sa_Ink⟩,
    ⟨pg_Light, hd_Light, po_Light, sa_Light⟩,
    ⟨pg_Opaque, hd_Opaque, po_Opaque, sa_Opaque⟩,
    n_Bleach_off,
    n_Bleach_on,
    n_Bleach_takes,
    n_Film_bare,
    n_Film_inked,
    n_Filter_off,
    n_Filter_on,
    n_Filter_takes,
    n_Ink_off,
    n_Ink_on,
    n_Ink_takes,
    n_Light_bands,
    n_Light_number,
    n_Opaque_off,
    n_Opaque_on,
    n_Opaque_takes,
    ⟨mk_Bleach, a_Bleach___init__, i_Bleach___init__, kc_Bleach⟩,
    ⟨mk_Film, a_Film___init__, i_Film___init__, kc_Film⟩,
    ⟨mk_Filter, a_Filter___init__, i_Filter___init__, kc_Filter⟩,
    ⟨mk_Ink, a_Ink___init__, i_Ink___init__, kc_Ink⟩,
    ⟨mk_Light, a_Light___init__, i_Light___init__, kc_Light⟩,
    ⟨mk_Opaque, a_Opaque___init__, i_Opaque___init__, kc_Opaque⟩,
    ⟨am_Bleach_film, i_Ink_film, k_Ink_film⟩,
    ⟨a_Film_does, i_Film_does, k_Film_does⟩,
    ⟨am_Filter_film, i_Ink_film, k_Ink_film⟩,
    ⟨a_Ink_film, i_Ink_film, k_Ink_film⟩,
    ⟨am_Opaque_film, i_Ink_film, k_Ink_film⟩,
    ⟨rd_Film, ga_Film⟩,
    ⟨rd_Ink, ga_Ink⟩,
    ⟨rd_Light, ga_Light⟩,
    ⟨_, a_Film_nothing, ⟨_, r1_Film_nothing⟩, i_Film_nothing⟩,
    ⟨_, a_Light_numbered, ⟨_, r1_Light_numbered⟩, i_Light_numbered⟩,
    ⟨_, v_Light_BANDS, ⟨_, rfl⟩⟩,
    ⟨_, ⟨v_Ink_TAKES, rfl⟩, .inr ⟨_, _, _, lt_Ink_TAKES, rfl, rfl, (show (3 : Nat) ≤ PySem.sizeLine by rw [PySem.sizeLine_eq]; decide), (.cons ⟨_, rfl⟩ (.cons ⟨_, rfl⟩ (.cons ⟨_, rfl⟩ .nil)))⟩⟩,
    ⟨_, PySem.W.mg_of X G co_LIGHTS, ⟨_, rfl⟩⟩,
    sf_Film,
    a_Film___add__,
    i_Film___add__,
    sf_Film,
    a_Film___eq__,
    i_Film___eq__,
    sf_Light,
    a_Light___and__,
    i_Light___and__,
    sf_Light,
    a_Light___bool__,
    i_Light___bool__,
    sf_Light,
    a_Light___contains__,
    i_Light___contains__,
    sf_Light,
    a_Light___eq__,
    i_Light___eq__,
    sf_Light,
    a_Light___invert__,
    i_Light___invert__,
    sf_Light,
    a_Light___or__,
    i_Light___or__,
    sf_Light,
    a_Light___sub__,
    i_Light___sub__,
    nf_Film_own_Film,
    nf_Film_ty_list,
    ⟨⟨pg_Film, hd_Film, po_Film, sa_Film⟩, ica_Film, icm_Film⟩,
    ⟨⟨pg_Light, hd_Light, po_Light, sa_Light⟩, ica_Light, icm_Light⟩,
    ⟨ikn, ikt⟩,
    it_own_Light_own_Light,
    it_own_Film_own_Film,
    it_ty_list_own_Film,
    it_ty_tuple_ty_tuple,
    it_ty_int_ty_int,
    it_ty_int_ty_bool,
    it_ty_bool_ty_bool,
    it_ty_str_ty_str,
    PySem.W.mg_none_of X G no_all,
    PySem.W.mg_none_of X G no_bool,
    PySem.W.mg_none_of X G no_int,
    PySem.W.mg_none_of X G no_isinstance,
    PySem.W.mg_none_of X G no_len,
    PySem.W.mg_none_of X G no_list,
    PySem.W.mg_none_of X G no_range,
    PySem.W.mg_none_of X G no_str,
    PySem.W.mg_none_of X G no_super,
    PySem.W.mg_none_of X G no_tuple,
    ⟨⟨cc_InvalidBand___init__, cd_InvalidBand___init__, _, _, _, _, _, _, e_InvalidBand___init__, l_InvalidBand___init__, c_InvalidBand___init__, ⟨rfl, ⟨_, _, _, _, _, l_InvalidBand___init__, rfl, rfl⟩, ⟨_, _, _, _, _, _, lc_InvalidBand___init__, vf_InvalidBand___init__, pf_InvalidBand___init__⟩, ⟨_, _, _, ce_InvalidBand___init__⟩, clsIn_of ⟨⟨_, _, _, _, _, _, _, _, _, _, _, _, _, _, _, ex_InvalidBand___init__, rv_InvalidBand___init__⟩, sa_InvalidBand___init__, xc_InvalidBand___init__, tc_InvalidBand___init__, kc_InvalidBand___init__⟩, no_super, (show List.lookup ("super" : Str) (defScope s_InvalidBand___init__).names = some NameKind.globalImplicit by decide +kernel), (show List.lookup ("__class__" : Str) (defScope s_InvalidBand___init__).names = some NameKind.free by decide +kernel), (show List.lookup ("self" : Str) (defScope s_InvalidBand___init__).names = some NameKind.local by decide +kernel), (show (defScope s_InvalidBand___init__).kind = ScopeKind.function by decide +kernel), topS⟩⟩, ⟨⟨_, _, _, _, _, _, _, _, _, _, _, _, _, _, _, ex_InvalidBand___init__, rv_InvalidBand___init__⟩, sa_InvalidBand___init__, xc_InvalidBand___init__, tc_InvalidBand___init__, kc_InvalidBand___init__⟩, a_InvalidBand___init__, tf_InvalidBand___init__, hst, si_InvalidBand___init__, su_InvalidBand___init__, PySem.W.mg_none_of X G no_super, hn_InvalidBand___init__, (by rw [e_InvalidBand___init__]; exact Binds.all (fun us hl => match us, hl with | [_, _], _ => rfl)), ⟨xg_InvalidBand___init__, xh_InvalidBand___init__, xc_InvalidBand___init__, xd_InvalidBand___init__⟩⟩,
    ⟨⟨cc_Filter___init__, cd_Filter___init__, _, _, _, _, _, _, _, _, _, e_Filter___init__, (by rw [e_Filter___init__]; exact l_Filter___init__), c_Filter___init__, ⟨rfl, ⟨_, _, _, _, _, l_Filter___init__, rfl, rfl⟩, ⟨_, _, _, _, _, _, lc_Filter___init__, vf_Filter___init__, pf_Filter___init__⟩, ⟨_, _, _, ce_Filter___init__⟩, Option.isSome_iff_exists.mp ik_Filter___init__, no_super, (show List.lookup ("super" : Str) (defScope s_Filter___init__).names = some NameKind.globalImplicit by decide +kernel), (show List.lookup ("__class__" : Str) (defScope s_Filter___init__).names = some NameKind.free by decide +kernel), (show List.lookup ("self" : Str) (defScope s_Filter___init__).names = some NameKind.local by decide +kernel), (show (defScope s_Filter___init__).kind = ScopeKind.function by decide +kernel), topS⟩⟩, hst, si_Filter___init__, su_Filter___init__, PySem.W.mg_none_of X G no_super, t2_Ink___init__, fi_Ink___init__, ik_Filter___init__⟩,
    (by rw [e_Filter___init__]; exact ⟨fun s us ws _ h1 h2 => .of_eq (match us, ws, h1, h2 with | [_, _], [_], _, _ => rfl), fun r1 r2 => r1.append r2⟩),
    ⟨⟨cc_Bleach___init__, cd_Bleach___init__, _, _, _, _, _, _, _, _, _, e_Bleach___init__, (by rw [e_Bleach___init__]; exact l_Bleach___init__), c_Bleach___init__, ⟨rfl, ⟨_, _, _, _, _, l_Bleach___init__, rfl, rfl⟩, ⟨_, _, _, _, _, _, lc_Bleach___init__, vf_Bleach___init__, pf_Bleach___init__⟩, ⟨_, _, _, ce_Bleach___init__⟩, Option.isSome_iff_exists.mp ik_Bleach___init__, no_super, (show List.lookup ("super" : Str) (defScope s_Bleach___init__).names = some NameKind.globalImplicit by decide +kernel), (show List.lookup ("__class__" : Str) (defScope s_Bleach___init__).names = some NameKind.free by decide +kernel), (show List.lookup ("self" : Str) (defScope s_Bleach___init__).names = some NameKind.local by decide +kernel), (show (defScope s_Bleach___init__).kind = ScopeKind.function by decide +kernel), topS⟩⟩, hst, si_Bleach___init__, su_Bleach___init__, PySem.W.mg_none_of X G no_super, t2_Ink___init__, fi_Ink___init__, ik_Bleach___init__⟩,
    (by rw [e_Bleach___init__]; exact ⟨fun s us ws _ h1 h2 => .of_eq (match us, ws, h1, h2 with | [_, _], [_], _, _ => rfl), fun r1 r2 => r1.append r2⟩),
    ⟨⟨cc_Opaque___init__, cd_Opaque___init__, _, _, _, _, _, _, _, _, _, e_Opaque___init__, (by rw [e_Opaque___init__]; exact l_Opaque___init__), c_Opaque___init__, ⟨rfl, ⟨_, _, _, _, _, l_Opaque___init__, rfl, rfl⟩, ⟨_, _, _, _, _, _, lc_Opaque___init__, vf_Opaque___init__, pf_Opaque___init__⟩, ⟨_, _, _, ce_Opaque___init__⟩, Option.isSome_iff_exists.mp ik_Opaque___init__, no_super, (show List.lookup ("super" : Str) (defScope s_Opaque___init__).names = some NameKind.globalImplicit by decide +kernel), (show List.lookup ("__class__" : Str) (defScope s_Opaque___init__).names = some NameKind.free by decide +kernel), (show List.lookup ("self" : Str) (defScope s_Opaque___init__).names = some NameKind.local by decide +kernel), (show (defScope s_Opaque___init__).kind = ScopeKind.function by decide +kernel), topS⟩⟩, hst, si_Opaque___init__, su_Opaque___init__, PySem.W.mg_none_of X G no_super, t2_Ink___init__, fi_Ink___init__, ik_Opaque___init__⟩,
    (by rw [e_Opaque___init__]; exact ⟨fun s us ws _ h1 h2 => .of_eq (match us, ws, h1, h2 with | [_, _], [_], _, _ => rfl), fun r1 r2 => r1.append r2⟩),
    xm_InvalidBand_InvalidBand,
    ⟨_, a_Film_idle, pg_Film_idle, pt_Film_idle, _, r1_Film_idle⟩,
    bd_Film_does⟩
  exact ⟨_, b_law, fun base _ _ => (ok_law T).imp (spd_law hmath)⟩
end
end K07

set_option Elab.async false
set_option linter.all false
set_option maxRecDepth 100000
set_option maxHeartbeats 4000000
namespace K07
open PySem DL
/-- the law's box: the cells, the place, the state -/
def bx (cs : List Int) (p : Nat) (s : Int) : GS := [GO.lst (cs.map fun x => .d (.int x)), GO.lst [.o 0, .d (.int p), .d (.int s)]]
theorem at0 {α : Type} (a b c : α) : L2.atI [a, b, c] 0 = some a := rfl
theorem at1 {α : Type} (a b c : α) : L2.atI [a, b, c] 1 = some b := rfl
theorem at2 {α : Type} (a b c : α) : L2.atI [a, b, c] 2 = some c := rfl
theorem ix1 : L2.ixN (0 + 1 + 1 + 1) 1 = some 1 := rfl
theorem ix2 : L2.ixN (0 + 1 + 1 + 1) 2 = some 2 := rfl
theorem atc {cs : List Int} {p : Nat} (h : p < cs.length) : L2.atI (cs.map fun x => EV.d (.int x)) (p : Int) = some (.d (.int cs[p])) := L2.atI_nat (by simp [h])
theorem cdiv {i m : Int} (h0 : 0 < m) (hm : m < 2 ^ 200) : cDiv i m = true := by unfold cDiv; rw [decide_eq_true h0, decide_eq_true hm]; rfl
theorem cpos {i m : Int} (h0 : 0 < m) : cPos i m = true := by unfold cPos; rw [decide_eq_true h0]
theorem cpow : cPow 10 18 = true := by decide +kernel
theorem cmul {i j : Int} (h : -(2 ^ 64) < j ∧ j < 2 ^ 64) : cMul i j = true := by unfold cMul; rw [decide_eq_true (p := -(2 ^ 64) < j ∧ j < 2 ^ 64) h, Bool.or_true]
theorem e18 : Int.toNat 18 = 18 := rfl
theorem ixc {cs : List Int} {p : Nat} (h : p < cs.length) : L2.ixN cs.length (p : Int) = some p := by
  unfold L2.ixN
  rw [if_pos (by omega), if_pos (by omega)]
  simp
theorem set_c {cs : List Int} {p : Nat} {v : Int} : (cs.map fun x => EV.d (.int x)).set p (EV.d (.int v)) = (cs.set p v).map fun x => EV.d (.int x) := by rw [List.map_set]
theorem cm1 {i : Int} : cMul i 48271 = true := cmul ⟨by decide, by decide⟩
theorem cm2 {i : Int} : cMul i 69621 = true := cmul ⟨by decide, by decide⟩
theorem cm3 {i : Int} : cMul i 16807 = true := cmul ⟨by decide, by decide⟩
theorem cm4 {i j : Int} : cMul i (j % 2147483647) = true := cmul ⟨by have := Int.emod_nonneg j (b := 2147483647) (by decide); omega, by have := Int.emod_lt_of_pos j (b := 2147483647) (by decide); omega⟩
theorem cp1 {i : Int} : cPos i 2147483629 = true := cpos (by decide)
theorem cp2 {i : Int} : cPos i 2147483647 = true := cpos (by decide)
theorem cp3 {i : Int} : cPos i 998244353 = true := cpos (by decide)
theorem cd5 {i : Int} : cDiv i 5 = true := cdiv (by decide) (by decide)
def stN (s c p : Int) : Int := (s * 48271 + c % 2147483629 * 69621 + p + 1) % 2147483647
def ouN (st m : Int) : Int := (st * st + st * 16807) % 998244353 / 5 % m
theorem cm5 {i s c p : Int} : cMul i (stN s c p) = true := cm4
theorem ge_draw (cs : List Int) (p : Nat) (s m : Int) (h0 : 0 < m) (hm : m < 2 ^ 200) : ∃ (v : Int) (cs' : List Int) (p' : Nat) (s' : Int), g__law_draw [.o 1, .d (.int m)] (bx cs p s) = .ok (.d (.int v)) (bx cs' p' s') ∧ 0 ≤ v ∧ v < m := by
  by_cases hc : cs = []
  · subst hc
    exact ⟨0, [], p, s, by kernel_rfl, by omega, h0⟩
  · have hl : decide ((cs.length : Int) = 0) = false := decide_eq_false fun z => hc (List.length_eq_zero_iff.mp (by omega))
    have hq : ∀ i, cPos i m = true := fun i => cpos h0
    have hd : ∀ i, cDiv i m = true := fun i => cdiv h0 hm
    by_cases hp : p < cs.length
    · have hpi : decide ((p : Int) < (cs.length : Int)) = true := decide_eq_true (by omega)
      have ha := atc hp
      have hx := ixc hp
      by_cases hb : (10 : Int) ^ 18 ≤ cs[p]
      · refine ⟨cs[p] % m, cs.set p (cs[p] / m), p, s, ?_, Int.emod_nonneg _ (by omega), Int.emod_lt_of_pos _ h0⟩
        have hb' : decide ((10 : Int) ^ 18 ≤ cs[p]) = true := decide_eq_true hb
        generalize cs[p] = c at *
        simp only [g__law_draw, m__law_draw, runB, env0, bx, List.map, List.length, List.replicate, List.append, List.cons_append, List.nil_append, sSeq, sSet, sIf, sRet, sNil, sSub, seqO, ofE, Out.bind, eOp, eVar, eC, aNil, aCons, eFN, fIx, fLen, bOf, isB, bAnd, lift, retO, pure2, gII, gIC, gEq, gAdd,
          fEq, fLt, fGe, fPow, fDiv, fMod, fMul, fAdd, fInt, pureN, gInt, datas, Option.map, Option.bind, List.set, List.getElem?_cons_zero, List.getElem?_cons_succ, List.length_map, at0, at1, at2, ix1, ix2, cpow, e18, if_true, if_false, reduceIte, Bool.false_eq_true, Nat.succ_eq_add_one, Nat.sub_zero, hl, hpi, ha, hx, hb', hq, hd, set_c]
      · have hb' : decide ((10 : Int) ^ 18 ≤ cs[p]) = false := decide_eq_false hb
        generalize cs[p] = c at *
        refine ⟨ouN (stN s c p) m, cs, p + 1, stN s c p, ?_, Int.emod_nonneg _ (Int.ne_of_gt h0), Int.emod_lt_of_pos _ h0⟩
        · simp only [g__law_draw, m__law_draw, runB, env0, bx, List.map, List.length, List.replicate, List.append, List.cons_append, List.nil_append, sSeq, sSet, sIf, sRet, sNil, sSub, seqO, ofE, Out.bind, eOp, eVar, eC, aNil, aCons, eFN, fIx, fLen, bOf, isB, bAnd, lift, retO, pure2, gII, gIC, gEq, gAdd,
          fEq, fLt, fGe, fPow, fDiv, fMod, fMul, fAdd, fInt, pureN, gInt, datas, Option.map, Option.bind, List.set, List.getElem?_cons_zero, List.getElem?_cons_succ, List.length_map, at0, at1, at2, ix1, ix2, cpow, e18, if_true, if_false, reduceIte, Bool.false_eq_true, Nat.succ_eq_add_one, Nat.sub_zero, hl, hpi, ha, hx, hb', hq, hd, set_c, cm1, cm2, cm3, cm4, cp1, cp2, cp3, cd5, Int.natCast_add, Int.natCast_one]
          rfl
    · have hpi : decide ((p : Int) < (cs.length : Int)) = false := decide_eq_false (by omega)
      refine ⟨ouN (stN s 0 p) m, cs, p + 1, stN s 0 p, ?_, Int.emod_nonneg _ (Int.ne_of_gt h0), Int.emod_lt_of_pos _ h0⟩
      · simp only [g__law_draw, m__law_draw, runB, env0, bx, List.map, List.length, List.replicate, List.append, List.cons_append, List.nil_append, sSeq, sSet, sIf, sRet, sNil, sSub, seqO, ofE, Out.bind, eOp, eVar, eC, aNil, aCons, eFN, fIx, fLen, bOf, isB, bAnd, lift, retO, pure2, gII, gIC, gEq, gAdd,
          fEq, fLt, fGe, fPow, fDiv, fMod, fMul, fAdd, fInt, pureN, gInt, datas, Option.map, Option.bind, List.set, List.getElem?_cons_zero, List.getElem?_cons_succ, List.length_map, at0, at1, at2, ix1, ix2, cpow, e18, if_true, if_false, reduceIte, Bool.false_eq_true, Nat.succ_eq_add_one, Nat.sub_zero, hl, hpi, hq, hd, set_c, cm1, cm2, cm3, cm4, cp1, cp2, cp3, cd5, Int.natCast_add, Int.natCast_one]
        rfl
/-! ### the box -/
theorem lc_int (s0 : Sl) : ∀ (ns : List Int) (G : GS), lcL 1 bYes (eFN fInt (aCons (eVar 1) aNil)) (ns.map .int) [s0, .no] G = .ok (ns.map .int) G
  | [], G => rfl
  | n :: ns, G => by
    have h := lc_int s0 ns G
    simp only [List.map]
    unfold lcL
    have e1 : eFN fInt (aCons (eVar 1) aNil) [s0, .ev (.d (.int n))] G = .ok (.d (.int n)) G := rfl
    simp only [bYes, bindN, List.set, if_true, e1, h]
theorem box_ok (ns : List Int) (h : ns.length ≤ 63) : g__law_box [scr ns] [] = .ok (.o 1) (bx ns 0 1) := by
  have hc : cutL (ns.map DL.D.int) none (some 63) = ns.map DL.D.int := by
    unfold cutL
    rw [show HT.sIx (ns.map DL.D.int).length 0 none = 0 from rfl, show HT.sIx (ns.map DL.D.int).length (ns.map DL.D.int).length (some 63) = min 63 (ns.map DL.D.int).length from rfl, List.drop_zero, List.length_map, Nat.min_eq_right h, Nat.sub_zero, List.take_of_length_le (by simp)]
  have hl : (ns.map DL.D.int).length ≤ lstMax := by rw [List.length_map]; exact Nat.le_trans h (by decide)
  have h3 : (3 : Nat) ≤ lstMax := by decide
  have e : bx ns 0 1 = [GO.lst ((ns.map DL.D.int).map .d), GO.lst [.o 0, .d (.int 0), .d (.int 1)]] := by
    unfold bx
    rw [List.map_map]
    rfl
  have z : eLcO 1 [1] (lSeq (eSl (eVar 0) oNone (oSome (eC (.int 63))))) bYes (eFN fInt (aCons (eVar 1) aNil)) (env0 2 [scr ns]) [] = .ok (.o 0) [GO.lst ((ns.map DL.D.int).map .d)] := by
    have w : eSl (eVar 0) oNone (oSome (eC (.int 63))) (env0 2 [scr ns]) [] = .ok (.d (.lst (cutL (ns.map DL.D.int) none (some 63)))) [] := rfl
    unfold eLcO eLcF lSeq
    rw [w, hc]
    show bindN (lcL 1 bYes (eFN fInt (aCons (eVar 1) aNil)) (ns.map .int) [.ev (scr ns), .no] []) _ = _
    rw [lc_int]
    show (if (ns.map DL.D.int).length ≤ lstMax then _ else _) = _
    rw [if_pos hl]
    rfl
  have z2 : aCons (eLcO 1 [1] (lSeq (eSl (eVar 0) oNone (oSome (eC (.int 63))))) bYes (eFN fInt (aCons (eVar 1) aNil))) (aCons (eC (.int 0)) (aCons (eC (.int 1)) aNil)) (env0 2 [scr ns]) [] = .ok [.o 0, .d (.int 0), .d (.int 1)] [GO.lst ((ns.map DL.D.int).map .d)] := by
    show Out.bind (eLcO 1 [1] (lSeq (eSl (eVar 0) oNone (oSome (eC (.int 63))))) bYes (eFN fInt (aCons (eVar 1) aNil)) (env0 2 [scr ns]) []) _ = _
    rw [z]
    rfl
  have z3 : eObj (aCons (eLcO 1 [1] (lSeq (eSl (eVar 0) oNone (oSome (eC (.int 63))))) bYes (eFN fInt (aCons (eVar 1) aNil))) (aCons (eC (.int 0)) (aCons (eC (.int 1)) aNil))) (env0 2 [scr ns]) [] = .ok (.o 1) (bx ns 0 1) := by
    unfold eObj
    rw [z2, e]
    exact if_pos (e := Out.st) h3
  show retO (ofE (eObj (aCons (eLcO 1 [1] (lSeq (eSl (eVar 0) oNone (oSome (eC (.int 63))))) bYes (eFN fInt (aCons (eVar 1) aNil))) (aCons (eC (.int 0)) (aCons (eC (.int 1)) aNil))) (env0 2 [scr ns]) []) _ _) = _
  rw [z3]
  rfl
/-! ### lights -/
def bandsD (n : Nat) : List DL.D := ((List.range 6).filter fun k => n.testBit k).map fun (k : Nat) => DL.D.int (k : Int)
def lightD (n : Nat) : DL.D := .ins "Light" [.tup (bandsD n), .int n]
theorem of_tab {α : Type} {N : Nat} {f g : Nat → α} (h : (List.range N).map f = (List.range N).map g) {n : Nat} (hn : n < N) : f n = g n := by
  have z := congrArg (fun l : List α => l[n]?) h
  simpa [hn] using z
theorem mk_tab : ∀ G, (List.range 64).map (fun (n : Nat) => g__light [.d (.int n)] G) = (List.range 64).map fun (n : Nat) => .ok (.d (lightD n)) G := fun G => by kernel_rfl
theorem num_tab : ∀ G, (List.range 64).map (fun (n : Nat) => g_Light_numbered [.d (.cls "Light"), .d (.int n)] G) = (List.range 64).map fun (n : Nat) => .ok (.d (lightD n)) G := fun G => by kernel_rfl
theorem same_tab : ∀ G, (List.range 64).map (fun (n : Nat) => g__law_same_light [.d (lightD n), .d (.int n)] G) = (List.range 64).map fun (n : Nat) => .ok (.d (.bl true)) G := fun G => by kernel_rfl
theorem mk_ok {n : Nat} (h : n < 64) (G : GS) : g__light [.d (.int n)] G = .ok (.d (lightD n)) G := of_tab (mk_tab G) h
theorem num_ok {n : Nat} (h : n < 64) (G : GS) : g_Light_numbered [.d (.cls "Light"), .d (.int n)] G = .ok (.d (lightD n)) G := of_tab (num_tab G) h
theorem same_ok {n : Nat} (h : n < 64) (G : GS) : g__law_same_light [.d (lightD n), .d (.int n)] G = .ok (.d (.bl true)) G := of_tab (same_tab G) h
theorem bit_tab : ∀ a, a < 64 → ∀ b, b < 64 → Builtin.bitOr (a : Nat) (b : Nat) = ((a ||| b : Nat) : Int) ∧ Builtin.bitAnd (a : Nat) (b : Nat) = ((a &&& b : Nat) : Int) ∧ Builtin.bitXor (a : Nat) (b : Nat) = ((a ^^^ b : Nat) : Int)
    ∧ Builtin.bitAnd (a : Nat) (Builtin.bitNot (b : Nat)) = ((a &&& (63 - b) : Nat) : Int) ∧ Builtin.bitAnd (a : Nat) ((63 : Int) - (b : Nat)) = ((a &&& (63 - b) : Nat) : Int) ∧ (a ||| b) < 64 ∧ (a &&& b) < 64 ∧ (a ^^^ b) < 64 ∧ (a &&& (63 - b)) < 64 := by decide +kernel
end K07

set_option Elab.async false
set_option linter.all false
set_option maxRecDepth 100000
set_option maxHeartbeats 4000000
namespace K07
open PySem DL
theorem or_ok {a b : Nat} (ha : a < 64) (hb : b < 64) (G : GS) : g_Light___or__ [.d (lightD a), .d (lightD b)] G = .ok (.d (lightD (a ||| b))) G := by
  have h : g_Light___or__ [.d (lightD a), .d (lightD b)] G = retO (ofE (g__light [.d (.int (Builtin.bitOr (a : Nat) (b : Nat)))] G) (env0 2 [.d (lightD a), .d (lightD b)]) fun e G1 => .rt e G1) := by kernel_rfl
  obtain ⟨h1, h2, h3, h4, h5, l1, l2, l3, l4⟩ := bit_tab a ha b hb
  rw [h, h1, mk_ok l1]
  rfl
theorem and_ok {a b : Nat} (ha : a < 64) (hb : b < 64) (G : GS) : g_Light___and__ [.d (lightD a), .d (lightD b)] G = .ok (.d (lightD (a &&& b))) G := by
  have h : g_Light___and__ [.d (lightD a), .d (lightD b)] G = retO (ofE (g__light [.d (.int (Builtin.bitAnd (a : Nat) (b : Nat)))] G) (env0 2 [.d (lightD a), .d (lightD b)]) fun e G1 => .rt e G1) := by kernel_rfl
  obtain ⟨h1, h2, h3, h4, h5, l1, l2, l3, l4⟩ := bit_tab a ha b hb
  rw [h, h2, mk_ok l2]
  rfl
theorem sub_ok {a b : Nat} (ha : a < 64) (hb : b < 64) (G : GS) : g_Light___sub__ [.d (lightD a), .d (lightD b)] G = .ok (.d (lightD (a &&& (63 - b)))) G := by
  have h : g_Light___sub__ [.d (lightD a), .d (lightD b)] G = retO (ofE (g__light [.d (.int (Builtin.bitAnd (a : Nat) (Builtin.bitNot (b : Nat))))] G) (env0 2 [.d (lightD a), .d (lightD b)]) fun e G1 => .rt e G1) := by kernel_rfl
  obtain ⟨h1, h2, h3, h4, h5, l1, l2, l3, l4⟩ := bit_tab a ha b hb
  rw [h, h4, mk_ok l4]
  rfl
theorem inv_ok {a : Nat} (ha : a < 64) (G : GS) : g_Light___invert__ [.d (lightD a)] G = .ok (.d (lightD (63 - a))) G := by
  have h : g_Light___invert__ [.d (lightD a)] G = retO (ofE (g__light [.d (.int (64 - 1 - (a : Int)))] G) (env0 1 [.d (lightD a)]) fun e G1 => .rt e G1) := by kernel_rfl
  have e : (64 - 1 - (a : Int)) = ((63 - a : Nat) : Int) := by omega
  rw [h, e, mk_ok (by omega)]
  rfl
section
variable {G : GS}
theorem op2 {f : F2} {i j : Nat} {ei ej : EV} {r : DL.D} {env : En} (hi : env[i]? = some (.ev ei)) (hj : env[j]? = some (.ev ej)) (h : f ei ej G = some (.d r, G)) : eOp f (eVar i) (eVar j) env G = .ok (.d r) G := by
  unfold eOp eVar
  rw [hi]
  show Out.bind (match env[j]? with | some (.ev e) => .ok e G | _ => .st) _ = _
  rw [hj]
  show lift (f ei ej G) = _
  rw [h]
  rfl
theorem own2 {f : F2} {g : FM} {n m r : Nat} (hf : f (.d (lightD n)) (.d (lightD m)) G = none) (h : g [.d (lightD n), .d (lightD m)] G = .ok (.d (lightD r)) G) : alt2 f (fOwn "Light" (arN 2) g) (.d (lightD n)) (.d (lightD m)) G = some (.d (lightD r), G) := by
  unfold alt2
  rw [hf]
  show (if "Light" = "Light" ∧ "Light" = "Light" ∧ arN 2 2 = true then toOpt (g [.d (lightD n), .d (lightD m)] G) else none) = _
  rw [if_pos ⟨rfl, rfl, rfl⟩, h]
  rfl
theorem inv1 {g : FM} {i n r : Nat} {env : En} (hi : env[i]? = some (.ev (.d (lightD n)))) (h : g [.d (lightD n)] G = .ok (.d (lightD r)) G) : eUn (alt1 fInv (fOwn1 "Light" (arN 1) g)) (eVar i) env G = .ok (.d (lightD r)) G := by
  unfold eUn eVar
  rw [hi]
  show lift (if "Light" = "Light" ∧ arN 1 1 = true then toOpt (g [.d (lightD n)] G) else none) = _
  rw [if_pos ⟨rfl, rfl⟩, h]
  rfl
end
theorem sqn {a b : SM} {env env' : En} {G G' : GS} (h : a env G = .nx env' G') : sSeq a b env G = b env' G' := by unfold sSeq; rw [h]; rfl
theorem sqr {a b : SM} {env : En} {G G' : GS} {e : EV} (h : a env G = .rt e G') : sSeq a b env G = .rt e G' := by unfold sSeq; rw [h]; rfl
theorem setn {i : Nat} {m : EM} {env : En} {G G' : GS} {e : EV} (h : m env G = .ok e G') : sSet i m env G = .nx (env.set i (.ev e)) G' := by unfold sSet; rw [h]; rfl
theorem ift {t : BM} {a b : SM} {env : En} {G G' : GS} {k : Bool} (h : t env G = .ok k G') : sIf t a b env G = if k = true then a env G' else b env G' := by unfold sIf; rw [h]; rfl
theorem ifn {t : BM} {a : SM} {env : En} {G G' : GS} (h : t env G = .ok false G') : sIf t a sNil env G = .nx env G' := by unfold sIf; rw [h]; rfl
theorem nat_of {v m : Int} (h0 : 0 ≤ v) (h1 : v < m) : ∃ n : Nat, v = (n : Int) ∧ (n : Int) < m := ⟨v.toNat, by omega, by omega⟩
theorem acons1 {m : EM} {env : En} {G G' : GS} {e : EV} (h : m env G = .ok e G') : aCons m aNil env G = .ok [e] G' := by unfold aCons; rw [h]; rfl
theorem op_eq {f : F2} {a b : EM} {env : En} {G G1 G2 : GS} {x y : EV} (h1 : a env G = .ok x G1) (h2 : b env G1 = .ok y G2) : eOp f a b env G = lift (f x y G2) := by unfold eOp; rw [h1]; show Out.bind (b env G1) _ = _; rw [h2]; rfl
theorem call_eq {n : Ar} {g : FM} {r : AM} {env : En} {G G1 : GS} {xs : List EV} (h : r env G = .ok xs G1) (hl : n xs.length = true) : eCall n g r env G = g xs G1 := by unfold eCall; rw [h]; exact if_pos hl
theorem not_eq {m : EM} {env : En} {G G1 : GS} {k : Bool} (h : m env G = .ok (.d (.bl k)) G1) : bNot (bOf truE m) env G = .ok (!k) G1 := by unfold bNot bOf; rw [h]; rfl
theorem lc_cons {k : Nat} {te : EM} {d : DL.D} {ds : List DL.D} {env : En} {G G1 G2 : GS} {y : DL.D} {ys : List DL.D} (h : te (env.set k (.ev (.d d))) G = .ok (.d y) G1) (h2 : lcL k bYes te ds env G1 = .ok ys G2) : lcL k bYes te (d :: ds) env G = .ok (y :: ys) G2 := by
  unfold lcL
  simp only [bYes, bindN, if_true]
  rw [h]
  simp only
  rw [h2]
theorem orn {a b : BM} {env : En} {G : GS} (h1 : a env G = .ok false G) (h2 : b env G = .ok false G) : bOr a b env G = .ok false G := by unfold bOr; rw [h1]; exact h2
theorem acons_eq {m : EM} {r : AM} {env : En} {G G1 G2 : GS} {x : EV} {xs : List EV} (h1 : m env G = .ok x G1) (h2 : r env G1 = .ok xs G2) : aCons m r env G = .ok (x :: xs) G2 := by unfold aCons; rw [h1]; show Out.bind (r env G1) _ = _; rw [h2]; rfl
theorem aapp_eq {n k : Nat} {a b : AM} {env : En} {G G1 G2 : GS} {xs ys : List EV} (h1 : a env G = .ok xs G1) (h2 : b env G1 = .ok ys G2) (hn : xs.length = n) (hk : ys.length = k) : aApp n k a b env G = .ok (xs ++ ys) G2 := by unfold aApp; rw [h1]; show Out.bind (b env G1) _ = _; rw [h2]; exact if_pos ⟨hn, hk⟩
theorem make_eq {cl : String} {A : Ar} {g : IM} {r : AM} {env : En} {G G1 G2 : GS} {xs : List EV} {fs : List DL.D} (h : r env G = .ok xs G1) (hA : A xs.length = true) (hg : g xs G1 = .ok fs G2) : eMake cl A g r env G = .ok (.d (.ins cl fs)) G2 := by unfold eMake; rw [h]; show (if A xs.length = true then mkO cl (g xs G1) else .st) = _; rw [if_pos hA, hg]; rfl
theorem cmeth_eq {cl : String} {A : Ar} {g : FM} {r : AM} {env : En} {G G1 : GS} {xs : List EV} (h : r env G = .ok xs G1) (hA : A (xs.length + 1) = true) : eCMeth cl A g r env G = g (.d (.cls cl) :: xs) G1 := by unfold eCMeth; rw [h]; exact if_pos hA
theorem sret_eq {m : EM} {env : En} {G G1 : GS} {e : EV} (h : m env G = .ok e G1) : sRet m env G = .rt e G1 := by unfold sRet; rw [h]; rfl
theorem runS_eq {n : Nat} {cl : String} {mr : AM} {A : Ar} {g : IM} {es xs : List EV} {G G1 : GS} (h : mr (envI n cl es) G = .ok xs G1) (hA : A xs.length = true) : runS n cl mr A g es G = g xs G1 := by unfold runS; rw [h]; exact if_pos hA
/-! ### inks -/
def whS : Nat → Str | 0 => "any" | 1 => "bare" | _ => "inked"
def kdS : Nat → Str | 0 => "filter" | 1 => "bleach" | 2 => "opaque" | _ => "ink"
def clS : Nat → String | 0 => "Filter" | 1 => "Bleach" | 2 => "Opaque" | _ => "Ink"
theorem three {k : Nat} (h : k < 3) : k = 0 ∨ k = 1 ∨ k = 2 := by omega
theorem four {k : Nat} (h : k < 4) : k = 0 ∨ k = 1 ∨ k = 2 ∨ k = 3 := by omega
section
variable {a b k : Nat}
theorem initInk (ha : a < 64) (hb : b < 64) (h0 : a &&& b = 0) (hk : k < 3) (G : GS) : g_Ink___init___for_Ink [.d (lightD a), .d (lightD b), .d (.str (whS k))] G = .ok [lightD a, lightD b, .str (whS k)] G := by
  have e : sSet 4 (eOp (alt2 (fAnd) (fOwn "Light" (arN 2) g_Light___and__)) (eVar 1) (eVar 2)) (envI 5 "Ink" [.d (lightD a), .d (lightD b), .d (.str (whS k))]) G = .nx ((envI 5 "Ink" [.d (lightD a), .d (lightD b), .d (.str (whS k))]).set 4 (.ev (.d (lightD 0)))) G := setn (op2 rfl rfl (own2 rfl (by rw [and_ok ha hb, h0])))
  refine (congrArg (retI "Ink") (sqn e)).trans ?_
  rcases three hk with rfl | rfl | rfl <;> kernel_rfl
theorem initFilter (ha : a < 64) (hb : b < 64) (h0 : a &&& b = 0) (hk : k < 3) (G : GS) : g_Ink___init___for_Filter [.d (lightD a), .d (lightD b), .d (.str (whS k))] G = .ok [lightD a, lightD b, .str (whS k)] G := by
  have e : sSet 4 (eOp (alt2 (fAnd) (fOwn "Light" (arN 2) g_Light___and__)) (eVar 1) (eVar 2)) (envI 5 "Filter" [.d (lightD a), .d (lightD b), .d (.str (whS k))]) G = .nx ((envI 5 "Filter" [.d (lightD a), .d (lightD b), .d (.str (whS k))]).set 4 (.ev (.d (lightD 0)))) G := setn (op2 rfl rfl (own2 rfl (by rw [and_ok ha hb, h0])))
  refine (congrArg (retI "Filter") (sqn e)).trans ?_
  rcases three hk with rfl | rfl | rfl <;> kernel_rfl
theorem initOpaque (ha : a < 64) (hb : b < 64) (h0 : a &&& b = 0) (hk : k < 3) (G : GS) : g_Ink___init___for_Opaque [.d (lightD a), .d (lightD b), .d (.str (whS k))] G = .ok [lightD a, lightD b, .str (whS k)] G := by
  have e : sSet 4 (eOp (alt2 (fAnd) (fOwn "Light" (arN 2) g_Light___and__)) (eVar 1) (eVar 2)) (envI 5 "Opaque" [.d (lightD a), .d (lightD b), .d (.str (whS k))]) G = .nx ((envI 5 "Opaque" [.d (lightD a), .d (lightD b), .d (.str (whS k))]).set 4 (.ev (.d (lightD 0)))) G := setn (op2 rfl rfl (own2 rfl (by rw [and_ok ha hb, h0])))
  refine (congrArg (retI "Opaque") (sqn e)).trans ?_
  rcases three hk with rfl | rfl | rfl <;> kernel_rfl
theorem initBleach (ha : a < 64) (hb : b < 64) (h0 : a &&& b = 0) (hk : k < 3) (G : GS) : g_Ink___init___for_Bleach [.d (lightD a), .d (lightD b), .d (.str (whS k))] G = .ok [lightD a, lightD b, .str (whS k)] G := by
  have e : sSet 4 (eOp (alt2 (fAnd) (fOwn "Light" (arN 2) g_Light___and__)) (eVar 1) (eVar 2)) (envI 5 "Bleach" [.d (lightD a), .d (lightD b), .d (.str (whS k))]) G = .nx ((envI 5 "Bleach" [.d (lightD a), .d (lightD b), .d (.str (whS k))]).set 4 (.ev (.d (lightD 0)))) G := setn (op2 rfl rfl (own2 rfl (by rw [and_ok ha hb, h0])))
  refine (congrArg (retI "Bleach") (sqn e)).trans ?_
  rcases three hk with rfl | rfl | rfl <;> kernel_rfl
theorem mkFilter (ha : a < 64) (hk : k < 3) (G : GS) : g_Filter___init__ [.d (lightD a), .d (.str (whS k))] G = .ok [lightD a, lightD 0, .str (whS k)] G :=
  (runS_eq (xs := [.d (lightD a), .d (lightD 0), .d (.str (whS k))]) (by kernel_rfl) rfl).trans (initFilter ha (by decide) (Nat.and_zero a) hk G)
theorem mkBleach (ha : a < 64) (hk : k < 3) (G : GS) : g_Bleach___init__ [.d (lightD a), .d (.str (whS k))] G = .ok [lightD 0, lightD a, .str (whS k)] G :=
  (runS_eq (xs := [.d (lightD 0), .d (lightD a), .d (.str (whS k))]) (by kernel_rfl) rfl).trans (initBleach (by decide) ha (Nat.zero_and a) hk G)
theorem inv_and : ∀ a, a < 64 → (63 - a) &&& a = 0 := by decide +kernel
theorem mkOpaque (ha : a < 64) (hk : k < 3) (G : GS) : g_Opaque___init__ [.d (lightD a), .d (.str (whS k))] G = .ok [lightD (63 - a), lightD a, .str (whS k)] G :=
  (runS_eq (xs := [.d (lightD (63 - a)), .d (lightD a), .d (.str (whS k))]) (aapp_eq (acons_eq (inv1 rfl (inv_ok ha G)) (acons1 rfl)) (acons1 rfl) rfl rfl) rfl).trans (initOpaque (by omega) ha (inv_and a ha) hk G)
end
/-- what the law draws: mask, side, condition, off, on, kind -/
def oneD (j k off on : Nat) : DL.D := .tup [.non, .bl false, .str (whS k), .int (off : Nat), .int (on : Nat), .str (kdS j)]
structure Vd (j k off on : Nat) : Prop where
  hj : j < 4
  hk : k < 3
  ho : off < 64
  hn : on < 64
  hz : off &&& on = 0
  hf : j = 0 → on = 0
  hb : j = 1 → off = 0
  hq : j = 2 → off = 63 - on
def inkD (j k off on : Nat) : DL.D := .ins (clS j) [lightD off, lightD on, .str (whS k)]
theorem nb_ok {m : EM} {env : En} {G : GS} {n : Nat} (h : m env G = .ok (.d (.int (n : Nat))) G) (hn : n < 64) : eCMeth "Light" (arN 2) g_Light_numbered (aCons m aNil) env G = .ok (.d (lightD n)) G := (cmeth_eq (acons1 h) rfl).trans (num_ok hn G)
theorem ink_ok {j k off on : Nat} (v : Vd j k off on) (G : GS) : g__law_ink [.d (oneD j k off on)] G = .ok (.d (inkD j k off on)) G := by
  obtain ⟨hj, hk, ho, hn, hz, hf, hb, hq⟩ := v
  have n3 : ∀ j', eCMeth "Light" (arN 2) g_Light_numbered (aCons (eOp fIx (eVar 0) (eC (.int 3))) aNil) (env0 1 [.d (oneD j' k off on)]) G = .ok (.d (lightD off)) G := fun _ => nb_ok rfl ho
  have n4 : ∀ j', eCMeth "Light" (arN 2) g_Light_numbered (aCons (eOp fIx (eVar 0) (eC (.int 4))) aNil) (env0 1 [.d (oneD j' k off on)]) G = .ok (.d (lightD on)) G := fun _ => nb_ok rfl hn
  have n2 : ∀ j', aCons (eOp fIx (eVar 0) (eC (.int 2))) aNil (env0 1 [.d (oneD j' k off on)]) G = .ok [.d (.str (whS k))] G := fun _ => rfl
  have q1 : ∀ j', j' ≠ 0 → j' < 4 → bOf isB (eOp (fEq) (eOp fIx (eVar 0) (eC (.int 5))) (eC (.str "filter"))) (env0 1 [.d (oneD j' k off on)]) G = .ok false G := fun j' h1 h2 => by
    rcases four h2 with rfl | rfl | rfl | rfl <;> first | exact absurd rfl h1 | kernel_rfl
  have q2 : ∀ j', j' ≠ 1 → j' < 4 → bOf isB (eOp (fEq) (eOp fIx (eVar 0) (eC (.int 5))) (eC (.str "bleach"))) (env0 1 [.d (oneD j' k off on)]) G = .ok false G := fun j' h1 h2 => by
    rcases four h2 with rfl | rfl | rfl | rfl <;> first | exact absurd rfl h1 | kernel_rfl
  have q3 : ∀ j', j' ≠ 2 → j' < 4 → bOf isB (eOp (fEq) (eOp fIx (eVar 0) (eC (.int 5))) (eC (.str "opaque"))) (env0 1 [.d (oneD j' k off on)]) G = .ok false G := fun j' h1 h2 => by
    rcases four h2 with rfl | rfl | rfl | rfl <;> first | exact absurd rfl h1 | kernel_rfl
  rcases four hj with rfl | rfl | rfl | rfl
  · have z := hf rfl
    subst z
    have t : bOf isB (eOp (fEq) (eOp fIx (eVar 0) (eC (.int 5))) (eC (.str "filter"))) (env0 1 [.d (oneD 0 k off 0)]) G = .ok true G := by kernel_rfl
    refine congrArg retO (sqr ((ift t).trans ((if_pos rfl).trans (sret_eq (make_eq (aapp_eq (acons1 (n3 0)) (n2 0) rfl rfl) rfl (mkFilter ho hk G))))))
  · have z := hb rfl
    subst z
    have t : bOf isB (eOp (fEq) (eOp fIx (eVar 0) (eC (.int 5))) (eC (.str "bleach"))) (env0 1 [.d (oneD 1 k 0 on)]) G = .ok true G := by kernel_rfl
    refine congrArg retO ((sqn (ifn (q1 1 (by decide) (by decide)))).trans (sqr ((ift t).trans ((if_pos rfl).trans (sret_eq (make_eq (aapp_eq (acons1 (n4 1)) (n2 1) rfl rfl) rfl (mkBleach hn hk G)))))))
  · have z := hq rfl
    subst z
    have t : bOf isB (eOp (fEq) (eOp fIx (eVar 0) (eC (.int 5))) (eC (.str "opaque"))) (env0 1 [.d (oneD 2 k (63 - on) on)]) G = .ok true G := by kernel_rfl
    refine congrArg retO ((sqn (ifn (q1 2 (by decide) (by decide)))).trans ((sqn (ifn (q2 2 (by decide) (by decide)))).trans (sqr ((ift t).trans ((if_pos rfl).trans (sret_eq (make_eq (aapp_eq (acons1 (n4 2)) (n2 2) rfl rfl) rfl (mkOpaque hn hk G))))))))
  · refine congrArg retO ((sqn (ifn (q1 3 (by decide) (by decide)))).trans ((sqn (ifn (q2 3 (by decide) (by decide)))).trans ((sqn (ifn (q3 3 (by decide) (by decide)))).trans (sret_eq (make_eq (aapp_eq (acons_eq (n3 3) (acons1 (n4 3))) (n2 3) rfl rfl) rfl (initInk ho hn hz hk G))))))
end K07

set_option Elab.async false
set_option linter.all false
set_option maxRecDepth 100000
set_option maxHeartbeats 4000000
namespace K07
open PySem DL
/-! ### the law's box as one thing -/
abbrev Bx := List Int × Nat × Int
def bS (b : Bx) : GS := bx b.1 b.2.1 b.2.2
theorem draw_b (b : Bx) (m : Int) (h0 : 0 < m) (hm : m < 2 ^ 200) : ∃ (v : Nat) (b' : Bx), g__law_draw [.o 1, .d (.int m)] (bS b) = .ok (.d (.int (v : Nat))) (bS b') ∧ (v : Int) < m := by
  obtain ⟨v, cs', p', s', e, h1, h2⟩ := ge_draw b.1 b.2.1 b.2.2 m h0 hm
  obtain ⟨n, rfl, hn⟩ := nat_of h1 h2
  exact ⟨n, (cs', p', s'), e, hn⟩
theorem draw_s (b : Bx) (m : Int) (h0 : 0 < m) (hm : m < 1000) : ∃ (v : Nat) (b' : Bx), g__law_draw [.o 1, .d (.int m)] (bS b) = .ok (.d (.int (v : Nat))) (bS b') ∧ (v : Int) < m := draw_b b m h0 (Int.lt_trans hm (by decide))
theorem light_b (b : Bx) : ∃ (n : Nat) (b' : Bx), g__law_light [.o 1] (bS b) = .ok (.d (.int (n : Nat))) (bS b') ∧ n < 64 := by
  obtain ⟨v, b1, e1, h1⟩ := draw_s b 2 (by decide) (by decide)
  by_cases h : v = 0
  · obtain ⟨u, b2, e2, h2⟩ := draw_s b1 7 (by decide) (by decide)
    have hd : decide ((v : Int) = 0) = true := decide_eq_true (by omega)
    have c : u = 0 ∨ u = 1 ∨ u = 2 ∨ u = 3 ∨ u = 4 ∨ u = 5 ∨ u = 6 := by omega
    have key : ∀ z : Nat, z < 64 → L2.atI [DL.D.int 1, .int 2, .int 4, .int 8, .int 16, .int 32, .int 0] ((u : Nat) : Int) = some (.int (z : Nat)) → ∃ (n : Nat) (b' : Bx), g__law_light [.o 1] (bS b) = .ok (.d (.int (n : Nat))) (bS b') ∧ n < 64 := fun z hz hk =>
      ⟨z, b2, by simp -implicitDefEqProofs only [bind_ok, bind_er, bindN_ok, ofE_ok, ofE_er, seqO_nx, seqO_rt, seqO_er, seqO_bk, seqO_ct, loopO_nx, loopO_ct, loopO_bk, loopO_rt, loopO_er, lift_s, retO_rt, retO_nx, retO_er, mkO_ok, mkO_er, toOpt_ok, eVar_z, eVar_s, oL_z, oL_s, frz_z, frz_s, wipe_n, wipe_c, datas_n, datas_c, map_s, bind_s, setA_n, setA_c, p2_d, p1_d, pN_d, fEq_i, fEq_s, fEq_b, fEq_ii, fNe_i, fNe_s, fNe_b, fSub_i, fAdd_i, fAnd_i, fOr_i, fXor_i, fLt_i, fLe_i, fGt_i, fGe_i, fIs_d, fIsNot_d, fIsB_b, isB_b, tru_b, tru_i, tru_l, tru_t, orE_s, orE_n, alt2_e, alt1_e, altN_e, fIx_l, fIx_t, at_0, at_1, at_2, at_3, at_4, at_5, for_n, for_c, lc_n, len_lst, len_tup, kfn_c, kix_c, sSeq_e, sNil_e, sSet_e, sSet2_e, sRet_e, sRetN_e, sDrop_e, sIf_e, sBk_e, sCt_e, sFrz_e, sOwn_e, sFor_e, sUnp_e, eC_e, eOp_e, eUn_e, aNil_e, aCons_e, aApp_e, eFN_e, eCall_e, eMake_e, eCMeth_e, eCallO_e, eLst_e, eTup_e, nLst_e, nLc_e, eLc_e, lSeq_e, lTup_e, eIf_e, eAnd_e, eOr_e, eNot_e, bOf_e, bAnd_e, bOr_e, bNot_e, eFld_e, runB_e, env0_e, oN_e, List.set_cons_zero, List.set_cons_succ, List.map_cons, List.map_nil, List.cons_append, List.nil_append, List.replicate_succ, List.replicate_zero, List.length_cons, List.length_nil, List.getElem?_cons_zero, List.getElem?_cons_succ, reduceIte, if_true, if_false, Bool.false_eq_true, arN_t, decide_true, decide_false, isNon, Bool.not_true, Bool.not_false, Bool.true_and, Bool.false_and, Bool.and_true, Bool.and_false, bYes_e, lstMax_e, Nat.reduceAdd, Nat.reduceSub, Nat.reduceLeDiff, Int.reduceLT, Int.reduceLE, Int.reduceEq, String.reduceEq, and_self, decide_eq_true_eq, and_true, true_and, cPos_e, cDiv_e, fMod_i, fDiv_i, Int.reduceMod, Int.reduceDiv, Int.reduceSub, Int.reduceAdd, Int.reducePow, kOf_i, fsOf_i, fOwn_k, fOwn1_k, gFld_k, methO_e, methK_s, methA_s, ownK_s, ownK_n, ownK_m, own1K_s, own1K_n, fldK_s, sApp_e, appK_s, sOSub_e, osubK_s, eOIx_e, oixK_s, eOLen_e, olenK_s, ixN_p, Int.reduceToNat, Nat.reduceLT, oS_e, eSl_e, eSlT_e, kSet_e, kSet2_e, kDrop_e, kIf_t, kIf_f, kOwn_e, kApp_e, kOsub1_e, kOsub2_e, osK_s, kOix_e, ixK_s, kFor_e, kUnp_e, unpK_s, kOp1_e, kOp2_e, kUn_e, kC1_e, kC2_e, kA1_e, kA2_e, kFN_e, kCall_e, kMake_e, kCM_e, kMeth_e, kLst_e, lstK_s, kTup_e, tupK_s, kNl_e, nlK_s, nList_e, kNli_e, nliK_s, lOf_l, lOf_t, kNc1_e, kNc2_e, kLc1_e, kLc2_e, kSeq_e, kTpl_e, kEIf_t, kEIf_f, kEAnd_t, kEAnd_f, kEOr_t, kEOr_f, kENot_e, kB_e, kBAnd_t, kBAnd_f, kBOr_t, kBOr_f, kBNot_e, kOS_e, kSl1_e, kSl2_e, kSl3_e, kSt1_e, kSt2_e, kSt3_e, eMeth_e, kMe_e, lc_c, kL1_e, kL2_e, kT_t, kT_f, Int.cast_ofNat_Int, Int.natCast_zero, Int.natCast_one, lRng1_e, kRng_1, kRng_2, kRng_3, kRng_4, kRng_5, kRng_6, List.length_map, arS_0, sEr_e, sTryAs_e, tryK_nx, tryK_rt, tryK_er, afterO_rt, afterO_nx, eXf_e, xfS_s, xfK_s, plain_n, plain_e, List.all_cons, List.all_nil, eq_self, sTryN_e, tryN_nx, tryN_rt, tryN_h, tryN_t, dflI_e, dflF_e, not_false_eq_true, eMethK_e, kMK_e, kMK2_e, eProp_e, kPr_e, eNotO_e, kNotO_e, notK_s, g__law_light, m__law_light, e1, e2, hd, hk], hz⟩
    rcases c with rfl | rfl | rfl | rfl | rfl | rfl | rfl
    · exact key 1 (by decide) rfl
    · exact key 2 (by decide) rfl
    · exact key 4 (by decide) rfl
    · exact key 8 (by decide) rfl
    · exact key 16 (by decide) rfl
    · exact key 32 (by decide) rfl
    · exact key 0 (by decide) rfl
  · obtain ⟨u, b2, e2, h2⟩ := draw_s b1 64 (by decide) (by decide)
    have hd : decide ((v : Int) = 0) = false := decide_eq_false (by omega)
    exact ⟨u, b2, by simp -implicitDefEqProofs only [bind_ok, bind_er, bindN_ok, ofE_ok, ofE_er, seqO_nx, seqO_rt, seqO_er, seqO_bk, seqO_ct, loopO_nx, loopO_ct, loopO_bk, loopO_rt, loopO_er, lift_s, retO_rt, retO_nx, retO_er, mkO_ok, mkO_er, toOpt_ok, eVar_z, eVar_s, oL_z, oL_s, frz_z, frz_s, wipe_n, wipe_c, datas_n, datas_c, map_s, bind_s, setA_n, setA_c, p2_d, p1_d, pN_d, fEq_i, fEq_s, fEq_b, fEq_ii, fNe_i, fNe_s, fNe_b, fSub_i, fAdd_i, fAnd_i, fOr_i, fXor_i, fLt_i, fLe_i, fGt_i, fGe_i, fIs_d, fIsNot_d, fIsB_b, isB_b, tru_b, tru_i, tru_l, tru_t, orE_s, orE_n, alt2_e, alt1_e, altN_e, fIx_l, fIx_t, at_0, at_1, at_2, at_3, at_4, at_5, for_n, for_c, lc_n, len_lst, len_tup, kfn_c, kix_c, sSeq_e, sNil_e, sSet_e, sSet2_e, sRet_e, sRetN_e, sDrop_e, sIf_e, sBk_e, sCt_e, sFrz_e, sOwn_e, sFor_e, sUnp_e, eC_e, eOp_e, eUn_e, aNil_e, aCons_e, aApp_e, eFN_e, eCall_e, eMake_e, eCMeth_e, eCallO_e, eLst_e, eTup_e, nLst_e, nLc_e, eLc_e, lSeq_e, lTup_e, eIf_e, eAnd_e, eOr_e, eNot_e, bOf_e, bAnd_e, bOr_e, bNot_e, eFld_e, runB_e, env0_e, oN_e, List.set_cons_zero, List.set_cons_succ, List.map_cons, List.map_nil, List.cons_append, List.nil_append, List.replicate_succ, List.replicate_zero, List.length_cons, List.length_nil, List.getElem?_cons_zero, List.getElem?_cons_succ, reduceIte, if_true, if_false, Bool.false_eq_true, arN_t, decide_true, decide_false, isNon, Bool.not_true, Bool.not_false, Bool.true_and, Bool.false_and, Bool.and_true, Bool.and_false, bYes_e, lstMax_e, Nat.reduceAdd, Nat.reduceSub, Nat.reduceLeDiff, Int.reduceLT, Int.reduceLE, Int.reduceEq, String.reduceEq, and_self, decide_eq_true_eq, and_true, true_and, cPos_e, cDiv_e, fMod_i, fDiv_i, Int.reduceMod, Int.reduceDiv, Int.reduceSub, Int.reduceAdd, Int.reducePow, kOf_i, fsOf_i, fOwn_k, fOwn1_k, gFld_k, methO_e, methK_s, methA_s, ownK_s, ownK_n, ownK_m, own1K_s, own1K_n, fldK_s, sApp_e, appK_s, sOSub_e, osubK_s, eOIx_e, oixK_s, eOLen_e, olenK_s, ixN_p, Int.reduceToNat, Nat.reduceLT, oS_e, eSl_e, eSlT_e, kSet_e, kSet2_e, kDrop_e, kIf_t, kIf_f, kOwn_e, kApp_e, kOsub1_e, kOsub2_e, osK_s, kOix_e, ixK_s, kFor_e, kUnp_e, unpK_s, kOp1_e, kOp2_e, kUn_e, kC1_e, kC2_e, kA1_e, kA2_e, kFN_e, kCall_e, kMake_e, kCM_e, kMeth_e, kLst_e, lstK_s, kTup_e, tupK_s, kNl_e, nlK_s, nList_e, kNli_e, nliK_s, lOf_l, lOf_t, kNc1_e, kNc2_e, kLc1_e, kLc2_e, kSeq_e, kTpl_e, kEIf_t, kEIf_f, kEAnd_t, kEAnd_f, kEOr_t, kEOr_f, kENot_e, kB_e, kBAnd_t, kBAnd_f, kBOr_t, kBOr_f, kBNot_e, kOS_e, kSl1_e, kSl2_e, kSl3_e, kSt1_e, kSt2_e, kSt3_e, eMeth_e, kMe_e, lc_c, kL1_e, kL2_e, kT_t, kT_f, Int.cast_ofNat_Int, Int.natCast_zero, Int.natCast_one, lRng1_e, kRng_1, kRng_2, kRng_3, kRng_4, kRng_5, kRng_6, List.length_map, arS_0, sEr_e, sTryAs_e, tryK_nx, tryK_rt, tryK_er, afterO_rt, afterO_nx, eXf_e, xfS_s, xfK_s, plain_n, plain_e, List.all_cons, List.all_nil, eq_self, sTryN_e, tryN_nx, tryN_rt, tryN_h, tryN_t, dflI_e, dflF_e, not_false_eq_true, eMethK_e, kMK_e, kMK2_e, eProp_e, kPr_e, eNotO_e, kNotO_e, notK_s, g__law_light, m__law_light, e1, e2, hd], by omega⟩
/-! ### what the law draws for a pass -/
def maskD : Option Str → DL.D | none => .non | some s => .str s
structure One where
  mask : Option Str
  side : Bool
  j : Nat
  k : Nat
  off : Nat
  on : Nat
structure One.Ok (x : One) : Prop where
  hj : x.j < 4
  hk : x.k < 3
  ho : x.off < 64
  hn : x.on < 64
  hz : x.off &&& x.on = 0
  hf : x.j = 0 → x.on = 0
  hb : x.j = 1 → x.off = 0
  hq : x.j = 2 → x.off = 63 - x.on
def One.D (x : One) : DL.D := .tup [maskD x.mask, .bl x.side, .str (whS x.k), .int (x.off : Nat), .int (x.on : Nat), .str (kdS x.j)]
theorem and_inv : ∀ n, n < 64 → ∀ b, b < 64 → n &&& (b &&& (63 - n)) = 0 := by decide +kernel
theorem kd0 : ∀ j, j < 4 → decide (kdS j = ("filter" : Str)) = decide (j = 0) := by decide +kernel
theorem kd1 : ∀ j, j < 4 → decide (kdS j = ("bleach" : Str)) = decide (j = 1) := by decide +kernel
theorem kd2 : ∀ j, j < 4 → decide (kdS j = ("opaque" : Str)) = decide (j = 2) := by decide +kernel
theorem kd3 : ∀ j, j < 4 → decide (kdS j = ("ink" : Str)) = decide (j = 3) := by decide +kernel
theorem wh0 : ∀ k, k < 3 → decide (whS k = ("any" : Str)) = decide (k = 0) := by decide +kernel
theorem wh1 : ∀ k, k < 3 → decide (whS k = ("bare" : Str)) = decide (k = 1) := by decide +kernel
theorem wh2 : ∀ k, k < 3 → decide (whS k = ("inked" : Str)) = decide (k = 2) := by decide +kernel
/-- what a drawn one fulfils -/
structure One.Of (x : One) (names : List Str) (cond sided : Bool) : Prop where
  ok : x.Ok
  c : cond = false → x.k = 0
  m : ∀ s, x.mask = some s → s ∈ names
  n : x.mask = none → x.side = false
  s : sided = false → x.side = false
def whI : Nat → Nat | 2 => 1 | 3 => 2 | _ => 0
theorem one_gen (names : List Str) (hn : names.length ≤ 100) (cond sided : Bool) (b : Bx) : ∃ (x : One) (b' : Bx), g__law_one [.o 1, .d (.lst (names.map .str)), .d (.bl cond), .d (.bl sided)] (bS b) = .ok (.d x.D) (bS b') ∧ x.Of names cond sided := by
  obtain ⟨v, b1, e1, h1⟩ := draw_s b ((names.length : Int) + 1) (by omega) (by omega)
  have hv : v < names.length + 1 := by omega
  -- the mask and the side
  have st1 : ∃ (mask : Option Str) (side : Bool) (b2 : Bx), (∀ s, mask = some s → s ∈ names) ∧ (mask = none → side = false) ∧ (sided = false → side = false) ∧
      sIf (bOf isB (eOp (fLt) (eVar 6) (eFN fLen (aCons (eVar 1) (aNil))))) (sSeq (sSet 4 (eOp fIx (eVar 1) (eVar 6))) (sSet 5 (eAnd (eVar 3) (eOp (fEq) (eCall (arN 2) g__law_draw (aCons (eVar 0) (aCons (eC (.int 3)) (aNil)))) (eC (.int 2)))))) (sNil) [.ev (.o 1), .ev (.d (.lst (names.map .str))), .ev (.d (.bl cond)), .ev (.d (.bl sided)), .ev (.d .non), .ev (.d (.bl false)), .ev (.d (.int (v : Nat))), .no, .no, .no] (bS b1) =
        .nx [.ev (.o 1), .ev (.d (.lst (names.map .str))), .ev (.d (.bl cond)), .ev (.d (.bl sided)), .ev (.d (maskD mask)), .ev (.d (.bl side)), .ev (.d (.int (v : Nat))), .no, .no, .no] (bS b2) := by
    by_cases h : v < names.length
    · have hd : decide ((v : Int) < (names.length : Int)) = true := decide_eq_true (by omega)
      have ha : L2.atI (names.map DL.D.str) ((v : Nat) : Int) = some (.str names[v]) := by rw [at_n (by simpa using h)]; simp
      cases sided with
      | false =>
        exact ⟨some names[v], false, b1, fun s hs => (by cases hs; exact List.getElem_mem h), (fun z => nomatch z), fun _ => rfl, by simp -implicitDefEqProofs only [bind_ok, bind_er, bindN_ok, ofE_ok, ofE_er, seqO_nx, seqO_rt, seqO_er, seqO_bk, seqO_ct, loopO_nx, loopO_ct, loopO_bk, loopO_rt, loopO_er, lift_s, retO_rt, retO_nx, retO_er, mkO_ok, mkO_er, toOpt_ok, eVar_z, eVar_s, oL_z, oL_s, frz_z, frz_s, wipe_n, wipe_c, datas_n, datas_c, map_s, bind_s, setA_n, setA_c, p2_d, p1_d, pN_d, fEq_i, fEq_s, fEq_b, fEq_ii, fNe_i, fNe_s, fNe_b, fSub_i, fAdd_i, fAnd_i, fOr_i, fXor_i, fLt_i, fLe_i, fGt_i, fGe_i, fIs_d, fIsNot_d, fIsB_b, isB_b, tru_b, tru_i, tru_l, tru_t, orE_s, orE_n, alt2_e, alt1_e, altN_e, fIx_l, fIx_t, at_0, at_1, at_2, at_3, at_4, at_5, for_n, for_c, lc_n, len_lst, len_tup, kfn_c, kix_c, sSeq_e, sNil_e, sSet_e, sSet2_e, sRet_e, sRetN_e, sDrop_e, sIf_e, sBk_e, sCt_e, sFrz_e, sOwn_e, sFor_e, sUnp_e, eC_e, eOp_e, eUn_e, aNil_e, aCons_e, aApp_e, eFN_e, eCall_e, eMake_e, eCMeth_e, eCallO_e, eLst_e, eTup_e, nLst_e, nLc_e, eLc_e, lSeq_e, lTup_e, eIf_e, eAnd_e, eOr_e, eNot_e, bOf_e, bAnd_e, bOr_e, bNot_e, eFld_e, runB_e, env0_e, oN_e, List.set_cons_zero, List.set_cons_succ, List.map_cons, List.map_nil, List.cons_append, List.nil_append, List.replicate_succ, List.replicate_zero, List.length_cons, List.length_nil, List.getElem?_cons_zero, List.getElem?_cons_succ, reduceIte, if_true, if_false, Bool.false_eq_true, arN_t, decide_true, decide_false, isNon, Bool.not_true, Bool.not_false, Bool.true_and, Bool.false_and, Bool.and_true, Bool.and_false, bYes_e, lstMax_e, Nat.reduceAdd, Nat.reduceSub, Nat.reduceLeDiff, Int.reduceLT, Int.reduceLE, Int.reduceEq, String.reduceEq, and_self, decide_eq_true_eq, and_true, true_and, cPos_e, cDiv_e, fMod_i, fDiv_i, Int.reduceMod, Int.reduceDiv, Int.reduceSub, Int.reduceAdd, Int.reducePow, kOf_i, fsOf_i, fOwn_k, fOwn1_k, gFld_k, methO_e, methK_s, methA_s, ownK_s, ownK_n, ownK_m, own1K_s, own1K_n, fldK_s, sApp_e, appK_s, sOSub_e, osubK_s, eOIx_e, oixK_s, eOLen_e, olenK_s, ixN_p, Int.reduceToNat, Nat.reduceLT, oS_e, eSl_e, eSlT_e, kSet_e, kSet2_e, kDrop_e, kIf_t, kIf_f, kOwn_e, kApp_e, kOsub1_e, kOsub2_e, osK_s, kOix_e, ixK_s, kFor_e, kUnp_e, unpK_s, kOp1_e, kOp2_e, kUn_e, kC1_e, kC2_e, kA1_e, kA2_e, kFN_e, kCall_e, kMake_e, kCM_e, kMeth_e, kLst_e, lstK_s, kTup_e, tupK_s, kNl_e, nlK_s, nList_e, kNli_e, nliK_s, lOf_l, lOf_t, kNc1_e, kNc2_e, kLc1_e, kLc2_e, kSeq_e, kTpl_e, kEIf_t, kEIf_f, kEAnd_t, kEAnd_f, kEOr_t, kEOr_f, kENot_e, kB_e, kBAnd_t, kBAnd_f, kBOr_t, kBOr_f, kBNot_e, kOS_e, kSl1_e, kSl2_e, kSl3_e, kSt1_e, kSt2_e, kSt3_e, eMeth_e, kMe_e, lc_c, kL1_e, kL2_e, kT_t, kT_f, Int.cast_ofNat_Int, Int.natCast_zero, Int.natCast_one, lRng1_e, kRng_1, kRng_2, kRng_3, kRng_4, kRng_5, kRng_6, List.length_map, arS_0, sEr_e, sTryAs_e, tryK_nx, tryK_rt, tryK_er, afterO_rt, afterO_nx, eXf_e, xfS_s, xfK_s, plain_n, plain_e, List.all_cons, List.all_nil, eq_self, sTryN_e, tryN_nx, tryN_rt, tryN_h, tryN_t, dflI_e, dflF_e, not_false_eq_true, eMethK_e, kMK_e, kMK2_e, eProp_e, kPr_e, eNotO_e, kNotO_e, notK_s, hd, ha, maskD, List.length_map]⟩
      | true =>
        obtain ⟨u, b2, e2, h2⟩ := draw_s b1 3 (by decide) (by decide)
        exact ⟨some names[v], decide ((u : Int) = 2), b2, fun s hs => (by cases hs; exact List.getElem_mem h), (fun z => nomatch z), (fun z => nomatch z), by simp -implicitDefEqProofs only [bind_ok, bind_er, bindN_ok, ofE_ok, ofE_er, seqO_nx, seqO_rt, seqO_er, seqO_bk, seqO_ct, loopO_nx, loopO_ct, loopO_bk, loopO_rt, loopO_er, lift_s, retO_rt, retO_nx, retO_er, mkO_ok, mkO_er, toOpt_ok, eVar_z, eVar_s, oL_z, oL_s, frz_z, frz_s, wipe_n, wipe_c, datas_n, datas_c, map_s, bind_s, setA_n, setA_c, p2_d, p1_d, pN_d, fEq_i, fEq_s, fEq_b, fEq_ii, fNe_i, fNe_s, fNe_b, fSub_i, fAdd_i, fAnd_i, fOr_i, fXor_i, fLt_i, fLe_i, fGt_i, fGe_i, fIs_d, fIsNot_d, fIsB_b, isB_b, tru_b, tru_i, tru_l, tru_t, orE_s, orE_n, alt2_e, alt1_e, altN_e, fIx_l, fIx_t, at_0, at_1, at_2, at_3, at_4, at_5, for_n, for_c, lc_n, len_lst, len_tup, kfn_c, kix_c, sSeq_e, sNil_e, sSet_e, sSet2_e, sRet_e, sRetN_e, sDrop_e, sIf_e, sBk_e, sCt_e, sFrz_e, sOwn_e, sFor_e, sUnp_e, eC_e, eOp_e, eUn_e, aNil_e, aCons_e, aApp_e, eFN_e, eCall_e, eMake_e, eCMeth_e, eCallO_e, eLst_e, eTup_e, nLst_e, nLc_e, eLc_e, lSeq_e, lTup_e, eIf_e, eAnd_e, eOr_e, eNot_e, bOf_e, bAnd_e, bOr_e, bNot_e, eFld_e, runB_e, env0_e, oN_e, List.set_cons_zero, List.set_cons_succ, List.map_cons, List.map_nil, List.cons_append, List.nil_append, List.replicate_succ, List.replicate_zero, List.length_cons, List.length_nil, List.getElem?_cons_zero, List.getElem?_cons_succ, reduceIte, if_true, if_false, Bool.false_eq_true, arN_t, decide_true, decide_false, isNon, Bool.not_true, Bool.not_false, Bool.true_and, Bool.false_and, Bool.and_true, Bool.and_false, bYes_e, lstMax_e, Nat.reduceAdd, Nat.reduceSub, Nat.reduceLeDiff, Int.reduceLT, Int.reduceLE, Int.reduceEq, String.reduceEq, and_self, decide_eq_true_eq, and_true, true_and, cPos_e, cDiv_e, fMod_i, fDiv_i, Int.reduceMod, Int.reduceDiv, Int.reduceSub, Int.reduceAdd, Int.reducePow, kOf_i, fsOf_i, fOwn_k, fOwn1_k, gFld_k, methO_e, methK_s, methA_s, ownK_s, ownK_n, ownK_m, own1K_s, own1K_n, fldK_s, sApp_e, appK_s, sOSub_e, osubK_s, eOIx_e, oixK_s, eOLen_e, olenK_s, ixN_p, Int.reduceToNat, Nat.reduceLT, oS_e, eSl_e, eSlT_e, kSet_e, kSet2_e, kDrop_e, kIf_t, kIf_f, kOwn_e, kApp_e, kOsub1_e, kOsub2_e, osK_s, kOix_e, ixK_s, kFor_e, kUnp_e, unpK_s, kOp1_e, kOp2_e, kUn_e, kC1_e, kC2_e, kA1_e, kA2_e, kFN_e, kCall_e, kMake_e, kCM_e, kMeth_e, kLst_e, lstK_s, kTup_e, tupK_s, kNl_e, nlK_s, nList_e, kNli_e, nliK_s, lOf_l, lOf_t, kNc1_e, kNc2_e, kLc1_e, kLc2_e, kSeq_e, kTpl_e, kEIf_t, kEIf_f, kEAnd_t, kEAnd_f, kEOr_t, kEOr_f, kENot_e, kB_e, kBAnd_t, kBAnd_f, kBOr_t, kBOr_f, kBNot_e, kOS_e, kSl1_e, kSl2_e, kSl3_e, kSt1_e, kSt2_e, kSt3_e, eMeth_e, kMe_e, lc_c, kL1_e, kL2_e, kT_t, kT_f, Int.cast_ofNat_Int, Int.natCast_zero, Int.natCast_one, lRng1_e, kRng_1, kRng_2, kRng_3, kRng_4, kRng_5, kRng_6, List.length_map, arS_0, sEr_e, sTryAs_e, tryK_nx, tryK_rt, tryK_er, afterO_rt, afterO_nx, eXf_e, xfS_s, xfK_s, plain_n, plain_e, List.all_cons, List.all_nil, eq_self, sTryN_e, tryN_nx, tryN_rt, tryN_h, tryN_t, dflI_e, dflF_e, not_false_eq_true, eMethK_e, kMK_e, kMK2_e, eProp_e, kPr_e, eNotO_e, kNotO_e, notK_s, hd, ha, e2, maskD, List.length_map]⟩
    · have hd : decide ((v : Int) < (names.length : Int)) = false := decide_eq_false (by omega)
      exact ⟨none, false, b1, (fun s hs => nomatch hs), fun _ => rfl, fun _ => rfl, by simp -implicitDefEqProofs only [bind_ok, bind_er, bindN_ok, ofE_ok, ofE_er, seqO_nx, seqO_rt, seqO_er, seqO_bk, seqO_ct, loopO_nx, loopO_ct, loopO_bk, loopO_rt, loopO_er, lift_s, retO_rt, retO_nx, retO_er, mkO_ok, mkO_er, toOpt_ok, eVar_z, eVar_s, oL_z, oL_s, frz_z, frz_s, wipe_n, wipe_c, datas_n, datas_c, map_s, bind_s, setA_n, setA_c, p2_d, p1_d, pN_d, fEq_i, fEq_s, fEq_b, fEq_ii, fNe_i, fNe_s, fNe_b, fSub_i, fAdd_i, fAnd_i, fOr_i, fXor_i, fLt_i, fLe_i, fGt_i, fGe_i, fIs_d, fIsNot_d, fIsB_b, isB_b, tru_b, tru_i, tru_l, tru_t, orE_s, orE_n, alt2_e, alt1_e, altN_e, fIx_l, fIx_t, at_0, at_1, at_2, at_3, at_4, at_5, for_n, for_c, lc_n, len_lst, len_tup, kfn_c, kix_c, sSeq_e, sNil_e, sSet_e, sSet2_e, sRet_e, sRetN_e, sDrop_e, sIf_e, sBk_e, sCt_e, sFrz_e, sOwn_e, sFor_e, sUnp_e, eC_e, eOp_e, eUn_e, aNil_e, aCons_e, aApp_e, eFN_e, eCall_e, eMake_e, eCMeth_e, eCallO_e, eLst_e, eTup_e, nLst_e, nLc_e, eLc_e, lSeq_e, lTup_e, eIf_e, eAnd_e, eOr_e, eNot_e, bOf_e, bAnd_e, bOr_e, bNot_e, eFld_e, runB_e, env0_e, oN_e, List.set_cons_zero, List.set_cons_succ, List.map_cons, List.map_nil, List.cons_append, List.nil_append, List.replicate_succ, List.replicate_zero, List.length_cons, List.length_nil, List.getElem?_cons_zero, List.getElem?_cons_succ, reduceIte, if_true, if_false, Bool.false_eq_true, arN_t, decide_true, decide_false, isNon, Bool.not_true, Bool.not_false, Bool.true_and, Bool.false_and, Bool.and_true, Bool.and_false, bYes_e, lstMax_e, Nat.reduceAdd, Nat.reduceSub, Nat.reduceLeDiff, Int.reduceLT, Int.reduceLE, Int.reduceEq, String.reduceEq, and_self, decide_eq_true_eq, and_true, true_and, cPos_e, cDiv_e, fMod_i, fDiv_i, Int.reduceMod, Int.reduceDiv, Int.reduceSub, Int.reduceAdd, Int.reducePow, kOf_i, fsOf_i, fOwn_k, fOwn1_k, gFld_k, methO_e, methK_s, methA_s, ownK_s, ownK_n, ownK_m, own1K_s, own1K_n, fldK_s, sApp_e, appK_s, sOSub_e, osubK_s, eOIx_e, oixK_s, eOLen_e, olenK_s, ixN_p, Int.reduceToNat, Nat.reduceLT, oS_e, eSl_e, eSlT_e, kSet_e, kSet2_e, kDrop_e, kIf_t, kIf_f, kOwn_e, kApp_e, kOsub1_e, kOsub2_e, osK_s, kOix_e, ixK_s, kFor_e, kUnp_e, unpK_s, kOp1_e, kOp2_e, kUn_e, kC1_e, kC2_e, kA1_e, kA2_e, kFN_e, kCall_e, kMake_e, kCM_e, kMeth_e, kLst_e, lstK_s, kTup_e, tupK_s, kNl_e, nlK_s, nList_e, kNli_e, nliK_s, lOf_l, lOf_t, kNc1_e, kNc2_e, kLc1_e, kLc2_e, kSeq_e, kTpl_e, kEIf_t, kEIf_f, kEAnd_t, kEAnd_f, kEOr_t, kEOr_f, kENot_e, kB_e, kBAnd_t, kBAnd_f, kBOr_t, kBOr_f, kBNot_e, kOS_e, kSl1_e, kSl2_e, kSl3_e, kSt1_e, kSt2_e, kSt3_e, eMeth_e, kMe_e, lc_c, kL1_e, kL2_e, kT_t, kT_f, Int.cast_ofNat_Int, Int.natCast_zero, Int.natCast_one, lRng1_e, kRng_1, kRng_2, kRng_3, kRng_4, kRng_5, kRng_6, List.length_map, arS_0, sEr_e, sTryAs_e, tryK_nx, tryK_rt, tryK_er, afterO_rt, afterO_nx, eXf_e, xfS_s, xfK_s, plain_n, plain_e, List.all_cons, List.all_nil, eq_self, sTryN_e, tryN_nx, tryN_rt, tryN_h, tryN_t, dflI_e, dflF_e, not_false_eq_true, eMethK_e, kMK_e, kMK2_e, eProp_e, kPr_e, eNotO_e, kNotO_e, notK_s, hd, maskD, List.length_map]⟩
  obtain ⟨mask, side, b2, q1, q2, q3, st1⟩ := st1
  -- the condition
  have st2 : ∃ (k : Nat) (b3 : Bx), k < 3 ∧ (cond = false → k = 0) ∧
      sIf (bOf truE (eVar 2)) (sSet 7 (eOp fIx (eLst (aCons (eC (.str "any")) (aCons (eC (.str "any")) (aCons (eC (.str "bare")) (aCons (eC (.str "inked")) (aNil)))))) (eCall (arN 2) g__law_draw (aCons (eVar 0) (aCons (eC (.int 4)) (aNil)))))) (sNil) [.ev (.o 1), .ev (.d (.lst (names.map .str))), .ev (.d (.bl cond)), .ev (.d (.bl sided)), .ev (.d (maskD mask)), .ev (.d (.bl side)), .ev (.d (.int (v : Nat))), .ev (.d (.str "any")), .no, .no] (bS b2) =
        .nx [.ev (.o 1), .ev (.d (.lst (names.map .str))), .ev (.d (.bl cond)), .ev (.d (.bl sided)), .ev (.d (maskD mask)), .ev (.d (.bl side)), .ev (.d (.int (v : Nat))), .ev (.d (.str (whS k))), .no, .no] (bS b3) := by
    cases cond with
    | false => exact ⟨0, b2, by decide, fun _ => rfl, by simp -implicitDefEqProofs only [bind_ok, bind_er, bindN_ok, ofE_ok, ofE_er, seqO_nx, seqO_rt, seqO_er, seqO_bk, seqO_ct, loopO_nx, loopO_ct, loopO_bk, loopO_rt, loopO_er, lift_s, retO_rt, retO_nx, retO_er, mkO_ok, mkO_er, toOpt_ok, eVar_z, eVar_s, oL_z, oL_s, frz_z, frz_s, wipe_n, wipe_c, datas_n, datas_c, map_s, bind_s, setA_n, setA_c, p2_d, p1_d, pN_d, fEq_i, fEq_s, fEq_b, fEq_ii, fNe_i, fNe_s, fNe_b, fSub_i, fAdd_i, fAnd_i, fOr_i, fXor_i, fLt_i, fLe_i, fGt_i, fGe_i, fIs_d, fIsNot_d, fIsB_b, isB_b, tru_b, tru_i, tru_l, tru_t, orE_s, orE_n, alt2_e, alt1_e, altN_e, fIx_l, fIx_t, at_0, at_1, at_2, at_3, at_4, at_5, for_n, for_c, lc_n, len_lst, len_tup, kfn_c, kix_c, sSeq_e, sNil_e, sSet_e, sSet2_e, sRet_e, sRetN_e, sDrop_e, sIf_e, sBk_e, sCt_e, sFrz_e, sOwn_e, sFor_e, sUnp_e, eC_e, eOp_e, eUn_e, aNil_e, aCons_e, aApp_e, eFN_e, eCall_e, eMake_e, eCMeth_e, eCallO_e, eLst_e, eTup_e, nLst_e, nLc_e, eLc_e, lSeq_e, lTup_e, eIf_e, eAnd_e, eOr_e, eNot_e, bOf_e, bAnd_e, bOr_e, bNot_e, eFld_e, runB_e, env0_e, oN_e, List.set_cons_zero, List.set_cons_succ, List.map_cons, List.map_nil, List.cons_append, List.nil_append, List.replicate_succ, List.replicate_zero, List.length_cons, List.length_nil, List.getElem?_cons_zero, List.getElem?_cons_succ, reduceIte, if_true, if_false, Bool.false_eq_true, arN_t, decide_true, decide_false, isNon, Bool.not_true, Bool.not_false, Bool.true_and, Bool.false_and, Bool.and_true, Bool.and_false, bYes_e, lstMax_e, Nat.reduceAdd, Nat.reduceSub, Nat.reduceLeDiff, Int.reduceLT, Int.reduceLE, Int.reduceEq, String.reduceEq, and_self, decide_eq_true_eq, and_true, true_and, cPos_e, cDiv_e, fMod_i, fDiv_i, Int.reduceMod, Int.reduceDiv, Int.reduceSub, Int.reduceAdd, Int.reducePow, kOf_i, fsOf_i, fOwn_k, fOwn1_k, gFld_k, methO_e, methK_s, methA_s, ownK_s, ownK_n, ownK_m, own1K_s, own1K_n, fldK_s, sApp_e, appK_s, sOSub_e, osubK_s, eOIx_e, oixK_s, eOLen_e, olenK_s, ixN_p, Int.reduceToNat, Nat.reduceLT, oS_e, eSl_e, eSlT_e, kSet_e, kSet2_e, kDrop_e, kIf_t, kIf_f, kOwn_e, kApp_e, kOsub1_e, kOsub2_e, osK_s, kOix_e, ixK_s, kFor_e, kUnp_e, unpK_s, kOp1_e, kOp2_e, kUn_e, kC1_e, kC2_e, kA1_e, kA2_e, kFN_e, kCall_e, kMake_e, kCM_e, kMeth_e, kLst_e, lstK_s, kTup_e, tupK_s, kNl_e, nlK_s, nList_e, kNli_e, nliK_s, lOf_l, lOf_t, kNc1_e, kNc2_e, kLc1_e, kLc2_e, kSeq_e, kTpl_e, kEIf_t, kEIf_f, kEAnd_t, kEAnd_f, kEOr_t, kEOr_f, kENot_e, kB_e, kBAnd_t, kBAnd_f, kBOr_t, kBOr_f, kBNot_e, kOS_e, kSl1_e, kSl2_e, kSl3_e, kSt1_e, kSt2_e, kSt3_e, eMeth_e, kMe_e, lc_c, kL1_e, kL2_e, kT_t, kT_f, Int.cast_ofNat_Int, Int.natCast_zero, Int.natCast_one, lRng1_e, kRng_1, kRng_2, kRng_3, kRng_4, kRng_5, kRng_6, List.length_map, arS_0, sEr_e, sTryAs_e, tryK_nx, tryK_rt, tryK_er, afterO_rt, afterO_nx, eXf_e, xfS_s, xfK_s, plain_n, plain_e, List.all_cons, List.all_nil, eq_self, sTryN_e, tryN_nx, tryN_rt, tryN_h, tryN_t, dflI_e, dflF_e, not_false_eq_true, eMethK_e, kMK_e, kMK2_e, eProp_e, kPr_e, eNotO_e, kNotO_e, notK_s, whS]⟩
    | true =>
      obtain ⟨u, b3, e3, h3⟩ := draw_s b2 4 (by decide) (by decide)
      have c : u = 0 ∨ u = 1 ∨ u = 2 ∨ u = 3 := by omega
      have hk : whI u < 3 := by rcases c with rfl | rfl | rfl | rfl <;> decide
      have ha : L2.atI [DL.D.str "any", .str "any", .str "bare", .str "inked"] ((u : Nat) : Int) = some (.str (whS (whI u))) := by rcases c with rfl | rfl | rfl | rfl <;> rfl
      exact ⟨whI u, b3, hk, (fun z => nomatch z), by simp -implicitDefEqProofs only [bind_ok, bind_er, bindN_ok, ofE_ok, ofE_er, seqO_nx, seqO_rt, seqO_er, seqO_bk, seqO_ct, loopO_nx, loopO_ct, loopO_bk, loopO_rt, loopO_er, lift_s, retO_rt, retO_nx, retO_er, mkO_ok, mkO_er, toOpt_ok, eVar_z, eVar_s, oL_z, oL_s, frz_z, frz_s, wipe_n, wipe_c, datas_n, datas_c, map_s, bind_s, setA_n, setA_c, p2_d, p1_d, pN_d, fEq_i, fEq_s, fEq_b, fEq_ii, fNe_i, fNe_s, fNe_b, fSub_i, fAdd_i, fAnd_i, fOr_i, fXor_i, fLt_i, fLe_i, fGt_i, fGe_i, fIs_d, fIsNot_d, fIsB_b, isB_b, tru_b, tru_i, tru_l, tru_t, orE_s, orE_n, alt2_e, alt1_e, altN_e, fIx_l, fIx_t, at_0, at_1, at_2, at_3, at_4, at_5, for_n, for_c, lc_n, len_lst, len_tup, kfn_c, kix_c, sSeq_e, sNil_e, sSet_e, sSet2_e, sRet_e, sRetN_e, sDrop_e, sIf_e, sBk_e, sCt_e, sFrz_e, sOwn_e, sFor_e, sUnp_e, eC_e, eOp_e, eUn_e, aNil_e, aCons_e, aApp_e, eFN_e, eCall_e, eMake_e, eCMeth_e, eCallO_e, eLst_e, eTup_e, nLst_e, nLc_e, eLc_e, lSeq_e, lTup_e, eIf_e, eAnd_e, eOr_e, eNot_e, bOf_e, bAnd_e, bOr_e, bNot_e, eFld_e, runB_e, env0_e, oN_e, List.set_cons_zero, List.set_cons_succ, List.map_cons, List.map_nil, List.cons_append, List.nil_append, List.replicate_succ, List.replicate_zero, List.length_cons, List.length_nil, List.getElem?_cons_zero, List.getElem?_cons_succ, reduceIte, if_true, if_false, Bool.false_eq_true, arN_t, decide_true, decide_false, isNon, Bool.not_true, Bool.not_false, Bool.true_and, Bool.false_and, Bool.and_true, Bool.and_false, bYes_e, lstMax_e, Nat.reduceAdd, Nat.reduceSub, Nat.reduceLeDiff, Int.reduceLT, Int.reduceLE, Int.reduceEq, String.reduceEq, and_self, decide_eq_true_eq, and_true, true_and, cPos_e, cDiv_e, fMod_i, fDiv_i, Int.reduceMod, Int.reduceDiv, Int.reduceSub, Int.reduceAdd, Int.reducePow, kOf_i, fsOf_i, fOwn_k, fOwn1_k, gFld_k, methO_e, methK_s, methA_s, ownK_s, ownK_n, ownK_m, own1K_s, own1K_n, fldK_s, sApp_e, appK_s, sOSub_e, osubK_s, eOIx_e, oixK_s, eOLen_e, olenK_s, ixN_p, Int.reduceToNat, Nat.reduceLT, oS_e, eSl_e, eSlT_e, kSet_e, kSet2_e, kDrop_e, kIf_t, kIf_f, kOwn_e, kApp_e, kOsub1_e, kOsub2_e, osK_s, kOix_e, ixK_s, kFor_e, kUnp_e, unpK_s, kOp1_e, kOp2_e, kUn_e, kC1_e, kC2_e, kA1_e, kA2_e, kFN_e, kCall_e, kMake_e, kCM_e, kMeth_e, kLst_e, lstK_s, kTup_e, tupK_s, kNl_e, nlK_s, nList_e, kNli_e, nliK_s, lOf_l, lOf_t, kNc1_e, kNc2_e, kLc1_e, kLc2_e, kSeq_e, kTpl_e, kEIf_t, kEIf_f, kEAnd_t, kEAnd_f, kEOr_t, kEOr_f, kENot_e, kB_e, kBAnd_t, kBAnd_f, kBOr_t, kBOr_f, kBNot_e, kOS_e, kSl1_e, kSl2_e, kSl3_e, kSt1_e, kSt2_e, kSt3_e, eMeth_e, kMe_e, lc_c, kL1_e, kL2_e, kT_t, kT_f, Int.cast_ofNat_Int, Int.natCast_zero, Int.natCast_one, lRng1_e, kRng_1, kRng_2, kRng_3, kRng_4, kRng_5, kRng_6, List.length_map, arS_0, sEr_e, sTryAs_e, tryK_nx, tryK_rt, tryK_er, afterO_rt, afterO_nx, eXf_e, xfS_s, xfK_s, plain_n, plain_e, List.all_cons, List.all_nil, eq_self, sTryN_e, tryN_nx, tryN_rt, tryN_h, tryN_t, dflI_e, dflF_e, not_false_eq_true, eMethK_e, kMK_e, kMK2_e, eProp_e, kPr_e, eNotO_e, kNotO_e, notK_s, e3, ha]⟩
  obtain ⟨k, b3, hk, hk0, st2⟩ := st2
  obtain ⟨j, b4, e4, h4⟩ := draw_s b3 4 (by decide) (by decide)
  have hj : j < 4 := by omega
  have ha : L2.atI [DL.D.str "filter", .str "bleach", .str "opaque", .str "ink"] ((j : Nat) : Int) = some (.str (kdS j)) := by rcases four hj with rfl | rfl | rfl | rfl <;> rfl
  obtain ⟨n, b5, e5, h5⟩ := light_b b4
  have hl : decide ((1 : Int) = 1) = true := rfl
  have sb : ((63 : Int) - (n : Nat)) = ((63 - n : Nat) : Int) := by omega
  have any : whS 0 = "any" := rfl
  have f0 := kd0 j hj
  have f1 := kd1 j hj
  have f2 := kd2 j hj
  by_cases c0 : j = 0
  · rw [decide_eq_true c0] at f0
    exact ⟨⟨mask, side, j, k, n, 0⟩, b5, by simp -implicitDefEqProofs only [bind_ok, bind_er, bindN_ok, ofE_ok, ofE_er, seqO_nx, seqO_rt, seqO_er, seqO_bk, seqO_ct, loopO_nx, loopO_ct, loopO_bk, loopO_rt, loopO_er, lift_s, retO_rt, retO_nx, retO_er, mkO_ok, mkO_er, toOpt_ok, eVar_z, eVar_s, oL_z, oL_s, frz_z, frz_s, wipe_n, wipe_c, datas_n, datas_c, map_s, bind_s, setA_n, setA_c, p2_d, p1_d, pN_d, fEq_i, fEq_s, fEq_b, fEq_ii, fNe_i, fNe_s, fNe_b, fSub_i, fAdd_i, fAnd_i, fOr_i, fXor_i, fLt_i, fLe_i, fGt_i, fGe_i, fIs_d, fIsNot_d, fIsB_b, isB_b, tru_b, tru_i, tru_l, tru_t, orE_s, orE_n, alt2_e, alt1_e, altN_e, fIx_l, fIx_t, at_0, at_1, at_2, at_3, at_4, at_5, for_n, for_c, lc_n, len_lst, len_tup, kfn_c, kix_c, sSeq_e, sNil_e, sSet_e, sSet2_e, sRet_e, sRetN_e, sDrop_e, sIf_e, sBk_e, sCt_e, sFrz_e, sOwn_e, sFor_e, sUnp_e, eC_e, eOp_e, eUn_e, aNil_e, aCons_e, aApp_e, eFN_e, eCall_e, eMake_e, eCMeth_e, eCallO_e, eLst_e, eTup_e, nLst_e, nLc_e, eLc_e, lSeq_e, lTup_e, eIf_e, eAnd_e, eOr_e, eNot_e, bOf_e, bAnd_e, bOr_e, bNot_e, eFld_e, runB_e, env0_e, oN_e, List.set_cons_zero, List.set_cons_succ, List.map_cons, List.map_nil, List.cons_append, List.nil_append, List.replicate_succ, List.replicate_zero, List.length_cons, List.length_nil, List.getElem?_cons_zero, List.getElem?_cons_succ, reduceIte, if_true, if_false, Bool.false_eq_true, arN_t, decide_true, decide_false, isNon, Bool.not_true, Bool.not_false, Bool.true_and, Bool.false_and, Bool.and_true, Bool.and_false, bYes_e, lstMax_e, Nat.reduceAdd, Nat.reduceSub, Nat.reduceLeDiff, Int.reduceLT, Int.reduceLE, Int.reduceEq, String.reduceEq, and_self, decide_eq_true_eq, and_true, true_and, cPos_e, cDiv_e, fMod_i, fDiv_i, Int.reduceMod, Int.reduceDiv, Int.reduceSub, Int.reduceAdd, Int.reducePow, kOf_i, fsOf_i, fOwn_k, fOwn1_k, gFld_k, methO_e, methK_s, methA_s, ownK_s, ownK_n, ownK_m, own1K_s, own1K_n, fldK_s, sApp_e, appK_s, sOSub_e, osubK_s, eOIx_e, oixK_s, eOLen_e, olenK_s, ixN_p, Int.reduceToNat, Nat.reduceLT, oS_e, eSl_e, eSlT_e, kSet_e, kSet2_e, kDrop_e, kIf_t, kIf_f, kOwn_e, kApp_e, kOsub1_e, kOsub2_e, osK_s, kOix_e, ixK_s, kFor_e, kUnp_e, unpK_s, kOp1_e, kOp2_e, kUn_e, kC1_e, kC2_e, kA1_e, kA2_e, kFN_e, kCall_e, kMake_e, kCM_e, kMeth_e, kLst_e, lstK_s, kTup_e, tupK_s, kNl_e, nlK_s, nList_e, kNli_e, nliK_s, lOf_l, lOf_t, kNc1_e, kNc2_e, kLc1_e, kLc2_e, kSeq_e, kTpl_e, kEIf_t, kEIf_f, kEAnd_t, kEAnd_f, kEOr_t, kEOr_f, kENot_e, kB_e, kBAnd_t, kBAnd_f, kBOr_t, kBOr_f, kBNot_e, kOS_e, kSl1_e, kSl2_e, kSl3_e, kSt1_e, kSt2_e, kSt3_e, eMeth_e, kMe_e, lc_c, kL1_e, kL2_e, kT_t, kT_f, Int.cast_ofNat_Int, Int.natCast_zero, Int.natCast_one, lRng1_e, kRng_1, kRng_2, kRng_3, kRng_4, kRng_5, kRng_6, List.length_map, arS_0, sEr_e, sTryAs_e, tryK_nx, tryK_rt, tryK_er, afterO_rt, afterO_nx, eXf_e, xfS_s, xfK_s, plain_n, plain_e, List.all_cons, List.all_nil, eq_self, sTryN_e, tryN_nx, tryN_rt, tryN_h, tryN_t, dflI_e, dflF_e, not_false_eq_true, eMethK_e, kMK_e, kMK2_e, eProp_e, kPr_e, eNotO_e, kNotO_e, notK_s, g__law_one, m__law_one, e1, List.length_map, ↓st1, ↓st2, e4, ha, e5, f0, One.D], ⟨⟨hj, hk, h5, (by show 0 < 64; decide), Nat.and_zero n, fun _ => rfl, fun h => by dsimp only at h; omega, fun h => by dsimp only at h; omega⟩, hk0, q1, q2, q3⟩⟩
  rw [decide_eq_false c0] at f0
  by_cases c1 : j = 1
  · rw [decide_eq_true c1] at f1
    exact ⟨⟨mask, side, j, k, 0, n⟩, b5, by simp -implicitDefEqProofs only [bind_ok, bind_er, bindN_ok, ofE_ok, ofE_er, seqO_nx, seqO_rt, seqO_er, seqO_bk, seqO_ct, loopO_nx, loopO_ct, loopO_bk, loopO_rt, loopO_er, lift_s, retO_rt, retO_nx, retO_er, mkO_ok, mkO_er, toOpt_ok, eVar_z, eVar_s, oL_z, oL_s, frz_z, frz_s, wipe_n, wipe_c, datas_n, datas_c, map_s, bind_s, setA_n, setA_c, p2_d, p1_d, pN_d, fEq_i, fEq_s, fEq_b, fEq_ii, fNe_i, fNe_s, fNe_b, fSub_i, fAdd_i, fAnd_i, fOr_i, fXor_i, fLt_i, fLe_i, fGt_i, fGe_i, fIs_d, fIsNot_d, fIsB_b, isB_b, tru_b, tru_i, tru_l, tru_t, orE_s, orE_n, alt2_e, alt1_e, altN_e, fIx_l, fIx_t, at_0, at_1, at_2, at_3, at_4, at_5, for_n, for_c, lc_n, len_lst, len_tup, kfn_c, kix_c, sSeq_e, sNil_e, sSet_e, sSet2_e, sRet_e, sRetN_e, sDrop_e, sIf_e, sBk_e, sCt_e, sFrz_e, sOwn_e, sFor_e, sUnp_e, eC_e, eOp_e, eUn_e, aNil_e, aCons_e, aApp_e, eFN_e, eCall_e, eMake_e, eCMeth_e, eCallO_e, eLst_e, eTup_e, nLst_e, nLc_e, eLc_e, lSeq_e, lTup_e, eIf_e, eAnd_e, eOr_e, eNot_e, bOf_e, bAnd_e, bOr_e, bNot_e, eFld_e, runB_e, env0_e, oN_e, List.set_cons_zero, List.set_cons_succ, List.map_cons, List.map_nil, List.cons_append, List.nil_append, List.replicate_succ, List.replicate_zero, List.length_cons, List.length_nil, List.getElem?_cons_zero, List.getElem?_cons_succ, reduceIte, if_true, if_false, Bool.false_eq_true, arN_t, decide_true, decide_false, isNon, Bool.not_true, Bool.not_false, Bool.true_and, Bool.false_and, Bool.and_true, Bool.and_false, bYes_e, lstMax_e, Nat.reduceAdd, Nat.reduceSub, Nat.reduceLeDiff, Int.reduceLT, Int.reduceLE, Int.reduceEq, String.reduceEq, and_self, decide_eq_true_eq, and_true, true_and, cPos_e, cDiv_e, fMod_i, fDiv_i, Int.reduceMod, Int.reduceDiv, Int.reduceSub, Int.reduceAdd, Int.reducePow, kOf_i, fsOf_i, fOwn_k, fOwn1_k, gFld_k, methO_e, methK_s, methA_s, ownK_s, ownK_n, ownK_m, own1K_s, own1K_n, fldK_s, sApp_e, appK_s, sOSub_e, osubK_s, eOIx_e, oixK_s, eOLen_e, olenK_s, ixN_p, Int.reduceToNat, Nat.reduceLT, oS_e, eSl_e, eSlT_e, kSet_e, kSet2_e, kDrop_e, kIf_t, kIf_f, kOwn_e, kApp_e, kOsub1_e, kOsub2_e, osK_s, kOix_e, ixK_s, kFor_e, kUnp_e, unpK_s, kOp1_e, kOp2_e, kUn_e, kC1_e, kC2_e, kA1_e, kA2_e, kFN_e, kCall_e, kMake_e, kCM_e, kMeth_e, kLst_e, lstK_s, kTup_e, tupK_s, kNl_e, nlK_s, nList_e, kNli_e, nliK_s, lOf_l, lOf_t, kNc1_e, kNc2_e, kLc1_e, kLc2_e, kSeq_e, kTpl_e, kEIf_t, kEIf_f, kEAnd_t, kEAnd_f, kEOr_t, kEOr_f, kENot_e, kB_e, kBAnd_t, kBAnd_f, kBOr_t, kBOr_f, kBNot_e, kOS_e, kSl1_e, kSl2_e, kSl3_e, kSt1_e, kSt2_e, kSt3_e, eMeth_e, kMe_e, lc_c, kL1_e, kL2_e, kT_t, kT_f, Int.cast_ofNat_Int, Int.natCast_zero, Int.natCast_one, lRng1_e, kRng_1, kRng_2, kRng_3, kRng_4, kRng_5, kRng_6, List.length_map, arS_0, sEr_e, sTryAs_e, tryK_nx, tryK_rt, tryK_er, afterO_rt, afterO_nx, eXf_e, xfS_s, xfK_s, plain_n, plain_e, List.all_cons, List.all_nil, eq_self, sTryN_e, tryN_nx, tryN_rt, tryN_h, tryN_t, dflI_e, dflF_e, not_false_eq_true, eMethK_e, kMK_e, kMK2_e, eProp_e, kPr_e, eNotO_e, kNotO_e, notK_s, g__law_one, m__law_one, e1, List.length_map, ↓st1, ↓st2, e4, ha, e5, f0, f1, One.D], ⟨⟨hj, hk, (by show 0 < 64; decide), h5, Nat.zero_and n, fun h => by dsimp only at h; omega, fun _ => rfl, fun h => by dsimp only at h; omega⟩, hk0, q1, q2, q3⟩⟩
  rw [decide_eq_false c1] at f1
  by_cases c2 : j = 2
  · rw [decide_eq_true c2] at f2
    exact ⟨⟨mask, side, j, k, 63 - n, n⟩, b5, by simp -implicitDefEqProofs only [bind_ok, bind_er, bindN_ok, ofE_ok, ofE_er, seqO_nx, seqO_rt, seqO_er, seqO_bk, seqO_ct, loopO_nx, loopO_ct, loopO_bk, loopO_rt, loopO_er, lift_s, retO_rt, retO_nx, retO_er, mkO_ok, mkO_er, toOpt_ok, eVar_z, eVar_s, oL_z, oL_s, frz_z, frz_s, wipe_n, wipe_c, datas_n, datas_c, map_s, bind_s, setA_n, setA_c, p2_d, p1_d, pN_d, fEq_i, fEq_s, fEq_b, fEq_ii, fNe_i, fNe_s, fNe_b, fSub_i, fAdd_i, fAnd_i, fOr_i, fXor_i, fLt_i, fLe_i, fGt_i, fGe_i, fIs_d, fIsNot_d, fIsB_b, isB_b, tru_b, tru_i, tru_l, tru_t, orE_s, orE_n, alt2_e, alt1_e, altN_e, fIx_l, fIx_t, at_0, at_1, at_2, at_3, at_4, at_5, for_n, for_c, lc_n, len_lst, len_tup, kfn_c, kix_c, sSeq_e, sNil_e, sSet_e, sSet2_e, sRet_e, sRetN_e, sDrop_e, sIf_e, sBk_e, sCt_e, sFrz_e, sOwn_e, sFor_e, sUnp_e, eC_e, eOp_e, eUn_e, aNil_e, aCons_e, aApp_e, eFN_e, eCall_e, eMake_e, eCMeth_e, eCallO_e, eLst_e, eTup_e, nLst_e, nLc_e, eLc_e, lSeq_e, lTup_e, eIf_e, eAnd_e, eOr_e, eNot_e, bOf_e, bAnd_e, bOr_e, bNot_e, eFld_e, runB_e, env0_e, oN_e, List.set_cons_zero, List.set_cons_succ, List.map_cons, List.map_nil, List.cons_append, List.nil_append, List.replicate_succ, List.replicate_zero, List.length_cons, List.length_nil, List.getElem?_cons_zero, List.getElem?_cons_succ, reduceIte, if_true, if_false, Bool.false_eq_true, arN_t, decide_true, decide_false, isNon, Bool.not_true, Bool.not_false, Bool.true_and, Bool.false_and, Bool.and_true, Bool.and_false, bYes_e, lstMax_e, Nat.reduceAdd, Nat.reduceSub, Nat.reduceLeDiff, Int.reduceLT, Int.reduceLE, Int.reduceEq, String.reduceEq, and_self, decide_eq_true_eq, and_true, true_and, cPos_e, cDiv_e, fMod_i, fDiv_i, Int.reduceMod, Int.reduceDiv, Int.reduceSub, Int.reduceAdd, Int.reducePow, kOf_i, fsOf_i, fOwn_k, fOwn1_k, gFld_k, methO_e, methK_s, methA_s, ownK_s, ownK_n, ownK_m, own1K_s, own1K_n, fldK_s, sApp_e, appK_s, sOSub_e, osubK_s, eOIx_e, oixK_s, eOLen_e, olenK_s, ixN_p, Int.reduceToNat, Nat.reduceLT, oS_e, eSl_e, eSlT_e, kSet_e, kSet2_e, kDrop_e, kIf_t, kIf_f, kOwn_e, kApp_e, kOsub1_e, kOsub2_e, osK_s, kOix_e, ixK_s, kFor_e, kUnp_e, unpK_s, kOp1_e, kOp2_e, kUn_e, kC1_e, kC2_e, kA1_e, kA2_e, kFN_e, kCall_e, kMake_e, kCM_e, kMeth_e, kLst_e, lstK_s, kTup_e, tupK_s, kNl_e, nlK_s, nList_e, kNli_e, nliK_s, lOf_l, lOf_t, kNc1_e, kNc2_e, kLc1_e, kLc2_e, kSeq_e, kTpl_e, kEIf_t, kEIf_f, kEAnd_t, kEAnd_f, kEOr_t, kEOr_f, kENot_e, kB_e, kBAnd_t, kBAnd_f, kBOr_t, kBOr_f, kBNot_e, kOS_e, kSl1_e, kSl2_e, kSl3_e, kSt1_e, kSt2_e, kSt3_e, eMeth_e, kMe_e, lc_c, kL1_e, kL2_e, kT_t, kT_f, Int.cast_ofNat_Int, Int.natCast_zero, Int.natCast_one, lRng1_e, kRng_1, kRng_2, kRng_3, kRng_4, kRng_5, kRng_6, List.length_map, arS_0, sEr_e, sTryAs_e, tryK_nx, tryK_rt, tryK_er, afterO_rt, afterO_nx, eXf_e, xfS_s, xfK_s, plain_n, plain_e, List.all_cons, List.all_nil, eq_self, sTryN_e, tryN_nx, tryN_rt, tryN_h, tryN_t, dflI_e, dflF_e, not_false_eq_true, eMethK_e, kMK_e, kMK2_e, eProp_e, kPr_e, eNotO_e, kNotO_e, notK_s, g__law_one, m__law_one, e1, List.length_map, ↓st1, ↓st2, e4, ha, e5, f0, f1, f2, sb, One.D], ⟨⟨hj, hk, by show 63 - n < 64; omega, h5, inv_and n h5, fun h => by dsimp only at h; omega, fun h => by dsimp only at h; omega, fun _ => rfl⟩, hk0, q1, q2, q3⟩⟩
  rw [decide_eq_false c2] at f2
  obtain ⟨u, b6, e6, h6⟩ := light_b b5
  have hba := bit_tab u h6 (63 - n) (by omega)
  exact ⟨⟨mask, side, j, k, n, u &&& (63 - n)⟩, b6, by simp -implicitDefEqProofs only [bind_ok, bind_er, bindN_ok, ofE_ok, ofE_er, seqO_nx, seqO_rt, seqO_er, seqO_bk, seqO_ct, loopO_nx, loopO_ct, loopO_bk, loopO_rt, loopO_er, lift_s, retO_rt, retO_nx, retO_er, mkO_ok, mkO_er, toOpt_ok, eVar_z, eVar_s, oL_z, oL_s, frz_z, frz_s, wipe_n, wipe_c, datas_n, datas_c, map_s, bind_s, setA_n, setA_c, p2_d, p1_d, pN_d, fEq_i, fEq_s, fEq_b, fEq_ii, fNe_i, fNe_s, fNe_b, fSub_i, fAdd_i, fAnd_i, fOr_i, fXor_i, fLt_i, fLe_i, fGt_i, fGe_i, fIs_d, fIsNot_d, fIsB_b, isB_b, tru_b, tru_i, tru_l, tru_t, orE_s, orE_n, alt2_e, alt1_e, altN_e, fIx_l, fIx_t, at_0, at_1, at_2, at_3, at_4, at_5, for_n, for_c, lc_n, len_lst, len_tup, kfn_c, kix_c, sSeq_e, sNil_e, sSet_e, sSet2_e, sRet_e, sRetN_e, sDrop_e, sIf_e, sBk_e, sCt_e, sFrz_e, sOwn_e, sFor_e, sUnp_e, eC_e, eOp_e, eUn_e, aNil_e, aCons_e, aApp_e, eFN_e, eCall_e, eMake_e, eCMeth_e, eCallO_e, eLst_e, eTup_e, nLst_e, nLc_e, eLc_e, lSeq_e, lTup_e, eIf_e, eAnd_e, eOr_e, eNot_e, bOf_e, bAnd_e, bOr_e, bNot_e, eFld_e, runB_e, env0_e, oN_e, List.set_cons_zero, List.set_cons_succ, List.map_cons, List.map_nil, List.cons_append, List.nil_append, List.replicate_succ, List.replicate_zero, List.length_cons, List.length_nil, List.getElem?_cons_zero, List.getElem?_cons_succ, reduceIte, if_true, if_false, Bool.false_eq_true, arN_t, decide_true, decide_false, isNon, Bool.not_true, Bool.not_false, Bool.true_and, Bool.false_and, Bool.and_true, Bool.and_false, bYes_e, lstMax_e, Nat.reduceAdd, Nat.reduceSub, Nat.reduceLeDiff, Int.reduceLT, Int.reduceLE, Int.reduceEq, String.reduceEq, and_self, decide_eq_true_eq, and_true, true_and, cPos_e, cDiv_e, fMod_i, fDiv_i, Int.reduceMod, Int.reduceDiv, Int.reduceSub, Int.reduceAdd, Int.reducePow, kOf_i, fsOf_i, fOwn_k, fOwn1_k, gFld_k, methO_e, methK_s, methA_s, ownK_s, ownK_n, ownK_m, own1K_s, own1K_n, fldK_s, sApp_e, appK_s, sOSub_e, osubK_s, eOIx_e, oixK_s, eOLen_e, olenK_s, ixN_p, Int.reduceToNat, Nat.reduceLT, oS_e, eSl_e, eSlT_e, kSet_e, kSet2_e, kDrop_e, kIf_t, kIf_f, kOwn_e, kApp_e, kOsub1_e, kOsub2_e, osK_s, kOix_e, ixK_s, kFor_e, kUnp_e, unpK_s, kOp1_e, kOp2_e, kUn_e, kC1_e, kC2_e, kA1_e, kA2_e, kFN_e, kCall_e, kMake_e, kCM_e, kMeth_e, kLst_e, lstK_s, kTup_e, tupK_s, kNl_e, nlK_s, nList_e, kNli_e, nliK_s, lOf_l, lOf_t, kNc1_e, kNc2_e, kLc1_e, kLc2_e, kSeq_e, kTpl_e, kEIf_t, kEIf_f, kEAnd_t, kEAnd_f, kEOr_t, kEOr_f, kENot_e, kB_e, kBAnd_t, kBAnd_f, kBOr_t, kBOr_f, kBNot_e, kOS_e, kSl1_e, kSl2_e, kSl3_e, kSt1_e, kSt2_e, kSt3_e, eMeth_e, kMe_e, lc_c, kL1_e, kL2_e, kT_t, kT_f, Int.cast_ofNat_Int, Int.natCast_zero, Int.natCast_one, lRng1_e, kRng_1, kRng_2, kRng_3, kRng_4, kRng_5, kRng_6, List.length_map, arS_0, sEr_e, sTryAs_e, tryK_nx, tryK_rt, tryK_er, afterO_rt, afterO_nx, eXf_e, xfS_s, xfK_s, plain_n, plain_e, List.all_cons, List.all_nil, eq_self, sTryN_e, tryN_nx, tryN_rt, tryN_h, tryN_t, dflI_e, dflF_e, not_false_eq_true, eMethK_e, kMK_e, kMK2_e, eProp_e, kPr_e, eNotO_e, kNotO_e, notK_s, g__law_one, m__law_one, e1, List.length_map, ↓st1, ↓st2, e4, ha, e5, f0, f1, f2, e6, sb, hba.2.1, One.D], ⟨⟨hj, hk, h5, hba.2.2.2.2.2.2.1, and_inv n h5 u h6, fun h => absurd h c0, fun h => absurd h c1, fun h => absurd h c2⟩, hk0, q1, q2, q3⟩⟩
end K07

set_option Elab.async false
set_option linter.all false
set_option maxRecDepth 100000
set_option maxHeartbeats 4000000
namespace K07
open PySem DL
theorem rt_of {m : SM} {n : Nat} {es : List EV} {G G1 : GS} {e : EV} (h : m (env0 n es) G = .rt e G1) : runB n m es G = .ok e G1 := congrArg retO h
theorem and63 : ∀ c, c < 64 → c &&& 63 = c := by decide +kernel
/-- does an ink of this condition print where it is inked (w), or not -/
def tk : Nat → Bool → Bool | 0, _ => true | 1, w => !w | _, w => w
def efO (k : Nat) (w : Bool) (off : Nat) : Nat := if tk k w = true then off else 0
def efN (k : Nat) (w : Bool) (on : Nat) : Nat := if tk k w = true then on else 0
def efM (k : Nat) (w : Bool) : Bool := if tk k w = true then true else w
/-- the state after -/
def nuN (k off on c : Nat) (w : Bool) : Nat := if tk k w = true then (c &&& (63 - off)) ||| on else c
theorem nuN_ef {k off on c : Nat} {w : Bool} (hc : c < 64) : (c &&& (63 - efO k w off)) ||| efN k w on = nuN k off on c w := by
  unfold efO efN nuN
  cases tk k w with
  | true => rfl
  | false => show (c &&& 63) ||| 0 = c; rw [Nat.or_zero, and63 c hc]
theorem nuN_lt {k off on c : Nat} {w : Bool} (hc : c < 64) (ho : off < 64) (hn : on < 64) : nuN k off on c w < 64 := by
  unfold nuN
  split
  · exact (bit_tab _ (bit_tab c hc off ho).2.2.2.2.2.2.2.2 on hn).2.2.2.2.2.1
  · exact hc
def eD (o n : Nat) (m : Bool) : DL.D := .tup [lightD o, lightD n, .bl m]
def fmD (o n : Nat) (m : Bool) (o2 n2 : Nat) (m2 : Bool) : DL.D := .ins "Film" [eD o n m, eD o2 n2 m2]
section
variable {G : GS} {a b : Nat}
theorem l_or : fOr (.d (lightD a)) (.d (lightD b)) G = none := rfl
theorem l_sub : fSub (.d (lightD a)) (.d (lightD b)) G = none := rfl
theorem l_and : fAnd (.d (lightD a)) (.d (lightD b)) G = none := rfl
theorem l_k : kOf (.d (lightD a)) = some "Light" := rfl
theorem l_fs : fsOf (lightD a) = [.tup (bandsD a), .int a] := rfl
end
theorem eff_gen (o n o2 n2 : Nat) (m m2 w : Bool) (G : GS) : g__effect_for [.d (fmD o n m o2 n2 m2), .d (.bl w)] G = .ok (.d (if w = true then eD o2 n2 m2 else eD o n m)) G := by cases w <;> kernel_rfl
theorem foll_gen {o n p q p2 q2 : Nat} {m r r2 : Bool} (ho : o < 64) (hn : n < 64) (hp : p < 64) (hq : q < 64) (hp2 : p2 < 64) (hq2 : q2 < 64) (G : GS) : g__followed [.d (eD o n m), .d (fmD p q r p2 q2 r2)] G =
    .ok (.d (if m = true then eD ((o &&& (63 - q2)) ||| p2) ((n &&& (63 - p2)) ||| q2) r2 else eD ((o &&& (63 - q)) ||| p) ((n &&& (63 - p)) ||| q) r)) G := by
  cases m
  · simp -implicitDefEqProofs only [bind_ok, bind_er, bindN_ok, ofE_ok, ofE_er, seqO_nx, seqO_rt, seqO_er, seqO_bk, seqO_ct, loopO_nx, loopO_ct, loopO_bk, loopO_rt, loopO_er, lift_s, retO_rt, retO_nx, retO_er, mkO_ok, mkO_er, toOpt_ok, eVar_z, eVar_s, oL_z, oL_s, frz_z, frz_s, wipe_n, wipe_c, datas_n, datas_c, map_s, bind_s, setA_n, setA_c, p2_d, p1_d, pN_d, fEq_i, fEq_s, fEq_b, fEq_ii, fNe_i, fNe_s, fNe_b, fSub_i, fAdd_i, fAnd_i, fOr_i, fXor_i, fLt_i, fLe_i, fGt_i, fGe_i, fIs_d, fIsNot_d, fIsB_b, isB_b, tru_b, tru_i, tru_l, tru_t, orE_s, orE_n, alt2_e, alt1_e, altN_e, fIx_l, fIx_t, at_0, at_1, at_2, at_3, at_4, at_5, for_n, for_c, lc_n, len_lst, len_tup, kfn_c, kix_c, sSeq_e, sNil_e, sSet_e, sSet2_e, sRet_e, sRetN_e, sDrop_e, sIf_e, sBk_e, sCt_e, sFrz_e, sOwn_e, sFor_e, sUnp_e, eC_e, eOp_e, eUn_e, aNil_e, aCons_e, aApp_e, eFN_e, eCall_e, eMake_e, eCMeth_e, eCallO_e, eLst_e, eTup_e, nLst_e, nLc_e, eLc_e, lSeq_e, lTup_e, eIf_e, eAnd_e, eOr_e, eNot_e, bOf_e, bAnd_e, bOr_e, bNot_e, eFld_e, runB_e, env0_e, oN_e, List.set_cons_zero, List.set_cons_succ, List.map_cons, List.map_nil, List.cons_append, List.nil_append, List.replicate_succ, List.replicate_zero, List.length_cons, List.length_nil, List.getElem?_cons_zero, List.getElem?_cons_succ, reduceIte, if_true, if_false, Bool.false_eq_true, arN_t, decide_true, decide_false, isNon, Bool.not_true, Bool.not_false, Bool.true_and, Bool.false_and, Bool.and_true, Bool.and_false, bYes_e, lstMax_e, Nat.reduceAdd, Nat.reduceSub, Nat.reduceLeDiff, Int.reduceLT, Int.reduceLE, Int.reduceEq, String.reduceEq, and_self, decide_eq_true_eq, and_true, true_and, cPos_e, cDiv_e, fMod_i, fDiv_i, Int.reduceMod, Int.reduceDiv, Int.reduceSub, Int.reduceAdd, Int.reducePow, kOf_i, fsOf_i, fOwn_k, fOwn1_k, gFld_k, methO_e, methK_s, methA_s, ownK_s, ownK_n, ownK_m, own1K_s, own1K_n, fldK_s, sApp_e, appK_s, sOSub_e, osubK_s, eOIx_e, oixK_s, eOLen_e, olenK_s, ixN_p, Int.reduceToNat, Nat.reduceLT, oS_e, eSl_e, eSlT_e, kSet_e, kSet2_e, kDrop_e, kIf_t, kIf_f, kOwn_e, kApp_e, kOsub1_e, kOsub2_e, osK_s, kOix_e, ixK_s, kFor_e, kUnp_e, unpK_s, kOp1_e, kOp2_e, kUn_e, kC1_e, kC2_e, kA1_e, kA2_e, kFN_e, kCall_e, kMake_e, kCM_e, kMeth_e, kLst_e, lstK_s, kTup_e, tupK_s, kNl_e, nlK_s, nList_e, kNli_e, nliK_s, lOf_l, lOf_t, kNc1_e, kNc2_e, kLc1_e, kLc2_e, kSeq_e, kTpl_e, kEIf_t, kEIf_f, kEAnd_t, kEAnd_f, kEOr_t, kEOr_f, kENot_e, kB_e, kBAnd_t, kBAnd_f, kBOr_t, kBOr_f, kBNot_e, kOS_e, kSl1_e, kSl2_e, kSl3_e, kSt1_e, kSt2_e, kSt3_e, eMeth_e, kMe_e, lc_c, kL1_e, kL2_e, kT_t, kT_f, Int.cast_ofNat_Int, Int.natCast_zero, Int.natCast_one, lRng1_e, kRng_1, kRng_2, kRng_3, kRng_4, kRng_5, kRng_6, List.length_map, arS_0, sEr_e, sTryAs_e, tryK_nx, tryK_rt, tryK_er, afterO_rt, afterO_nx, eXf_e, xfS_s, xfK_s, plain_n, plain_e, List.all_cons, List.all_nil, eq_self, sTryN_e, tryN_nx, tryN_rt, tryN_h, tryN_t, dflI_e, dflF_e, not_false_eq_true, eMethK_e, kMK_e, kMK2_e, eProp_e, kPr_e, eNotO_e, kNotO_e, notK_s, g__followed, m__followed, eff_gen, eD, l_or, l_sub, l_k, sub_ok ho hq, sub_ok hn hp, or_ok (and_lt64 ho) hp, or_ok (and_lt64 hn) hq]
  · simp -implicitDefEqProofs only [bind_ok, bind_er, bindN_ok, ofE_ok, ofE_er, seqO_nx, seqO_rt, seqO_er, seqO_bk, seqO_ct, loopO_nx, loopO_ct, loopO_bk, loopO_rt, loopO_er, lift_s, retO_rt, retO_nx, retO_er, mkO_ok, mkO_er, toOpt_ok, eVar_z, eVar_s, oL_z, oL_s, frz_z, frz_s, wipe_n, wipe_c, datas_n, datas_c, map_s, bind_s, setA_n, setA_c, p2_d, p1_d, pN_d, fEq_i, fEq_s, fEq_b, fEq_ii, fNe_i, fNe_s, fNe_b, fSub_i, fAdd_i, fAnd_i, fOr_i, fXor_i, fLt_i, fLe_i, fGt_i, fGe_i, fIs_d, fIsNot_d, fIsB_b, isB_b, tru_b, tru_i, tru_l, tru_t, orE_s, orE_n, alt2_e, alt1_e, altN_e, fIx_l, fIx_t, at_0, at_1, at_2, at_3, at_4, at_5, for_n, for_c, lc_n, len_lst, len_tup, kfn_c, kix_c, sSeq_e, sNil_e, sSet_e, sSet2_e, sRet_e, sRetN_e, sDrop_e, sIf_e, sBk_e, sCt_e, sFrz_e, sOwn_e, sFor_e, sUnp_e, eC_e, eOp_e, eUn_e, aNil_e, aCons_e, aApp_e, eFN_e, eCall_e, eMake_e, eCMeth_e, eCallO_e, eLst_e, eTup_e, nLst_e, nLc_e, eLc_e, lSeq_e, lTup_e, eIf_e, eAnd_e, eOr_e, eNot_e, bOf_e, bAnd_e, bOr_e, bNot_e, eFld_e, runB_e, env0_e, oN_e, List.set_cons_zero, List.set_cons_succ, List.map_cons, List.map_nil, List.cons_append, List.nil_append, List.replicate_succ, List.replicate_zero, List.length_cons, List.length_nil, List.getElem?_cons_zero, List.getElem?_cons_succ, reduceIte, if_true, if_false, Bool.false_eq_true, arN_t, decide_true, decide_false, isNon, Bool.not_true, Bool.not_false, Bool.true_and, Bool.false_and, Bool.and_true, Bool.and_false, bYes_e, lstMax_e, Nat.reduceAdd, Nat.reduceSub, Nat.reduceLeDiff, Int.reduceLT, Int.reduceLE, Int.reduceEq, String.reduceEq, and_self, decide_eq_true_eq, and_true, true_and, cPos_e, cDiv_e, fMod_i, fDiv_i, Int.reduceMod, Int.reduceDiv, Int.reduceSub, Int.reduceAdd, Int.reducePow, kOf_i, fsOf_i, fOwn_k, fOwn1_k, gFld_k, methO_e, methK_s, methA_s, ownK_s, ownK_n, ownK_m, own1K_s, own1K_n, fldK_s, sApp_e, appK_s, sOSub_e, osubK_s, eOIx_e, oixK_s, eOLen_e, olenK_s, ixN_p, Int.reduceToNat, Nat.reduceLT, oS_e, eSl_e, eSlT_e, kSet_e, kSet2_e, kDrop_e, kIf_t, kIf_f, kOwn_e, kApp_e, kOsub1_e, kOsub2_e, osK_s, kOix_e, ixK_s, kFor_e, kUnp_e, unpK_s, kOp1_e, kOp2_e, kUn_e, kC1_e, kC2_e, kA1_e, kA2_e, kFN_e, kCall_e, kMake_e, kCM_e, kMeth_e, kLst_e, lstK_s, kTup_e, tupK_s, kNl_e, nlK_s, nList_e, kNli_e, nliK_s, lOf_l, lOf_t, kNc1_e, kNc2_e, kLc1_e, kLc2_e, kSeq_e, kTpl_e, kEIf_t, kEIf_f, kEAnd_t, kEAnd_f, kEOr_t, kEOr_f, kENot_e, kB_e, kBAnd_t, kBAnd_f, kBOr_t, kBOr_f, kBNot_e, kOS_e, kSl1_e, kSl2_e, kSl3_e, kSt1_e, kSt2_e, kSt3_e, eMeth_e, kMe_e, lc_c, kL1_e, kL2_e, kT_t, kT_f, Int.cast_ofNat_Int, Int.natCast_zero, Int.natCast_one, lRng1_e, kRng_1, kRng_2, kRng_3, kRng_4, kRng_5, kRng_6, List.length_map, arS_0, sEr_e, sTryAs_e, tryK_nx, tryK_rt, tryK_er, afterO_rt, afterO_nx, eXf_e, xfS_s, xfK_s, plain_n, plain_e, List.all_cons, List.all_nil, eq_self, sTryN_e, tryN_nx, tryN_rt, tryN_h, tryN_t, dflI_e, dflF_e, not_false_eq_true, eMethK_e, kMK_e, kMK2_e, eProp_e, kPr_e, eNotO_e, kNotO_e, notK_s, g__followed, m__followed, eff_gen, eD, l_or, l_sub, l_k, sub_ok ho hq2, sub_ok hn hp2, or_ok (and_lt64 ho) hp2, or_ok (and_lt64 hn) hq2]
/-! ### films as numbers -/
structure FN where
  o : Nat
  n : Nat
  m : Bool
  o2 : Nat
  n2 : Nat
structure FN.Ok (f : FN) : Prop where
  o : f.o < 64
  n : f.n < 64
  o2 : f.o2 < 64
  n2 : f.n2 < 64
def FN.D (f : FN) : DL.D := fmD f.o f.n f.m f.o2 f.n2 true
def FN.add (f g : FN) : FN := ⟨if f.m = true then (f.o &&& (63 - g.n2)) ||| g.o2 else (f.o &&& (63 - g.n)) ||| g.o, if f.m = true then (f.n &&& (63 - g.o2)) ||| g.n2 else (f.n &&& (63 - g.o)) ||| g.n, if f.m = true then true else g.m, (f.o2 &&& (63 - g.n2)) ||| g.o2, (f.n2 &&& (63 - g.o2)) ||| g.n2⟩
def FN.app (f : FN) (c : Nat) (w : Bool) : Nat × Bool := if w = true then ((c &&& (63 - f.o2)) ||| f.n2, true) else ((c &&& (63 - f.o)) ||| f.n, f.m)
theorem FN.Ok.add {f g : FN} (hf : f.Ok) (hg : g.Ok) : (f.add g).Ok := by
  obtain ⟨f1, f2, f3, f4⟩ := hf
  obtain ⟨g1, g2, g3, g4⟩ := hg
  refine ⟨?_, ?_, or_lt64 (and_lt64 f3) g3, or_lt64 (and_lt64 f4) g4⟩
  · show (if f.m = true then _ else _) < 64
    split
    · exact or_lt64 (and_lt64 f1) g3
    · exact or_lt64 (and_lt64 f1) g1
  · show (if f.m = true then _ else _) < 64
    split
    · exact or_lt64 (and_lt64 f2) g4
    · exact or_lt64 (and_lt64 f2) g2
theorem FN.app_lt {f : FN} (hf : f.Ok) {c : Nat} {w : Bool} (hc : c < 64) : (f.app c w).1 < 64 := by
  unfold FN.app
  split
  · exact or_lt64 (and_lt64 hc) hf.n2
  · exact or_lt64 (and_lt64 hc) hf.n
theorem FN.app_add {f g : FN} (hf : f.Ok) (hg : g.Ok) {c : Nat} {w : Bool} (hc : c < 64) : (f.add g).app c w = g.app (f.app c w).1 (f.app c w).2 := by
  obtain ⟨f1, f2, f3, f4⟩ := hf
  obtain ⟨g1, g2, g3, g4⟩ := hg
  obtain ⟨fo, fn, fm, fo2, fn2⟩ := f
  obtain ⟨go, gn, gm, go2, gn2⟩ := g
  cases w <;> cases fm <;> simp only [FN.app, FN.add, if_true, if_false, Bool.false_eq_true, reduceIte]
  · rw [two_steps f1 f2 g1 g2 hc]
  · rw [two_steps f1 f2 g3 g4 hc]
  · rw [two_steps f3 f4 g3 g4 hc]
  · rw [two_steps f3 f4 g3 g4 hc]
theorem assoc_o {o p q r s : Nat} (hp : p < 64) (hq : q < 64) (hr : r < 64) (hs : s < 64) (ho : o < 64) : (((o &&& (63 - q)) ||| p) &&& (63 - s)) ||| r = (o &&& (63 - ((q &&& (63 - r)) ||| s))) ||| ((p &&& (63 - s)) ||| r) := by
  refine Nat.eq_of_testBit_eq fun i => ?_
  have hz : (q &&& (63 - r)) ||| s < 64 := or_lt64 (and_lt64 hq) hs
  simp only [Nat.testBit_or, Nat.testBit_and, tb_cp hz, tb_cp hs, tb_cp hq, tb_cp hr]
  have k1 := fun h => tb_hi (i := i) ho h
  have k2 := fun h => tb_hi (i := i) hp h
  have k3 := fun h => tb_hi (i := i) hr h
  by_cases h : i < 6
  · rw [decide_eq_true h]
    cases o.testBit i <;> cases p.testBit i <;> cases q.testBit i <;> cases r.testBit i <;> cases s.testBit i <;> rfl
  · rw [decide_eq_false h, k1 (by omega), k2 (by omega), k3 (by omega)]
    rfl
theorem FN.assoc {f g h : FN} (hf : f.Ok) (hg : g.Ok) (hh : h.Ok) : (f.add g).add h = f.add (g.add h) := by
  obtain ⟨f1, f2, f3, f4⟩ := hf
  obtain ⟨g1, g2, g3, g4⟩ := hg
  obtain ⟨h1, h2, h3, h4⟩ := hh
  obtain ⟨fo, fn, fm, fo2, fn2⟩ := f
  obtain ⟨go, gn, gm, go2, gn2⟩ := g
  obtain ⟨ho, hn, hm, ho2, hn2⟩ := h
  cases fm <;> cases gm <;> simp only [FN.add, if_true, if_false, Bool.false_eq_true, reduceIte, FN.mk.injEq, true_and, and_true]
  · exact ⟨assoc_o g1 g2 h1 h2 f1, assoc_o g2 g1 h2 h1 f2, assoc_o g3 g4 h3 h4 f3, assoc_o g4 g3 h4 h3 f4⟩
  · exact ⟨assoc_o g1 g2 h3 h4 f1, assoc_o g2 g1 h4 h3 f2, assoc_o g3 g4 h3 h4 f3, assoc_o g4 g3 h4 h3 f4⟩
  · exact ⟨assoc_o g3 g4 h3 h4 f1, assoc_o g4 g3 h4 h3 f2, assoc_o g3 g4 h3 h4 f3, assoc_o g4 g3 h4 h3 f4⟩
  · exact ⟨assoc_o g3 g4 h3 h4 f1, assoc_o g4 g3 h4 h3 f2, assoc_o g3 g4 h3 h4 f3, assoc_o g4 g3 h4 h3 f4⟩
def FN.zero : FN := ⟨0, 0, false, 0, 0⟩
theorem FN.zero_add (f : FN) : FN.zero.add f = f := by
  obtain ⟨fo, fn, fm, fo2, fn2⟩ := f
  simp [FN.zero, FN.add]
theorem FN.add_zero {f : FN} (hf : f.Ok) : f.add FN.zero = f := by
  obtain ⟨f1, f2, f3, f4⟩ := hf
  obtain ⟨fo, fn, fm, fo2, fn2⟩ := f
  cases fm <;> simp [FN.zero, FN.add, and63 fo f1, and63 fn f2, and63 fo2 f3, and63 fn2 f4]
def inkF (k off on : Nat) : FN := ⟨efO k false off, efN k false on, efM k false, efO k true off, efN k true on⟩
theorem inkF_ok {k off on : Nat} (ho : off < 64) (hn : on < 64) : (inkF k off on).Ok := by
  refine ⟨?_, ?_, ?_, ?_⟩
  · show efO k false off < 64
    unfold efO; split <;> omega
  · show efN k false on < 64
    unfold efN; split <;> omega
  · show efO k true off < 64
    unfold efO; split <;> omega
  · show efN k true on < 64
    unfold efN; split <;> omega
theorem inkF_app {k off on c : Nat} {w : Bool} (hk : k < 3) (hc : c < 64) : (inkF k off on).app c w = (nuN k off on c w, efM k w) := by
  cases w
  · show ((c &&& (63 - efO k false off)) ||| efN k false on, efM k false) = _
    rw [nuN_ef hc]
  · show ((c &&& (63 - efO k true off)) ||| efN k true on, true) = _
    rw [nuN_ef hc, show efM k true = true by rcases three hk with rfl | rfl | rfl <;> rfl]
def One.f (x : One) : FN := inkF x.k x.off x.on
theorem One.Ok.f {x : One} (h : x.Ok) : x.f.Ok := inkF_ok h.ho h.hn
def One.I (x : One) : DL.D := inkD x.j x.k x.off x.on
theorem cl4 {j : Nat} (h : j < 4) : clS j = "Filter" ∨ clS j = "Bleach" ∨ clS j = "Opaque" ∨ clS j = "Ink" := by rcases four h with rfl | rfl | rfl | rfl <;> simp [clS]
theorem I_k (x : One) : kOf (.d x.I) = some (clS x.j) := rfl
theorem I_fs (x : One) : fsOf x.I = [lightD x.off, lightD x.on, .str (whS x.k)] := rfl
theorem kixI {j i : Nat} (h : j < 4) : kix [("Ink", i), ("Filter", i), ("Opaque", i), ("Bleach", i)] (clS j) = some i := by rcases four h with rfl | rfl | rfl | rfl <;> rfl
/-! ### the program's films -/
theorem f_k (f : FN) : kOf (.d f.D) = some "Film" := rfl
theorem f_fs (f : FN) : fsOf f.D = [eD f.o f.n f.m, eD f.o2 f.n2 true] := rfl
theorem f_o (f g : FN) (G : GS) : fAdd (.d f.D) (.d g.D) G = none := rfl
theorem add_gen {f g : FN} (hf : f.Ok) (hg : g.Ok) (G : GS) : g_Film___add__ [.d f.D, .d g.D] G = .ok (.d (f.add g).D) G := by
  obtain ⟨f1, f2, f3, f4⟩ := hf
  obtain ⟨g1, g2, g3, g4⟩ := hg
  obtain ⟨fo, fn, fm, fo2, fn2⟩ := f
  obtain ⟨go, gn, gm, go2, gn2⟩ := g
  have e1 := foll_gen (m := fm) (r := gm) (r2 := true) f1 f2 g1 g2 g3 g4 G
  have e2 := foll_gen (m := true) (r := gm) (r2 := true) f3 f4 g1 g2 g3 g4 G
  have mk : ∀ x y : DL.D, g_Film___init__ [.d x, .d y] G = .ok [x, y] G := fun x y => by kernel_rfl
  cases fm <;> simp -implicitDefEqProofs only [bind_ok, bind_er, bindN_ok, ofE_ok, ofE_er, seqO_nx, seqO_rt, seqO_er, seqO_bk, seqO_ct, loopO_nx, loopO_ct, loopO_bk, loopO_rt, loopO_er, lift_s, retO_rt, retO_nx, retO_er, mkO_ok, mkO_er, toOpt_ok, eVar_z, eVar_s, oL_z, oL_s, frz_z, frz_s, wipe_n, wipe_c, datas_n, datas_c, map_s, bind_s, setA_n, setA_c, p2_d, p1_d, pN_d, fEq_i, fEq_s, fEq_b, fEq_ii, fNe_i, fNe_s, fNe_b, fSub_i, fAdd_i, fAnd_i, fOr_i, fXor_i, fLt_i, fLe_i, fGt_i, fGe_i, fIs_d, fIsNot_d, fIsB_b, isB_b, tru_b, tru_i, tru_l, tru_t, orE_s, orE_n, alt2_e, alt1_e, altN_e, fIx_l, fIx_t, at_0, at_1, at_2, at_3, at_4, at_5, for_n, for_c, lc_n, len_lst, len_tup, kfn_c, kix_c, sSeq_e, sNil_e, sSet_e, sSet2_e, sRet_e, sRetN_e, sDrop_e, sIf_e, sBk_e, sCt_e, sFrz_e, sOwn_e, sFor_e, sUnp_e, eC_e, eOp_e, eUn_e, aNil_e, aCons_e, aApp_e, eFN_e, eCall_e, eMake_e, eCMeth_e, eCallO_e, eLst_e, eTup_e, nLst_e, nLc_e, eLc_e, lSeq_e, lTup_e, eIf_e, eAnd_e, eOr_e, eNot_e, bOf_e, bAnd_e, bOr_e, bNot_e, eFld_e, runB_e, env0_e, oN_e, List.set_cons_zero, List.set_cons_succ, List.map_cons, List.map_nil, List.cons_append, List.nil_append, List.replicate_succ, List.replicate_zero, List.length_cons, List.length_nil, List.getElem?_cons_zero, List.getElem?_cons_succ, reduceIte, if_true, if_false, Bool.false_eq_true, arN_t, decide_true, decide_false, isNon, Bool.not_true, Bool.not_false, Bool.true_and, Bool.false_and, Bool.and_true, Bool.and_false, bYes_e, lstMax_e, Nat.reduceAdd, Nat.reduceSub, Nat.reduceLeDiff, Int.reduceLT, Int.reduceLE, Int.reduceEq, String.reduceEq, and_self, decide_eq_true_eq, and_true, true_and, cPos_e, cDiv_e, fMod_i, fDiv_i, Int.reduceMod, Int.reduceDiv, Int.reduceSub, Int.reduceAdd, Int.reducePow, kOf_i, fsOf_i, fOwn_k, fOwn1_k, gFld_k, methO_e, methK_s, methA_s, ownK_s, ownK_n, ownK_m, own1K_s, own1K_n, fldK_s, sApp_e, appK_s, sOSub_e, osubK_s, eOIx_e, oixK_s, eOLen_e, olenK_s, ixN_p, Int.reduceToNat, Nat.reduceLT, oS_e, eSl_e, eSlT_e, kSet_e, kSet2_e, kDrop_e, kIf_t, kIf_f, kOwn_e, kApp_e, kOsub1_e, kOsub2_e, osK_s, kOix_e, ixK_s, kFor_e, kUnp_e, unpK_s, kOp1_e, kOp2_e, kUn_e, kC1_e, kC2_e, kA1_e, kA2_e, kFN_e, kCall_e, kMake_e, kCM_e, kMeth_e, kLst_e, lstK_s, kTup_e, tupK_s, kNl_e, nlK_s, nList_e, kNli_e, nliK_s, lOf_l, lOf_t, kNc1_e, kNc2_e, kLc1_e, kLc2_e, kSeq_e, kTpl_e, kEIf_t, kEIf_f, kEAnd_t, kEAnd_f, kEOr_t, kEOr_f, kENot_e, kB_e, kBAnd_t, kBAnd_f, kBOr_t, kBOr_f, kBNot_e, kOS_e, kSl1_e, kSl2_e, kSl3_e, kSt1_e, kSt2_e, kSt3_e, eMeth_e, kMe_e, lc_c, kL1_e, kL2_e, kT_t, kT_f, Int.cast_ofNat_Int, Int.natCast_zero, Int.natCast_one, lRng1_e, kRng_1, kRng_2, kRng_3, kRng_4, kRng_5, kRng_6, List.length_map, arS_0, sEr_e, sTryAs_e, tryK_nx, tryK_rt, tryK_er, afterO_rt, afterO_nx, eXf_e, xfS_s, xfK_s, plain_n, plain_e, List.all_cons, List.all_nil, eq_self, sTryN_e, tryN_nx, tryN_rt, tryN_h, tryN_t, dflI_e, dflF_e, not_false_eq_true, eMethK_e, kMK_e, kMK2_e, eProp_e, kPr_e, eNotO_e, kNotO_e, notK_s, g_Film___add__, m_Film___add__, FN.D, fmD, mk] <;> simp -implicitDefEqProofs only [bind_ok, bind_er, bindN_ok, ofE_ok, ofE_er, seqO_nx, seqO_rt, seqO_er, seqO_bk, seqO_ct, loopO_nx, loopO_ct, loopO_bk, loopO_rt, loopO_er, lift_s, retO_rt, retO_nx, retO_er, mkO_ok, mkO_er, toOpt_ok, eVar_z, eVar_s, oL_z, oL_s, frz_z, frz_s, wipe_n, wipe_c, datas_n, datas_c, map_s, bind_s, setA_n, setA_c, p2_d, p1_d, pN_d, fEq_i, fEq_s, fEq_b, fEq_ii, fNe_i, fNe_s, fNe_b, fSub_i, fAdd_i, fAnd_i, fOr_i, fXor_i, fLt_i, fLe_i, fGt_i, fGe_i, fIs_d, fIsNot_d, fIsB_b, isB_b, tru_b, tru_i, tru_l, tru_t, orE_s, orE_n, alt2_e, alt1_e, altN_e, fIx_l, fIx_t, at_0, at_1, at_2, at_3, at_4, at_5, for_n, for_c, lc_n, len_lst, len_tup, kfn_c, kix_c, sSeq_e, sNil_e, sSet_e, sSet2_e, sRet_e, sRetN_e, sDrop_e, sIf_e, sBk_e, sCt_e, sFrz_e, sOwn_e, sFor_e, sUnp_e, eC_e, eOp_e, eUn_e, aNil_e, aCons_e, aApp_e, eFN_e, eCall_e, eMake_e, eCMeth_e, eCallO_e, eLst_e, eTup_e, nLst_e, nLc_e, eLc_e, lSeq_e, lTup_e, eIf_e, eAnd_e, eOr_e, eNot_e, bOf_e, bAnd_e, bOr_e, bNot_e, eFld_e, runB_e, env0_e, oN_e, List.set_cons_zero, List.set_cons_succ, List.map_cons, List.map_nil, List.cons_append, List.nil_append, List.replicate_succ, List.replicate_zero, List.length_cons, List.length_nil, List.getElem?_cons_zero, List.getElem?_cons_succ, reduceIte, if_true, if_false, Bool.false_eq_true, arN_t, decide_true, decide_false, isNon, Bool.not_true, Bool.not_false, Bool.true_and, Bool.false_and, Bool.and_true, Bool.and_false, bYes_e, lstMax_e, Nat.reduceAdd, Nat.reduceSub, Nat.reduceLeDiff, Int.reduceLT, Int.reduceLE, Int.reduceEq, String.reduceEq, and_self, decide_eq_true_eq, and_true, true_and, cPos_e, cDiv_e, fMod_i, fDiv_i, Int.reduceMod, Int.reduceDiv, Int.reduceSub, Int.reduceAdd, Int.reducePow, kOf_i, fsOf_i, fOwn_k, fOwn1_k, gFld_k, methO_e, methK_s, methA_s, ownK_s, ownK_n, ownK_m, own1K_s, own1K_n, fldK_s, sApp_e, appK_s, sOSub_e, osubK_s, eOIx_e, oixK_s, eOLen_e, olenK_s, ixN_p, Int.reduceToNat, Nat.reduceLT, oS_e, eSl_e, eSlT_e, kSet_e, kSet2_e, kDrop_e, kIf_t, kIf_f, kOwn_e, kApp_e, kOsub1_e, kOsub2_e, osK_s, kOix_e, ixK_s, kFor_e, kUnp_e, unpK_s, kOp1_e, kOp2_e, kUn_e, kC1_e, kC2_e, kA1_e, kA2_e, kFN_e, kCall_e, kMake_e, kCM_e, kMeth_e, kLst_e, lstK_s, kTup_e, tupK_s, kNl_e, nlK_s, nList_e, kNli_e, nliK_s, lOf_l, lOf_t, kNc1_e, kNc2_e, kLc1_e, kLc2_e, kSeq_e, kTpl_e, kEIf_t, kEIf_f, kEAnd_t, kEAnd_f, kEOr_t, kEOr_f, kENot_e, kB_e, kBAnd_t, kBAnd_f, kBOr_t, kBOr_f, kBNot_e, kOS_e, kSl1_e, kSl2_e, kSl3_e, kSt1_e, kSt2_e, kSt3_e, eMeth_e, kMe_e, lc_c, kL1_e, kL2_e, kT_t, kT_f, Int.cast_ofNat_Int, Int.natCast_zero, Int.natCast_one, lRng1_e, kRng_1, kRng_2, kRng_3, kRng_4, kRng_5, kRng_6, List.length_map, arS_0, sEr_e, sTryAs_e, tryK_nx, tryK_rt, tryK_er, afterO_rt, afterO_nx, eXf_e, xfS_s, xfK_s, plain_n, plain_e, List.all_cons, List.all_nil, eq_self, sTryN_e, tryN_nx, tryN_rt, tryN_h, tryN_t, dflI_e, dflF_e, not_false_eq_true, eMethK_e, kMK_e, kMK2_e, eProp_e, kPr_e, eNotO_e, kNotO_e, notK_s, fmD] at e1 e2 <;> simp -implicitDefEqProofs only [bind_ok, bind_er, bindN_ok, ofE_ok, ofE_er, seqO_nx, seqO_rt, seqO_er, seqO_bk, seqO_ct, loopO_nx, loopO_ct, loopO_bk, loopO_rt, loopO_er, lift_s, retO_rt, retO_nx, retO_er, mkO_ok, mkO_er, toOpt_ok, eVar_z, eVar_s, oL_z, oL_s, frz_z, frz_s, wipe_n, wipe_c, datas_n, datas_c, map_s, bind_s, setA_n, setA_c, p2_d, p1_d, pN_d, fEq_i, fEq_s, fEq_b, fEq_ii, fNe_i, fNe_s, fNe_b, fSub_i, fAdd_i, fAnd_i, fOr_i, fXor_i, fLt_i, fLe_i, fGt_i, fGe_i, fIs_d, fIsNot_d, fIsB_b, isB_b, tru_b, tru_i, tru_l, tru_t, orE_s, orE_n, alt2_e, alt1_e, altN_e, fIx_l, fIx_t, at_0, at_1, at_2, at_3, at_4, at_5, for_n, for_c, lc_n, len_lst, len_tup, kfn_c, kix_c, sSeq_e, sNil_e, sSet_e, sSet2_e, sRet_e, sRetN_e, sDrop_e, sIf_e, sBk_e, sCt_e, sFrz_e, sOwn_e, sFor_e, sUnp_e, eC_e, eOp_e, eUn_e, aNil_e, aCons_e, aApp_e, eFN_e, eCall_e, eMake_e, eCMeth_e, eCallO_e, eLst_e, eTup_e, nLst_e, nLc_e, eLc_e, lSeq_e, lTup_e, eIf_e, eAnd_e, eOr_e, eNot_e, bOf_e, bAnd_e, bOr_e, bNot_e, eFld_e, runB_e, env0_e, oN_e, List.set_cons_zero, List.set_cons_succ, List.map_cons, List.map_nil, List.cons_append, List.nil_append, List.replicate_succ, List.replicate_zero, List.length_cons, List.length_nil, List.getElem?_cons_zero, List.getElem?_cons_succ, reduceIte, if_true, if_false, Bool.false_eq_true, arN_t, decide_true, decide_false, isNon, Bool.not_true, Bool.not_false, Bool.true_and, Bool.false_and, Bool.and_true, Bool.and_false, bYes_e, lstMax_e, Nat.reduceAdd, Nat.reduceSub, Nat.reduceLeDiff, Int.reduceLT, Int.reduceLE, Int.reduceEq, String.reduceEq, and_self, decide_eq_true_eq, and_true, true_and, cPos_e, cDiv_e, fMod_i, fDiv_i, Int.reduceMod, Int.reduceDiv, Int.reduceSub, Int.reduceAdd, Int.reducePow, kOf_i, fsOf_i, fOwn_k, fOwn1_k, gFld_k, methO_e, methK_s, methA_s, ownK_s, ownK_n, ownK_m, own1K_s, own1K_n, fldK_s, sApp_e, appK_s, sOSub_e, osubK_s, eOIx_e, oixK_s, eOLen_e, olenK_s, ixN_p, Int.reduceToNat, Nat.reduceLT, oS_e, eSl_e, eSlT_e, kSet_e, kSet2_e, kDrop_e, kIf_t, kIf_f, kOwn_e, kApp_e, kOsub1_e, kOsub2_e, osK_s, kOix_e, ixK_s, kFor_e, kUnp_e, unpK_s, kOp1_e, kOp2_e, kUn_e, kC1_e, kC2_e, kA1_e, kA2_e, kFN_e, kCall_e, kMake_e, kCM_e, kMeth_e, kLst_e, lstK_s, kTup_e, tupK_s, kNl_e, nlK_s, nList_e, kNli_e, nliK_s, lOf_l, lOf_t, kNc1_e, kNc2_e, kLc1_e, kLc2_e, kSeq_e, kTpl_e, kEIf_t, kEIf_f, kEAnd_t, kEAnd_f, kEOr_t, kEOr_f, kENot_e, kB_e, kBAnd_t, kBAnd_f, kBOr_t, kBOr_f, kBNot_e, kOS_e, kSl1_e, kSl2_e, kSl3_e, kSt1_e, kSt2_e, kSt3_e, eMeth_e, kMe_e, lc_c, kL1_e, kL2_e, kT_t, kT_f, Int.cast_ofNat_Int, Int.natCast_zero, Int.natCast_one, lRng1_e, kRng_1, kRng_2, kRng_3, kRng_4, kRng_5, kRng_6, List.length_map, arS_0, sEr_e, sTryAs_e, tryK_nx, tryK_rt, tryK_er, afterO_rt, afterO_nx, eXf_e, xfS_s, xfK_s, plain_n, plain_e, List.all_cons, List.all_nil, eq_self, sTryN_e, tryN_nx, tryN_rt, tryN_h, tryN_t, dflI_e, dflF_e, not_false_eq_true, eMethK_e, kMK_e, kMK2_e, eProp_e, kPr_e, eNotO_e, kNotO_e, notK_s, e1, e2, mk, FN.add]
/-! ### the law's steps -/
def stT (s : Nat × Bool) : DL.D := .tup [.int (s.1 : Nat), .bl s.2]
def One.act (x : One) (lit : List Str) : Bool := match x.mask with
  | none => true
  | some m => !decide ((lit.any (· == m) != false) = x.side)
def One.app (x : One) (lit : List Str) (s : Nat × Bool) : Nat × Bool := if x.act lit = true then x.f.app s.1 s.2 else s
theorem texts_map : ∀ l : List Str, texts (l.map DL.D.str) = some l
  | [] => rfl
  | x :: l => by show (texts (l.map DL.D.str)).map (x :: ·) = _; rw [texts_map l]; rfl
theorem gInS_l {m : Str} {lit : List Str} : gInS false (.str m) (.lst (lit.map .str)) = some (.bl (lit.any (· == m) != false)) := by show (texts (lit.map DL.D.str)).map _ = _; rw [texts_map]; rfl
theorem fInS_l {m : Str} {lit : List Str} {G : GS} : fInS (.d (.str m)) (.d (.lst (lit.map .str))) G = some (.d (.bl (lit.any (· == m) != false)), G) := by show Option.map _ (gInS false (.str m) (.lst (lit.map .str))) = _; rw [gInS_l]; rfl
theorem act_gen (x : One) (lit : List Str) (G : GS) : g__law_active [.d x.D, .d (.lst (lit.map .str))] G = .ok (.d (.bl (x.act lit))) G := by
  obtain ⟨mask, side, j, k, off, on⟩ := x
  cases mask with
  | none => simp -implicitDefEqProofs only [bind_ok, bind_er, bindN_ok, ofE_ok, ofE_er, seqO_nx, seqO_rt, seqO_er, seqO_bk, seqO_ct, loopO_nx, loopO_ct, loopO_bk, loopO_rt, loopO_er, lift_s, retO_rt, retO_nx, retO_er, mkO_ok, mkO_er, toOpt_ok, eVar_z, eVar_s, oL_z, oL_s, frz_z, frz_s, wipe_n, wipe_c, datas_n, datas_c, map_s, bind_s, setA_n, setA_c, p2_d, p1_d, pN_d, fEq_i, fEq_s, fEq_b, fEq_ii, fNe_i, fNe_s, fNe_b, fSub_i, fAdd_i, fAnd_i, fOr_i, fXor_i, fLt_i, fLe_i, fGt_i, fGe_i, fIs_d, fIsNot_d, fIsB_b, isB_b, tru_b, tru_i, tru_l, tru_t, orE_s, orE_n, alt2_e, alt1_e, altN_e, fIx_l, fIx_t, at_0, at_1, at_2, at_3, at_4, at_5, for_n, for_c, lc_n, len_lst, len_tup, kfn_c, kix_c, sSeq_e, sNil_e, sSet_e, sSet2_e, sRet_e, sRetN_e, sDrop_e, sIf_e, sBk_e, sCt_e, sFrz_e, sOwn_e, sFor_e, sUnp_e, eC_e, eOp_e, eUn_e, aNil_e, aCons_e, aApp_e, eFN_e, eCall_e, eMake_e, eCMeth_e, eCallO_e, eLst_e, eTup_e, nLst_e, nLc_e, eLc_e, lSeq_e, lTup_e, eIf_e, eAnd_e, eOr_e, eNot_e, bOf_e, bAnd_e, bOr_e, bNot_e, eFld_e, runB_e, env0_e, oN_e, List.set_cons_zero, List.set_cons_succ, List.map_cons, List.map_nil, List.cons_append, List.nil_append, List.replicate_succ, List.replicate_zero, List.length_cons, List.length_nil, List.getElem?_cons_zero, List.getElem?_cons_succ, reduceIte, if_true, if_false, Bool.false_eq_true, arN_t, decide_true, decide_false, isNon, Bool.not_true, Bool.not_false, Bool.true_and, Bool.false_and, Bool.and_true, Bool.and_false, bYes_e, lstMax_e, Nat.reduceAdd, Nat.reduceSub, Nat.reduceLeDiff, Int.reduceLT, Int.reduceLE, Int.reduceEq, String.reduceEq, and_self, decide_eq_true_eq, and_true, true_and, cPos_e, cDiv_e, fMod_i, fDiv_i, Int.reduceMod, Int.reduceDiv, Int.reduceSub, Int.reduceAdd, Int.reducePow, kOf_i, fsOf_i, fOwn_k, fOwn1_k, gFld_k, methO_e, methK_s, methA_s, ownK_s, ownK_n, ownK_m, own1K_s, own1K_n, fldK_s, sApp_e, appK_s, sOSub_e, osubK_s, eOIx_e, oixK_s, eOLen_e, olenK_s, ixN_p, Int.reduceToNat, Nat.reduceLT, oS_e, eSl_e, eSlT_e, kSet_e, kSet2_e, kDrop_e, kIf_t, kIf_f, kOwn_e, kApp_e, kOsub1_e, kOsub2_e, osK_s, kOix_e, ixK_s, kFor_e, kUnp_e, unpK_s, kOp1_e, kOp2_e, kUn_e, kC1_e, kC2_e, kA1_e, kA2_e, kFN_e, kCall_e, kMake_e, kCM_e, kMeth_e, kLst_e, lstK_s, kTup_e, tupK_s, kNl_e, nlK_s, nList_e, kNli_e, nliK_s, lOf_l, lOf_t, kNc1_e, kNc2_e, kLc1_e, kLc2_e, kSeq_e, kTpl_e, kEIf_t, kEIf_f, kEAnd_t, kEAnd_f, kEOr_t, kEOr_f, kENot_e, kB_e, kBAnd_t, kBAnd_f, kBOr_t, kBOr_f, kBNot_e, kOS_e, kSl1_e, kSl2_e, kSl3_e, kSt1_e, kSt2_e, kSt3_e, eMeth_e, kMe_e, lc_c, kL1_e, kL2_e, kT_t, kT_f, Int.cast_ofNat_Int, Int.natCast_zero, Int.natCast_one, lRng1_e, kRng_1, kRng_2, kRng_3, kRng_4, kRng_5, kRng_6, List.length_map, arS_0, sEr_e, sTryAs_e, tryK_nx, tryK_rt, tryK_er, afterO_rt, afterO_nx, eXf_e, xfS_s, xfK_s, plain_n, plain_e, List.all_cons, List.all_nil, eq_self, sTryN_e, tryN_nx, tryN_rt, tryN_h, tryN_t, dflI_e, dflF_e, not_false_eq_true, eMethK_e, kMK_e, kMK2_e, eProp_e, kPr_e, eNotO_e, kNotO_e, notK_s, g__law_active, m__law_active, One.D, maskD, One.act]
  | some m => simp -implicitDefEqProofs only [bind_ok, bind_er, bindN_ok, ofE_ok, ofE_er, seqO_nx, seqO_rt, seqO_er, seqO_bk, seqO_ct, loopO_nx, loopO_ct, loopO_bk, loopO_rt, loopO_er, lift_s, retO_rt, retO_nx, retO_er, mkO_ok, mkO_er, toOpt_ok, eVar_z, eVar_s, oL_z, oL_s, frz_z, frz_s, wipe_n, wipe_c, datas_n, datas_c, map_s, bind_s, setA_n, setA_c, p2_d, p1_d, pN_d, fEq_i, fEq_s, fEq_b, fEq_ii, fNe_i, fNe_s, fNe_b, fSub_i, fAdd_i, fAnd_i, fOr_i, fXor_i, fLt_i, fLe_i, fGt_i, fGe_i, fIs_d, fIsNot_d, fIsB_b, isB_b, tru_b, tru_i, tru_l, tru_t, orE_s, orE_n, alt2_e, alt1_e, altN_e, fIx_l, fIx_t, at_0, at_1, at_2, at_3, at_4, at_5, for_n, for_c, lc_n, len_lst, len_tup, kfn_c, kix_c, sSeq_e, sNil_e, sSet_e, sSet2_e, sRet_e, sRetN_e, sDrop_e, sIf_e, sBk_e, sCt_e, sFrz_e, sOwn_e, sFor_e, sUnp_e, eC_e, eOp_e, eUn_e, aNil_e, aCons_e, aApp_e, eFN_e, eCall_e, eMake_e, eCMeth_e, eCallO_e, eLst_e, eTup_e, nLst_e, nLc_e, eLc_e, lSeq_e, lTup_e, eIf_e, eAnd_e, eOr_e, eNot_e, bOf_e, bAnd_e, bOr_e, bNot_e, eFld_e, runB_e, env0_e, oN_e, List.set_cons_zero, List.set_cons_succ, List.map_cons, List.map_nil, List.cons_append, List.nil_append, List.replicate_succ, List.replicate_zero, List.length_cons, List.length_nil, List.getElem?_cons_zero, List.getElem?_cons_succ, reduceIte, if_true, if_false, Bool.false_eq_true, arN_t, decide_true, decide_false, isNon, Bool.not_true, Bool.not_false, Bool.true_and, Bool.false_and, Bool.and_true, Bool.and_false, bYes_e, lstMax_e, Nat.reduceAdd, Nat.reduceSub, Nat.reduceLeDiff, Int.reduceLT, Int.reduceLE, Int.reduceEq, String.reduceEq, and_self, decide_eq_true_eq, and_true, true_and, cPos_e, cDiv_e, fMod_i, fDiv_i, Int.reduceMod, Int.reduceDiv, Int.reduceSub, Int.reduceAdd, Int.reducePow, kOf_i, fsOf_i, fOwn_k, fOwn1_k, gFld_k, methO_e, methK_s, methA_s, ownK_s, ownK_n, ownK_m, own1K_s, own1K_n, fldK_s, sApp_e, appK_s, sOSub_e, osubK_s, eOIx_e, oixK_s, eOLen_e, olenK_s, ixN_p, Int.reduceToNat, Nat.reduceLT, oS_e, eSl_e, eSlT_e, kSet_e, kSet2_e, kDrop_e, kIf_t, kIf_f, kOwn_e, kApp_e, kOsub1_e, kOsub2_e, osK_s, kOix_e, ixK_s, kFor_e, kUnp_e, unpK_s, kOp1_e, kOp2_e, kUn_e, kC1_e, kC2_e, kA1_e, kA2_e, kFN_e, kCall_e, kMake_e, kCM_e, kMeth_e, kLst_e, lstK_s, kTup_e, tupK_s, kNl_e, nlK_s, nList_e, kNli_e, nliK_s, lOf_l, lOf_t, kNc1_e, kNc2_e, kLc1_e, kLc2_e, kSeq_e, kTpl_e, kEIf_t, kEIf_f, kEAnd_t, kEAnd_f, kEOr_t, kEOr_f, kENot_e, kB_e, kBAnd_t, kBAnd_f, kBOr_t, kBOr_f, kBNot_e, kOS_e, kSl1_e, kSl2_e, kSl3_e, kSt1_e, kSt2_e, kSt3_e, eMeth_e, kMe_e, lc_c, kL1_e, kL2_e, kT_t, kT_f, Int.cast_ofNat_Int, Int.natCast_zero, Int.natCast_one, lRng1_e, kRng_1, kRng_2, kRng_3, kRng_4, kRng_5, kRng_6, List.length_map, arS_0, sEr_e, sTryAs_e, tryK_nx, tryK_rt, tryK_er, afterO_rt, afterO_nx, eXf_e, xfS_s, xfK_s, plain_n, plain_e, List.all_cons, List.all_nil, eq_self, sTryN_e, tryN_nx, tryN_rt, tryN_h, tryN_t, dflI_e, dflF_e, not_false_eq_true, eMethK_e, kMK_e, kMK2_e, eProp_e, kPr_e, eNotO_e, kNotO_e, notK_s, g__law_active, m__law_active, One.D, maskD, One.act, fInS_l]
theorem step_gen {x : One} (h : x.Ok) (lit : List Str) {s : Nat × Bool} (hs : s.1 < 64) (G : GS) : g__law_step [.d (stT s), .d x.D, .d (.lst (lit.map .str))] G = .ok (.d (stT (x.app lit s))) G := by
  have ha := act_gen x lit G
  cases hx : x.act lit with
  | false =>
    rw [hx] at ha
    simp -implicitDefEqProofs only [bind_ok, bind_er, bindN_ok, ofE_ok, ofE_er, seqO_nx, seqO_rt, seqO_er, seqO_bk, seqO_ct, loopO_nx, loopO_ct, loopO_bk, loopO_rt, loopO_er, lift_s, retO_rt, retO_nx, retO_er, mkO_ok, mkO_er, toOpt_ok, eVar_z, eVar_s, oL_z, oL_s, frz_z, frz_s, wipe_n, wipe_c, datas_n, datas_c, map_s, bind_s, setA_n, setA_c, p2_d, p1_d, pN_d, fEq_i, fEq_s, fEq_b, fEq_ii, fNe_i, fNe_s, fNe_b, fSub_i, fAdd_i, fAnd_i, fOr_i, fXor_i, fLt_i, fLe_i, fGt_i, fGe_i, fIs_d, fIsNot_d, fIsB_b, isB_b, tru_b, tru_i, tru_l, tru_t, orE_s, orE_n, alt2_e, alt1_e, altN_e, fIx_l, fIx_t, at_0, at_1, at_2, at_3, at_4, at_5, for_n, for_c, lc_n, len_lst, len_tup, kfn_c, kix_c, sSeq_e, sNil_e, sSet_e, sSet2_e, sRet_e, sRetN_e, sDrop_e, sIf_e, sBk_e, sCt_e, sFrz_e, sOwn_e, sFor_e, sUnp_e, eC_e, eOp_e, eUn_e, aNil_e, aCons_e, aApp_e, eFN_e, eCall_e, eMake_e, eCMeth_e, eCallO_e, eLst_e, eTup_e, nLst_e, nLc_e, eLc_e, lSeq_e, lTup_e, eIf_e, eAnd_e, eOr_e, eNot_e, bOf_e, bAnd_e, bOr_e, bNot_e, eFld_e, runB_e, env0_e, oN_e, List.set_cons_zero, List.set_cons_succ, List.map_cons, List.map_nil, List.cons_append, List.nil_append, List.replicate_succ, List.replicate_zero, List.length_cons, List.length_nil, List.getElem?_cons_zero, List.getElem?_cons_succ, reduceIte, if_true, if_false, Bool.false_eq_true, arN_t, decide_true, decide_false, isNon, Bool.not_true, Bool.not_false, Bool.true_and, Bool.false_and, Bool.and_true, Bool.and_false, bYes_e, lstMax_e, Nat.reduceAdd, Nat.reduceSub, Nat.reduceLeDiff, Int.reduceLT, Int.reduceLE, Int.reduceEq, String.reduceEq, and_self, decide_eq_true_eq, and_true, true_and, cPos_e, cDiv_e, fMod_i, fDiv_i, Int.reduceMod, Int.reduceDiv, Int.reduceSub, Int.reduceAdd, Int.reducePow, kOf_i, fsOf_i, fOwn_k, fOwn1_k, gFld_k, methO_e, methK_s, methA_s, ownK_s, ownK_n, ownK_m, own1K_s, own1K_n, fldK_s, sApp_e, appK_s, sOSub_e, osubK_s, eOIx_e, oixK_s, eOLen_e, olenK_s, ixN_p, Int.reduceToNat, Nat.reduceLT, oS_e, eSl_e, eSlT_e, kSet_e, kSet2_e, kDrop_e, kIf_t, kIf_f, kOwn_e, kApp_e, kOsub1_e, kOsub2_e, osK_s, kOix_e, ixK_s, kFor_e, kUnp_e, unpK_s, kOp1_e, kOp2_e, kUn_e, kC1_e, kC2_e, kA1_e, kA2_e, kFN_e, kCall_e, kMake_e, kCM_e, kMeth_e, kLst_e, lstK_s, kTup_e, tupK_s, kNl_e, nlK_s, nList_e, kNli_e, nliK_s, lOf_l, lOf_t, kNc1_e, kNc2_e, kLc1_e, kLc2_e, kSeq_e, kTpl_e, kEIf_t, kEIf_f, kEAnd_t, kEAnd_f, kEOr_t, kEOr_f, kENot_e, kB_e, kBAnd_t, kBAnd_f, kBOr_t, kBOr_f, kBNot_e, kOS_e, kSl1_e, kSl2_e, kSl3_e, kSt1_e, kSt2_e, kSt3_e, eMeth_e, kMe_e, lc_c, kL1_e, kL2_e, kT_t, kT_f, Int.cast_ofNat_Int, Int.natCast_zero, Int.natCast_one, lRng1_e, kRng_1, kRng_2, kRng_3, kRng_4, kRng_5, kRng_6, List.length_map, arS_0, sEr_e, sTryAs_e, tryK_nx, tryK_rt, tryK_er, afterO_rt, afterO_nx, eXf_e, xfS_s, xfK_s, plain_n, plain_e, List.all_cons, List.all_nil, eq_self, sTryN_e, tryN_nx, tryN_rt, tryN_h, tryN_t, dflI_e, dflF_e, not_false_eq_true, eMethK_e, kMK_e, kMK2_e, eProp_e, kPr_e, eNotO_e, kNotO_e, notK_s, g__law_step, m__law_step, ha, One.app, hx]
  | true =>
    rw [hx] at ha
    obtain ⟨c, w⟩ := s
    have hs : c < 64 := hs
    obtain ⟨h1, h2, h3, h4, h5, l1, l2, l3, l4⟩ := bit_tab c hs x.off h.ho
    have e := (bit_tab _ l4 x.on h.hn).1
    have f1 := wh1 x.k h.hk
    have f2 := wh2 x.k h.hk
    have ap : x.app lit (c, w) = (nuN x.k x.off x.on c w, efM x.k w) := by unfold One.app; rw [hx, if_pos rfl, One.f, inkF_app h.hk hs]
    rw [ap]
    obtain ⟨mask, side, j, k, off, on⟩ := x
    have hk := h.hk
    dsimp only [One.D] at *
    rcases three hk with rfl | rfl | rfl <;> cases w <;> simp -implicitDefEqProofs only [bind_ok, bind_er, bindN_ok, ofE_ok, ofE_er, seqO_nx, seqO_rt, seqO_er, seqO_bk, seqO_ct, loopO_nx, loopO_ct, loopO_bk, loopO_rt, loopO_er, lift_s, retO_rt, retO_nx, retO_er, mkO_ok, mkO_er, toOpt_ok, eVar_z, eVar_s, oL_z, oL_s, frz_z, frz_s, wipe_n, wipe_c, datas_n, datas_c, map_s, bind_s, setA_n, setA_c, p2_d, p1_d, pN_d, fEq_i, fEq_s, fEq_b, fEq_ii, fNe_i, fNe_s, fNe_b, fSub_i, fAdd_i, fAnd_i, fOr_i, fXor_i, fLt_i, fLe_i, fGt_i, fGe_i, fIs_d, fIsNot_d, fIsB_b, isB_b, tru_b, tru_i, tru_l, tru_t, orE_s, orE_n, alt2_e, alt1_e, altN_e, fIx_l, fIx_t, at_0, at_1, at_2, at_3, at_4, at_5, for_n, for_c, lc_n, len_lst, len_tup, kfn_c, kix_c, sSeq_e, sNil_e, sSet_e, sSet2_e, sRet_e, sRetN_e, sDrop_e, sIf_e, sBk_e, sCt_e, sFrz_e, sOwn_e, sFor_e, sUnp_e, eC_e, eOp_e, eUn_e, aNil_e, aCons_e, aApp_e, eFN_e, eCall_e, eMake_e, eCMeth_e, eCallO_e, eLst_e, eTup_e, nLst_e, nLc_e, eLc_e, lSeq_e, lTup_e, eIf_e, eAnd_e, eOr_e, eNot_e, bOf_e, bAnd_e, bOr_e, bNot_e, eFld_e, runB_e, env0_e, oN_e, List.set_cons_zero, List.set_cons_succ, List.map_cons, List.map_nil, List.cons_append, List.nil_append, List.replicate_succ, List.replicate_zero, List.length_cons, List.length_nil, List.getElem?_cons_zero, List.getElem?_cons_succ, reduceIte, if_true, if_false, Bool.false_eq_true, arN_t, decide_true, decide_false, isNon, Bool.not_true, Bool.not_false, Bool.true_and, Bool.false_and, Bool.and_true, Bool.and_false, bYes_e, lstMax_e, Nat.reduceAdd, Nat.reduceSub, Nat.reduceLeDiff, Int.reduceLT, Int.reduceLE, Int.reduceEq, String.reduceEq, and_self, decide_eq_true_eq, and_true, true_and, cPos_e, cDiv_e, fMod_i, fDiv_i, Int.reduceMod, Int.reduceDiv, Int.reduceSub, Int.reduceAdd, Int.reducePow, kOf_i, fsOf_i, fOwn_k, fOwn1_k, gFld_k, methO_e, methK_s, methA_s, ownK_s, ownK_n, ownK_m, own1K_s, own1K_n, fldK_s, sApp_e, appK_s, sOSub_e, osubK_s, eOIx_e, oixK_s, eOLen_e, olenK_s, ixN_p, Int.reduceToNat, Nat.reduceLT, oS_e, eSl_e, eSlT_e, kSet_e, kSet2_e, kDrop_e, kIf_t, kIf_f, kOwn_e, kApp_e, kOsub1_e, kOsub2_e, osK_s, kOix_e, ixK_s, kFor_e, kUnp_e, unpK_s, kOp1_e, kOp2_e, kUn_e, kC1_e, kC2_e, kA1_e, kA2_e, kFN_e, kCall_e, kMake_e, kCM_e, kMeth_e, kLst_e, lstK_s, kTup_e, tupK_s, kNl_e, nlK_s, nList_e, kNli_e, nliK_s, lOf_l, lOf_t, kNc1_e, kNc2_e, kLc1_e, kLc2_e, kSeq_e, kTpl_e, kEIf_t, kEIf_f, kEAnd_t, kEAnd_f, kEOr_t, kEOr_f, kENot_e, kB_e, kBAnd_t, kBAnd_f, kBOr_t, kBOr_f, kBNot_e, kOS_e, kSl1_e, kSl2_e, kSl3_e, kSt1_e, kSt2_e, kSt3_e, eMeth_e, kMe_e, lc_c, kL1_e, kL2_e, kT_t, kT_f, Int.cast_ofNat_Int, Int.natCast_zero, Int.natCast_one, lRng1_e, kRng_1, kRng_2, kRng_3, kRng_4, kRng_5, kRng_6, List.length_map, arS_0, sEr_e, sTryAs_e, tryK_nx, tryK_rt, tryK_er, afterO_rt, afterO_nx, eXf_e, xfS_s, xfK_s, plain_n, plain_e, List.all_cons, List.all_nil, eq_self, sTryN_e, tryN_nx, tryN_rt, tryN_h, tryN_t, dflI_e, dflF_e, not_false_eq_true, eMethK_e, kMK_e, kMK2_e, eProp_e, kPr_e, eNotO_e, kNotO_e, notK_s, g__law_step, m__law_step, stT, ha, f1, f2, h5, e, nuN, efM, tk, show decide (0 = 1) = false from rfl, show decide (0 = 2) = false from rfl, show decide (1 = 2) = false from rfl, show decide (2 = 1) = false from rfl, show decide (1 = 1) = true from rfl, show decide (2 = 2) = true from rfl]
def run (lit : List Str) : List One → Nat × Bool → Nat × Bool
  | [], s => s
  | x :: xs, s => run lit xs (x.app lit s)
theorem One.app_lt {x : One} (h : x.Ok) (lit : List Str) {s : Nat × Bool} (hs : s.1 < 64) : (x.app lit s).1 < 64 := by
  unfold One.app
  split
  · exact FN.app_lt h.f hs
  · exact hs
theorem run_lt {lit : List Str} : ∀ {xs : List One} {s : Nat × Bool}, (∀ x ∈ xs, x.Ok) → s.1 < 64 → (run lit xs s).1 < 64
  | [], _, _, hs => hs
  | x :: xs, s, h, hs => run_lt (xs := xs) (fun y hy => h y (List.mem_cons_of_mem _ hy)) (One.app_lt (h x (List.mem_cons_self ..)) lit hs)
theorem print_gen {xs : List One} (h : ∀ x ∈ xs, x.Ok) (lit : List Str) {c : Nat} {w : Bool} (hc : c < 64) (G : GS) : g__law_print [.d (.lst (xs.map One.D)), .d (.lst (lit.map .str)), .d (.int (c : Nat)), .d (.bl w)] G = .ok (.d (stT (run lit xs (c, w)))) G := by
  have lp : ∀ (ys : List One) (s : Nat × Bool) (s5 : Sl), (∀ x ∈ ys, x.Ok) → s.1 < 64 → ∃ s6, forL 5 (sSet 4 (eCall (arN 3) g__law_step (aCons (eVar 4) (aCons (eVar 5) (aCons (eVar 1) (aNil)))))) (ys.map One.D) [.ev (.d (.lst (xs.map One.D))), .ev (.d (.lst (lit.map .str))), .ev (.d (.int (c : Nat))), .ev (.d (.bl w)), .ev (.d (stT s)), s5] G =
      .nx [.ev (.d (.lst (xs.map One.D))), .ev (.d (.lst (lit.map .str))), .ev (.d (.int (c : Nat))), .ev (.d (.bl w)), .ev (.d (stT (run lit ys s))), s6] G := by
    intro ys
    induction ys with
    | nil => intro s s5 _ _; exact ⟨s5, rfl⟩
    | cons y ys ih =>
      intro s s5 hy hs
      have hy0 := hy y (List.mem_cons_self ..)
      obtain ⟨s6, e⟩ := ih (y.app lit s) (.ev (.d y.D)) (fun x hx => hy x (List.mem_cons_of_mem _ hx)) (One.app_lt hy0 lit hs)
      refine ⟨s6, ?_⟩
      simp -implicitDefEqProofs only [bind_ok, bind_er, bindN_ok, ofE_ok, ofE_er, seqO_nx, seqO_rt, seqO_er, seqO_bk, seqO_ct, loopO_nx, loopO_ct, loopO_bk, loopO_rt, loopO_er, lift_s, retO_rt, retO_nx, retO_er, mkO_ok, mkO_er, toOpt_ok, eVar_z, eVar_s, oL_z, oL_s, frz_z, frz_s, wipe_n, wipe_c, datas_n, datas_c, map_s, bind_s, setA_n, setA_c, p2_d, p1_d, pN_d, fEq_i, fEq_s, fEq_b, fEq_ii, fNe_i, fNe_s, fNe_b, fSub_i, fAdd_i, fAnd_i, fOr_i, fXor_i, fLt_i, fLe_i, fGt_i, fGe_i, fIs_d, fIsNot_d, fIsB_b, isB_b, tru_b, tru_i, tru_l, tru_t, orE_s, orE_n, alt2_e, alt1_e, altN_e, fIx_l, fIx_t, at_0, at_1, at_2, at_3, at_4, at_5, for_n, for_c, lc_n, len_lst, len_tup, kfn_c, kix_c, sSeq_e, sNil_e, sSet_e, sSet2_e, sRet_e, sRetN_e, sDrop_e, sIf_e, sBk_e, sCt_e, sFrz_e, sOwn_e, sFor_e, sUnp_e, eC_e, eOp_e, eUn_e, aNil_e, aCons_e, aApp_e, eFN_e, eCall_e, eMake_e, eCMeth_e, eCallO_e, eLst_e, eTup_e, nLst_e, nLc_e, eLc_e, lSeq_e, lTup_e, eIf_e, eAnd_e, eOr_e, eNot_e, bOf_e, bAnd_e, bOr_e, bNot_e, eFld_e, runB_e, env0_e, oN_e, List.set_cons_zero, List.set_cons_succ, List.map_cons, List.map_nil, List.cons_append, List.nil_append, List.replicate_succ, List.replicate_zero, List.length_cons, List.length_nil, List.getElem?_cons_zero, List.getElem?_cons_succ, reduceIte, if_true, if_false, Bool.false_eq_true, arN_t, decide_true, decide_false, isNon, Bool.not_true, Bool.not_false, Bool.true_and, Bool.false_and, Bool.and_true, Bool.and_false, bYes_e, lstMax_e, Nat.reduceAdd, Nat.reduceSub, Nat.reduceLeDiff, Int.reduceLT, Int.reduceLE, Int.reduceEq, String.reduceEq, and_self, decide_eq_true_eq, and_true, true_and, cPos_e, cDiv_e, fMod_i, fDiv_i, Int.reduceMod, Int.reduceDiv, Int.reduceSub, Int.reduceAdd, Int.reducePow, kOf_i, fsOf_i, fOwn_k, fOwn1_k, gFld_k, methO_e, methK_s, methA_s, ownK_s, ownK_n, ownK_m, own1K_s, own1K_n, fldK_s, sApp_e, appK_s, sOSub_e, osubK_s, eOIx_e, oixK_s, eOLen_e, olenK_s, ixN_p, Int.reduceToNat, Nat.reduceLT, oS_e, eSl_e, eSlT_e, kSet_e, kSet2_e, kDrop_e, kIf_t, kIf_f, kOwn_e, kApp_e, kOsub1_e, kOsub2_e, osK_s, kOix_e, ixK_s, kFor_e, kUnp_e, unpK_s, kOp1_e, kOp2_e, kUn_e, kC1_e, kC2_e, kA1_e, kA2_e, kFN_e, kCall_e, kMake_e, kCM_e, kMeth_e, kLst_e, lstK_s, kTup_e, tupK_s, kNl_e, nlK_s, nList_e, kNli_e, nliK_s, lOf_l, lOf_t, kNc1_e, kNc2_e, kLc1_e, kLc2_e, kSeq_e, kTpl_e, kEIf_t, kEIf_f, kEAnd_t, kEAnd_f, kEOr_t, kEOr_f, kENot_e, kB_e, kBAnd_t, kBAnd_f, kBOr_t, kBOr_f, kBNot_e, kOS_e, kSl1_e, kSl2_e, kSl3_e, kSt1_e, kSt2_e, kSt3_e, eMeth_e, kMe_e, lc_c, kL1_e, kL2_e, kT_t, kT_f, Int.cast_ofNat_Int, Int.natCast_zero, Int.natCast_one, lRng1_e, kRng_1, kRng_2, kRng_3, kRng_4, kRng_5, kRng_6, List.length_map, arS_0, sEr_e, sTryAs_e, tryK_nx, tryK_rt, tryK_er, afterO_rt, afterO_nx, eXf_e, xfS_s, xfK_s, plain_n, plain_e, List.all_cons, List.all_nil, eq_self, sTryN_e, tryN_nx, tryN_rt, tryN_h, tryN_t, dflI_e, dflF_e, not_false_eq_true, eMethK_e, kMK_e, kMK2_e, eProp_e, kPr_e, eNotO_e, kNotO_e, notK_s, step_gen hy0 lit hs, e, run]
  obtain ⟨s6, e⟩ := lp xs (c, w) .no h hc
  have e' : forL 5 (sSet 4 (eCall (arN 3) g__law_step (aCons (eVar 4) (aCons (eVar 5) (aCons (eVar 1) (aNil)))))) (xs.map One.D) [.ev (.d (.lst (xs.map One.D))), .ev (.d (.lst (lit.map .str))), .ev (.d (.int (c : Nat))), .ev (.d (.bl w)), .ev (.d (.tup [.int (c : Nat), .bl w])), .no] G = _ := e
  simp -implicitDefEqProofs only [bind_ok, bind_er, bindN_ok, ofE_ok, ofE_er, seqO_nx, seqO_rt, seqO_er, seqO_bk, seqO_ct, loopO_nx, loopO_ct, loopO_bk, loopO_rt, loopO_er, lift_s, retO_rt, retO_nx, retO_er, mkO_ok, mkO_er, toOpt_ok, eVar_z, eVar_s, oL_z, oL_s, frz_z, frz_s, wipe_n, wipe_c, datas_n, datas_c, map_s, bind_s, setA_n, setA_c, p2_d, p1_d, pN_d, fEq_i, fEq_s, fEq_b, fEq_ii, fNe_i, fNe_s, fNe_b, fSub_i, fAdd_i, fAnd_i, fOr_i, fXor_i, fLt_i, fLe_i, fGt_i, fGe_i, fIs_d, fIsNot_d, fIsB_b, isB_b, tru_b, tru_i, tru_l, tru_t, orE_s, orE_n, alt2_e, alt1_e, altN_e, fIx_l, fIx_t, at_0, at_1, at_2, at_3, at_4, at_5, for_n, for_c, lc_n, len_lst, len_tup, kfn_c, kix_c, sSeq_e, sNil_e, sSet_e, sSet2_e, sRet_e, sRetN_e, sDrop_e, sIf_e, sBk_e, sCt_e, sFrz_e, sOwn_e, sFor_e, sUnp_e, eC_e, eOp_e, eUn_e, aNil_e, aCons_e, aApp_e, eFN_e, eCall_e, eMake_e, eCMeth_e, eCallO_e, eLst_e, eTup_e, nLst_e, nLc_e, eLc_e, lSeq_e, lTup_e, eIf_e, eAnd_e, eOr_e, eNot_e, bOf_e, bAnd_e, bOr_e, bNot_e, eFld_e, runB_e, env0_e, oN_e, List.set_cons_zero, List.set_cons_succ, List.map_cons, List.map_nil, List.cons_append, List.nil_append, List.replicate_succ, List.replicate_zero, List.length_cons, List.length_nil, List.getElem?_cons_zero, List.getElem?_cons_succ, reduceIte, if_true, if_false, Bool.false_eq_true, arN_t, decide_true, decide_false, isNon, Bool.not_true, Bool.not_false, Bool.true_and, Bool.false_and, Bool.and_true, Bool.and_false, bYes_e, lstMax_e, Nat.reduceAdd, Nat.reduceSub, Nat.reduceLeDiff, Int.reduceLT, Int.reduceLE, Int.reduceEq, String.reduceEq, and_self, decide_eq_true_eq, and_true, true_and, cPos_e, cDiv_e, fMod_i, fDiv_i, Int.reduceMod, Int.reduceDiv, Int.reduceSub, Int.reduceAdd, Int.reducePow, kOf_i, fsOf_i, fOwn_k, fOwn1_k, gFld_k, methO_e, methK_s, methA_s, ownK_s, ownK_n, ownK_m, own1K_s, own1K_n, fldK_s, sApp_e, appK_s, sOSub_e, osubK_s, eOIx_e, oixK_s, eOLen_e, olenK_s, ixN_p, Int.reduceToNat, Nat.reduceLT, oS_e, eSl_e, eSlT_e, kSet_e, kSet2_e, kDrop_e, kIf_t, kIf_f, kOwn_e, kApp_e, kOsub1_e, kOsub2_e, osK_s, kOix_e, ixK_s, kFor_e, kUnp_e, unpK_s, kOp1_e, kOp2_e, kUn_e, kC1_e, kC2_e, kA1_e, kA2_e, kFN_e, kCall_e, kMake_e, kCM_e, kMeth_e, kLst_e, lstK_s, kTup_e, tupK_s, kNl_e, nlK_s, nList_e, kNli_e, nliK_s, lOf_l, lOf_t, kNc1_e, kNc2_e, kLc1_e, kLc2_e, kSeq_e, kTpl_e, kEIf_t, kEIf_f, kEAnd_t, kEAnd_f, kEOr_t, kEOr_f, kENot_e, kB_e, kBAnd_t, kBAnd_f, kBOr_t, kBOr_f, kBNot_e, kOS_e, kSl1_e, kSl2_e, kSl3_e, kSt1_e, kSt2_e, kSt3_e, eMeth_e, kMe_e, lc_c, kL1_e, kL2_e, kT_t, kT_f, Int.cast_ofNat_Int, Int.natCast_zero, Int.natCast_one, lRng1_e, kRng_1, kRng_2, kRng_3, kRng_4, kRng_5, kRng_6, List.length_map, arS_0, sEr_e, sTryAs_e, tryK_nx, tryK_rt, tryK_er, afterO_rt, afterO_nx, eXf_e, xfS_s, xfK_s, plain_n, plain_e, List.all_cons, List.all_nil, eq_self, sTryN_e, tryN_nx, tryN_rt, tryN_h, tryN_t, dflI_e, dflF_e, not_false_eq_true, eMethK_e, kMK_e, kMK2_e, eProp_e, kPr_e, eNotO_e, kNotO_e, notK_s, g__law_print, m__law_print, e']
/-! ### the law's films -/
theorem n0 (G : GS) : g_Light_numbered [.d (.cls "Light"), .d (.int 0)] G = .ok (.d (lightD 0)) G := num_ok (n := 0) (by decide) G
theorem n63 (G : GS) : g_Light_numbered [.d (.cls "Light"), .d (.int 63)] G = .ok (.d (lightD 63)) G := num_ok (n := 63) (by decide) G
def sts (s : Nat → Bool → Nat × Bool) : DL.D := .lst [stT (s 0 false), stT (s 63 false), stT (s 0 true), stT (s 63 true)]
theorem sts_eq {f g : Nat → Bool → Nat × Bool} (h : ∀ c w, c < 64 → f c w = g c w) : sts f = sts g := by
  unfold sts
  rw [h 0 false (by decide), h 63 false (by decide), h 0 true (by decide), h 63 true (by decide)]
theorem lfilm_gen {xs : List One} (h : ∀ x ∈ xs, x.Ok) (lit : List Str) (G : GS) : g__law_film [.d (.lst (xs.map One.D)), .d (.lst (lit.map .str))] G = .ok (.d (sts fun c w => run lit xs (c, w))) G := by
  have p : ∀ {c : Nat} {w}, c < 64 → _ := fun {c w} hc => print_gen h lit (c := c) (w := w) hc G
  have p0 : ∀ w, g__law_print [.d (.lst (xs.map One.D)), .d (.lst (lit.map .str)), .d (.int 0), .d (.bl w)] G = .ok (.d (stT (run lit xs (0, w)))) G := fun w => p (c := 0) (by decide)
  have p63 : ∀ w, g__law_print [.d (.lst (xs.map One.D)), .d (.lst (lit.map .str)), .d (.int 63), .d (.bl w)] G = .ok (.d (stT (run lit xs (63, w)))) G := fun w => p (c := 63) (by decide)
  simp -implicitDefEqProofs only [bind_ok, bind_er, bindN_ok, ofE_ok, ofE_er, seqO_nx, seqO_rt, seqO_er, seqO_bk, seqO_ct, loopO_nx, loopO_ct, loopO_bk, loopO_rt, loopO_er, lift_s, retO_rt, retO_nx, retO_er, mkO_ok, mkO_er, toOpt_ok, eVar_z, eVar_s, oL_z, oL_s, frz_z, frz_s, wipe_n, wipe_c, datas_n, datas_c, map_s, bind_s, setA_n, setA_c, p2_d, p1_d, pN_d, fEq_i, fEq_s, fEq_b, fEq_ii, fNe_i, fNe_s, fNe_b, fSub_i, fAdd_i, fAnd_i, fOr_i, fXor_i, fLt_i, fLe_i, fGt_i, fGe_i, fIs_d, fIsNot_d, fIsB_b, isB_b, tru_b, tru_i, tru_l, tru_t, orE_s, orE_n, alt2_e, alt1_e, altN_e, fIx_l, fIx_t, at_0, at_1, at_2, at_3, at_4, at_5, for_n, for_c, lc_n, len_lst, len_tup, kfn_c, kix_c, sSeq_e, sNil_e, sSet_e, sSet2_e, sRet_e, sRetN_e, sDrop_e, sIf_e, sBk_e, sCt_e, sFrz_e, sOwn_e, sFor_e, sUnp_e, eC_e, eOp_e, eUn_e, aNil_e, aCons_e, aApp_e, eFN_e, eCall_e, eMake_e, eCMeth_e, eCallO_e, eLst_e, eTup_e, nLst_e, nLc_e, eLc_e, lSeq_e, lTup_e, eIf_e, eAnd_e, eOr_e, eNot_e, bOf_e, bAnd_e, bOr_e, bNot_e, eFld_e, runB_e, env0_e, oN_e, List.set_cons_zero, List.set_cons_succ, List.map_cons, List.map_nil, List.cons_append, List.nil_append, List.replicate_succ, List.replicate_zero, List.length_cons, List.length_nil, List.getElem?_cons_zero, List.getElem?_cons_succ, reduceIte, if_true, if_false, Bool.false_eq_true, arN_t, decide_true, decide_false, isNon, Bool.not_true, Bool.not_false, Bool.true_and, Bool.false_and, Bool.and_true, Bool.and_false, bYes_e, lstMax_e, Nat.reduceAdd, Nat.reduceSub, Nat.reduceLeDiff, Int.reduceLT, Int.reduceLE, Int.reduceEq, String.reduceEq, and_self, decide_eq_true_eq, and_true, true_and, cPos_e, cDiv_e, fMod_i, fDiv_i, Int.reduceMod, Int.reduceDiv, Int.reduceSub, Int.reduceAdd, Int.reducePow, kOf_i, fsOf_i, fOwn_k, fOwn1_k, gFld_k, methO_e, methK_s, methA_s, ownK_s, ownK_n, ownK_m, own1K_s, own1K_n, fldK_s, sApp_e, appK_s, sOSub_e, osubK_s, eOIx_e, oixK_s, eOLen_e, olenK_s, ixN_p, Int.reduceToNat, Nat.reduceLT, oS_e, eSl_e, eSlT_e, kSet_e, kSet2_e, kDrop_e, kIf_t, kIf_f, kOwn_e, kApp_e, kOsub1_e, kOsub2_e, osK_s, kOix_e, ixK_s, kFor_e, kUnp_e, unpK_s, kOp1_e, kOp2_e, kUn_e, kC1_e, kC2_e, kA1_e, kA2_e, kFN_e, kCall_e, kMake_e, kCM_e, kMeth_e, kLst_e, lstK_s, kTup_e, tupK_s, kNl_e, nlK_s, nList_e, kNli_e, nliK_s, lOf_l, lOf_t, kNc1_e, kNc2_e, kLc1_e, kLc2_e, kSeq_e, kTpl_e, kEIf_t, kEIf_f, kEAnd_t, kEAnd_f, kEOr_t, kEOr_f, kENot_e, kB_e, kBAnd_t, kBAnd_f, kBOr_t, kBOr_f, kBNot_e, kOS_e, kSl1_e, kSl2_e, kSl3_e, kSt1_e, kSt2_e, kSt3_e, eMeth_e, kMe_e, lc_c, kL1_e, kL2_e, kT_t, kT_f, Int.cast_ofNat_Int, Int.natCast_zero, Int.natCast_one, lRng1_e, kRng_1, kRng_2, kRng_3, kRng_4, kRng_5, kRng_6, List.length_map, arS_0, sEr_e, sTryAs_e, tryK_nx, tryK_rt, tryK_er, afterO_rt, afterO_nx, eXf_e, xfS_s, xfK_s, plain_n, plain_e, List.all_cons, List.all_nil, eq_self, sTryN_e, tryN_nx, tryN_rt, tryN_h, tryN_t, dflI_e, dflF_e, not_false_eq_true, eMethK_e, kMK_e, kMK2_e, eProp_e, kPr_e, eNotO_e, kNotO_e, notK_s, g__law_film, m__law_film, p0, p63, sts]
/-! ### inks, their films -/
theorem ink_gen {x : One} (h : x.Ok) (G : GS) : g__law_ink [.d x.D] G = .ok (.d x.I) G := by
  obtain ⟨mask, side, j, k, off, on⟩ := x
  obtain ⟨hj, hk, ho, hn, hz, hf, hb, hq⟩ := h
  dsimp only at hj hk ho hn hz hf hb hq
  have f0 := kd0 j hj
  have f1 := kd1 j hj
  have f2 := kd2 j hj
  rcases four hj with rfl | rfl | rfl | rfl
  · have z := hf rfl; subst z; simp -implicitDefEqProofs only [bind_ok, bind_er, bindN_ok, ofE_ok, ofE_er, seqO_nx, seqO_rt, seqO_er, seqO_bk, seqO_ct, loopO_nx, loopO_ct, loopO_bk, loopO_rt, loopO_er, lift_s, retO_rt, retO_nx, retO_er, mkO_ok, mkO_er, toOpt_ok, eVar_z, eVar_s, oL_z, oL_s, frz_z, frz_s, wipe_n, wipe_c, datas_n, datas_c, map_s, bind_s, setA_n, setA_c, p2_d, p1_d, pN_d, fEq_i, fEq_s, fEq_b, fEq_ii, fNe_i, fNe_s, fNe_b, fSub_i, fAdd_i, fAnd_i, fOr_i, fXor_i, fLt_i, fLe_i, fGt_i, fGe_i, fIs_d, fIsNot_d, fIsB_b, isB_b, tru_b, tru_i, tru_l, tru_t, orE_s, orE_n, alt2_e, alt1_e, altN_e, fIx_l, fIx_t, at_0, at_1, at_2, at_3, at_4, at_5, for_n, for_c, lc_n, len_lst, len_tup, kfn_c, kix_c, sSeq_e, sNil_e, sSet_e, sSet2_e, sRet_e, sRetN_e, sDrop_e, sIf_e, sBk_e, sCt_e, sFrz_e, sOwn_e, sFor_e, sUnp_e, eC_e, eOp_e, eUn_e, aNil_e, aCons_e, aApp_e, eFN_e, eCall_e, eMake_e, eCMeth_e, eCallO_e, eLst_e, eTup_e, nLst_e, nLc_e, eLc_e, lSeq_e, lTup_e, eIf_e, eAnd_e, eOr_e, eNot_e, bOf_e, bAnd_e, bOr_e, bNot_e, eFld_e, runB_e, env0_e, oN_e, List.set_cons_zero, List.set_cons_succ, List.map_cons, List.map_nil, List.cons_append, List.nil_append, List.replicate_succ, List.replicate_zero, List.length_cons, List.length_nil, List.getElem?_cons_zero, List.getElem?_cons_succ, reduceIte, if_true, if_false, Bool.false_eq_true, arN_t, decide_true, decide_false, isNon, Bool.not_true, Bool.not_false, Bool.true_and, Bool.false_and, Bool.and_true, Bool.and_false, bYes_e, lstMax_e, Nat.reduceAdd, Nat.reduceSub, Nat.reduceLeDiff, Int.reduceLT, Int.reduceLE, Int.reduceEq, String.reduceEq, and_self, decide_eq_true_eq, and_true, true_and, cPos_e, cDiv_e, fMod_i, fDiv_i, Int.reduceMod, Int.reduceDiv, Int.reduceSub, Int.reduceAdd, Int.reducePow, kOf_i, fsOf_i, fOwn_k, fOwn1_k, gFld_k, methO_e, methK_s, methA_s, ownK_s, ownK_n, ownK_m, own1K_s, own1K_n, fldK_s, sApp_e, appK_s, sOSub_e, osubK_s, eOIx_e, oixK_s, eOLen_e, olenK_s, ixN_p, Int.reduceToNat, Nat.reduceLT, oS_e, eSl_e, eSlT_e, kSet_e, kSet2_e, kDrop_e, kIf_t, kIf_f, kOwn_e, kApp_e, kOsub1_e, kOsub2_e, osK_s, kOix_e, ixK_s, kFor_e, kUnp_e, unpK_s, kOp1_e, kOp2_e, kUn_e, kC1_e, kC2_e, kA1_e, kA2_e, kFN_e, kCall_e, kMake_e, kCM_e, kMeth_e, kLst_e, lstK_s, kTup_e, tupK_s, kNl_e, nlK_s, nList_e, kNli_e, nliK_s, lOf_l, lOf_t, kNc1_e, kNc2_e, kLc1_e, kLc2_e, kSeq_e, kTpl_e, kEIf_t, kEIf_f, kEAnd_t, kEAnd_f, kEOr_t, kEOr_f, kENot_e, kB_e, kBAnd_t, kBAnd_f, kBOr_t, kBOr_f, kBNot_e, kOS_e, kSl1_e, kSl2_e, kSl3_e, kSt1_e, kSt2_e, kSt3_e, eMeth_e, kMe_e, lc_c, kL1_e, kL2_e, kT_t, kT_f, Int.cast_ofNat_Int, Int.natCast_zero, Int.natCast_one, lRng1_e, kRng_1, kRng_2, kRng_3, kRng_4, kRng_5, kRng_6, List.length_map, arS_0, sEr_e, sTryAs_e, tryK_nx, tryK_rt, tryK_er, afterO_rt, afterO_nx, eXf_e, xfS_s, xfK_s, plain_n, plain_e, List.all_cons, List.all_nil, eq_self, sTryN_e, tryN_nx, tryN_rt, tryN_h, tryN_t, dflI_e, dflF_e, not_false_eq_true, eMethK_e, kMK_e, kMK2_e, eProp_e, kPr_e, eNotO_e, kNotO_e, notK_s, g__law_ink, m__law_ink, One.D, f0, show decide (0 = 0) = true from rfl, num_ok ho, mkFilter ho hk, One.I, inkD, clS]
  · have z := hb rfl; subst z; simp -implicitDefEqProofs only [bind_ok, bind_er, bindN_ok, ofE_ok, ofE_er, seqO_nx, seqO_rt, seqO_er, seqO_bk, seqO_ct, loopO_nx, loopO_ct, loopO_bk, loopO_rt, loopO_er, lift_s, retO_rt, retO_nx, retO_er, mkO_ok, mkO_er, toOpt_ok, eVar_z, eVar_s, oL_z, oL_s, frz_z, frz_s, wipe_n, wipe_c, datas_n, datas_c, map_s, bind_s, setA_n, setA_c, p2_d, p1_d, pN_d, fEq_i, fEq_s, fEq_b, fEq_ii, fNe_i, fNe_s, fNe_b, fSub_i, fAdd_i, fAnd_i, fOr_i, fXor_i, fLt_i, fLe_i, fGt_i, fGe_i, fIs_d, fIsNot_d, fIsB_b, isB_b, tru_b, tru_i, tru_l, tru_t, orE_s, orE_n, alt2_e, alt1_e, altN_e, fIx_l, fIx_t, at_0, at_1, at_2, at_3, at_4, at_5, for_n, for_c, lc_n, len_lst, len_tup, kfn_c, kix_c, sSeq_e, sNil_e, sSet_e, sSet2_e, sRet_e, sRetN_e, sDrop_e, sIf_e, sBk_e, sCt_e, sFrz_e, sOwn_e, sFor_e, sUnp_e, eC_e, eOp_e, eUn_e, aNil_e, aCons_e, aApp_e, eFN_e, eCall_e, eMake_e, eCMeth_e, eCallO_e, eLst_e, eTup_e, nLst_e, nLc_e, eLc_e, lSeq_e, lTup_e, eIf_e, eAnd_e, eOr_e, eNot_e, bOf_e, bAnd_e, bOr_e, bNot_e, eFld_e, runB_e, env0_e, oN_e, List.set_cons_zero, List.set_cons_succ, List.map_cons, List.map_nil, List.cons_append, List.nil_append, List.replicate_succ, List.replicate_zero, List.length_cons, List.length_nil, List.getElem?_cons_zero, List.getElem?_cons_succ, reduceIte, if_true, if_false, Bool.false_eq_true, arN_t, decide_true, decide_false, isNon, Bool.not_true, Bool.not_false, Bool.true_and, Bool.false_and, Bool.and_true, Bool.and_false, bYes_e, lstMax_e, Nat.reduceAdd, Nat.reduceSub, Nat.reduceLeDiff, Int.reduceLT, Int.reduceLE, Int.reduceEq, String.reduceEq, and_self, decide_eq_true_eq, and_true, true_and, cPos_e, cDiv_e, fMod_i, fDiv_i, Int.reduceMod, Int.reduceDiv, Int.reduceSub, Int.reduceAdd, Int.reducePow, kOf_i, fsOf_i, fOwn_k, fOwn1_k, gFld_k, methO_e, methK_s, methA_s, ownK_s, ownK_n, ownK_m, own1K_s, own1K_n, fldK_s, sApp_e, appK_s, sOSub_e, osubK_s, eOIx_e, oixK_s, eOLen_e, olenK_s, ixN_p, Int.reduceToNat, Nat.reduceLT, oS_e, eSl_e, eSlT_e, kSet_e, kSet2_e, kDrop_e, kIf_t, kIf_f, kOwn_e, kApp_e, kOsub1_e, kOsub2_e, osK_s, kOix_e, ixK_s, kFor_e, kUnp_e, unpK_s, kOp1_e, kOp2_e, kUn_e, kC1_e, kC2_e, kA1_e, kA2_e, kFN_e, kCall_e, kMake_e, kCM_e, kMeth_e, kLst_e, lstK_s, kTup_e, tupK_s, kNl_e, nlK_s, nList_e, kNli_e, nliK_s, lOf_l, lOf_t, kNc1_e, kNc2_e, kLc1_e, kLc2_e, kSeq_e, kTpl_e, kEIf_t, kEIf_f, kEAnd_t, kEAnd_f, kEOr_t, kEOr_f, kENot_e, kB_e, kBAnd_t, kBAnd_f, kBOr_t, kBOr_f, kBNot_e, kOS_e, kSl1_e, kSl2_e, kSl3_e, kSt1_e, kSt2_e, kSt3_e, eMeth_e, kMe_e, lc_c, kL1_e, kL2_e, kT_t, kT_f, Int.cast_ofNat_Int, Int.natCast_zero, Int.natCast_one, lRng1_e, kRng_1, kRng_2, kRng_3, kRng_4, kRng_5, kRng_6, List.length_map, arS_0, sEr_e, sTryAs_e, tryK_nx, tryK_rt, tryK_er, afterO_rt, afterO_nx, eXf_e, xfS_s, xfK_s, plain_n, plain_e, List.all_cons, List.all_nil, eq_self, sTryN_e, tryN_nx, tryN_rt, tryN_h, tryN_t, dflI_e, dflF_e, not_false_eq_true, eMethK_e, kMK_e, kMK2_e, eProp_e, kPr_e, eNotO_e, kNotO_e, notK_s, g__law_ink, m__law_ink, One.D, f0, f1, show decide (1 = 0) = false from rfl, show decide (1 = 1) = true from rfl, num_ok hn, mkBleach hn hk, One.I, inkD, clS]
  · have z := hq rfl; subst z; simp -implicitDefEqProofs only [bind_ok, bind_er, bindN_ok, ofE_ok, ofE_er, seqO_nx, seqO_rt, seqO_er, seqO_bk, seqO_ct, loopO_nx, loopO_ct, loopO_bk, loopO_rt, loopO_er, lift_s, retO_rt, retO_nx, retO_er, mkO_ok, mkO_er, toOpt_ok, eVar_z, eVar_s, oL_z, oL_s, frz_z, frz_s, wipe_n, wipe_c, datas_n, datas_c, map_s, bind_s, setA_n, setA_c, p2_d, p1_d, pN_d, fEq_i, fEq_s, fEq_b, fEq_ii, fNe_i, fNe_s, fNe_b, fSub_i, fAdd_i, fAnd_i, fOr_i, fXor_i, fLt_i, fLe_i, fGt_i, fGe_i, fIs_d, fIsNot_d, fIsB_b, isB_b, tru_b, tru_i, tru_l, tru_t, orE_s, orE_n, alt2_e, alt1_e, altN_e, fIx_l, fIx_t, at_0, at_1, at_2, at_3, at_4, at_5, for_n, for_c, lc_n, len_lst, len_tup, kfn_c, kix_c, sSeq_e, sNil_e, sSet_e, sSet2_e, sRet_e, sRetN_e, sDrop_e, sIf_e, sBk_e, sCt_e, sFrz_e, sOwn_e, sFor_e, sUnp_e, eC_e, eOp_e, eUn_e, aNil_e, aCons_e, aApp_e, eFN_e, eCall_e, eMake_e, eCMeth_e, eCallO_e, eLst_e, eTup_e, nLst_e, nLc_e, eLc_e, lSeq_e, lTup_e, eIf_e, eAnd_e, eOr_e, eNot_e, bOf_e, bAnd_e, bOr_e, bNot_e, eFld_e, runB_e, env0_e, oN_e, List.set_cons_zero, List.set_cons_succ, List.map_cons, List.map_nil, List.cons_append, List.nil_append, List.replicate_succ, List.replicate_zero, List.length_cons, List.length_nil, List.getElem?_cons_zero, List.getElem?_cons_succ, reduceIte, if_true, if_false, Bool.false_eq_true, arN_t, decide_true, decide_false, isNon, Bool.not_true, Bool.not_false, Bool.true_and, Bool.false_and, Bool.and_true, Bool.and_false, bYes_e, lstMax_e, Nat.reduceAdd, Nat.reduceSub, Nat.reduceLeDiff, Int.reduceLT, Int.reduceLE, Int.reduceEq, String.reduceEq, and_self, decide_eq_true_eq, and_true, true_and, cPos_e, cDiv_e, fMod_i, fDiv_i, Int.reduceMod, Int.reduceDiv, Int.reduceSub, Int.reduceAdd, Int.reducePow, kOf_i, fsOf_i, fOwn_k, fOwn1_k, gFld_k, methO_e, methK_s, methA_s, ownK_s, ownK_n, ownK_m, own1K_s, own1K_n, fldK_s, sApp_e, appK_s, sOSub_e, osubK_s, eOIx_e, oixK_s, eOLen_e, olenK_s, ixN_p, Int.reduceToNat, Nat.reduceLT, oS_e, eSl_e, eSlT_e, kSet_e, kSet2_e, kDrop_e, kIf_t, kIf_f, kOwn_e, kApp_e, kOsub1_e, kOsub2_e, osK_s, kOix_e, ixK_s, kFor_e, kUnp_e, unpK_s, kOp1_e, kOp2_e, kUn_e, kC1_e, kC2_e, kA1_e, kA2_e, kFN_e, kCall_e, kMake_e, kCM_e, kMeth_e, kLst_e, lstK_s, kTup_e, tupK_s, kNl_e, nlK_s, nList_e, kNli_e, nliK_s, lOf_l, lOf_t, kNc1_e, kNc2_e, kLc1_e, kLc2_e, kSeq_e, kTpl_e, kEIf_t, kEIf_f, kEAnd_t, kEAnd_f, kEOr_t, kEOr_f, kENot_e, kB_e, kBAnd_t, kBAnd_f, kBOr_t, kBOr_f, kBNot_e, kOS_e, kSl1_e, kSl2_e, kSl3_e, kSt1_e, kSt2_e, kSt3_e, eMeth_e, kMe_e, lc_c, kL1_e, kL2_e, kT_t, kT_f, Int.cast_ofNat_Int, Int.natCast_zero, Int.natCast_one, lRng1_e, kRng_1, kRng_2, kRng_3, kRng_4, kRng_5, kRng_6, List.length_map, arS_0, sEr_e, sTryAs_e, tryK_nx, tryK_rt, tryK_er, afterO_rt, afterO_nx, eXf_e, xfS_s, xfK_s, plain_n, plain_e, List.all_cons, List.all_nil, eq_self, sTryN_e, tryN_nx, tryN_rt, tryN_h, tryN_t, dflI_e, dflF_e, not_false_eq_true, eMethK_e, kMK_e, kMK2_e, eProp_e, kPr_e, eNotO_e, kNotO_e, notK_s, g__law_ink, m__law_ink, One.D, f0, f1, f2, show decide (2 = 0) = false from rfl, show decide (2 = 1) = false from rfl, show decide (2 = 2) = true from rfl, num_ok hn, mkOpaque hn hk, One.I, inkD, clS]
  · simp -implicitDefEqProofs only [bind_ok, bind_er, bindN_ok, ofE_ok, ofE_er, seqO_nx, seqO_rt, seqO_er, seqO_bk, seqO_ct, loopO_nx, loopO_ct, loopO_bk, loopO_rt, loopO_er, lift_s, retO_rt, retO_nx, retO_er, mkO_ok, mkO_er, toOpt_ok, eVar_z, eVar_s, oL_z, oL_s, frz_z, frz_s, wipe_n, wipe_c, datas_n, datas_c, map_s, bind_s, setA_n, setA_c, p2_d, p1_d, pN_d, fEq_i, fEq_s, fEq_b, fEq_ii, fNe_i, fNe_s, fNe_b, fSub_i, fAdd_i, fAnd_i, fOr_i, fXor_i, fLt_i, fLe_i, fGt_i, fGe_i, fIs_d, fIsNot_d, fIsB_b, isB_b, tru_b, tru_i, tru_l, tru_t, orE_s, orE_n, alt2_e, alt1_e, altN_e, fIx_l, fIx_t, at_0, at_1, at_2, at_3, at_4, at_5, for_n, for_c, lc_n, len_lst, len_tup, kfn_c, kix_c, sSeq_e, sNil_e, sSet_e, sSet2_e, sRet_e, sRetN_e, sDrop_e, sIf_e, sBk_e, sCt_e, sFrz_e, sOwn_e, sFor_e, sUnp_e, eC_e, eOp_e, eUn_e, aNil_e, aCons_e, aApp_e, eFN_e, eCall_e, eMake_e, eCMeth_e, eCallO_e, eLst_e, eTup_e, nLst_e, nLc_e, eLc_e, lSeq_e, lTup_e, eIf_e, eAnd_e, eOr_e, eNot_e, bOf_e, bAnd_e, bOr_e, bNot_e, eFld_e, runB_e, env0_e, oN_e, List.set_cons_zero, List.set_cons_succ, List.map_cons, List.map_nil, List.cons_append, List.nil_append, List.replicate_succ, List.replicate_zero, List.length_cons, List.length_nil, List.getElem?_cons_zero, List.getElem?_cons_succ, reduceIte, if_true, if_false, Bool.false_eq_true, arN_t, decide_true, decide_false, isNon, Bool.not_true, Bool.not_false, Bool.true_and, Bool.false_and, Bool.and_true, Bool.and_false, bYes_e, lstMax_e, Nat.reduceAdd, Nat.reduceSub, Nat.reduceLeDiff, Int.reduceLT, Int.reduceLE, Int.reduceEq, String.reduceEq, and_self, decide_eq_true_eq, and_true, true_and, cPos_e, cDiv_e, fMod_i, fDiv_i, Int.reduceMod, Int.reduceDiv, Int.reduceSub, Int.reduceAdd, Int.reducePow, kOf_i, fsOf_i, fOwn_k, fOwn1_k, gFld_k, methO_e, methK_s, methA_s, ownK_s, ownK_n, ownK_m, own1K_s, own1K_n, fldK_s, sApp_e, appK_s, sOSub_e, osubK_s, eOIx_e, oixK_s, eOLen_e, olenK_s, ixN_p, Int.reduceToNat, Nat.reduceLT, oS_e, eSl_e, eSlT_e, kSet_e, kSet2_e, kDrop_e, kIf_t, kIf_f, kOwn_e, kApp_e, kOsub1_e, kOsub2_e, osK_s, kOix_e, ixK_s, kFor_e, kUnp_e, unpK_s, kOp1_e, kOp2_e, kUn_e, kC1_e, kC2_e, kA1_e, kA2_e, kFN_e, kCall_e, kMake_e, kCM_e, kMeth_e, kLst_e, lstK_s, kTup_e, tupK_s, kNl_e, nlK_s, nList_e, kNli_e, nliK_s, lOf_l, lOf_t, kNc1_e, kNc2_e, kLc1_e, kLc2_e, kSeq_e, kTpl_e, kEIf_t, kEIf_f, kEAnd_t, kEAnd_f, kEOr_t, kEOr_f, kENot_e, kB_e, kBAnd_t, kBAnd_f, kBOr_t, kBOr_f, kBNot_e, kOS_e, kSl1_e, kSl2_e, kSl3_e, kSt1_e, kSt2_e, kSt3_e, eMeth_e, kMe_e, lc_c, kL1_e, kL2_e, kT_t, kT_f, Int.cast_ofNat_Int, Int.natCast_zero, Int.natCast_one, lRng1_e, kRng_1, kRng_2, kRng_3, kRng_4, kRng_5, kRng_6, List.length_map, arS_0, sEr_e, sTryAs_e, tryK_nx, tryK_rt, tryK_er, afterO_rt, afterO_nx, eXf_e, xfS_s, xfK_s, plain_n, plain_e, List.all_cons, List.all_nil, eq_self, sTryN_e, tryN_nx, tryN_rt, tryN_h, tryN_t, dflI_e, dflF_e, not_false_eq_true, eMethK_e, kMK_e, kMK2_e, eProp_e, kPr_e, eNotO_e, kNotO_e, notK_s, g__law_ink, m__law_ink, One.D, f0, f1, f2, show decide (3 = 0) = false from rfl, show decide (3 = 1) = false from rfl, show decide (3 = 2) = false from rfl, num_ok ho, num_ok hn, initInk ho hn hz hk, One.I, inkD, clS]
theorem film_gen {x : One} (h : x.Ok) (G : GS) : g_Ink_film [.d x.I] G = .ok (.d x.f.D) G := by
  obtain ⟨mask, side, j, k, off, on⟩ := x
  have hj := h.hj
  have hk := h.hk
  dsimp only at hj hk
  rcases four hj with rfl | rfl | rfl | rfl <;> rcases three hk with rfl | rfl | rfl <;> clear h <;> kernel_rfl
theorem kfnI {j : Nat} {g : Ar × FM} (hj : j < 4) : kfn [("Ink", g), ("Filter", g), ("Opaque", g), ("Bleach", g)] (clS j) = some g := by rcases four hj with e | e | e | e <;> rw [e] <;> rfl
theorem meth_gen {x : One} (h : x.Ok) (env : En) (G : GS) : methO [("Ink", ((arN 1 : Ar), g_Ink_film)), ("Filter", ((arN 1 : Ar), g_Ink_film)), ("Opaque", ((arN 1 : Ar), g_Ink_film)), ("Bleach", ((arN 1 : Ar), g_Ink_film))] (.d x.I) aNil env G = .ok (.d x.f.D) G := by
  have f := film_gen h G
  have hk := kfnI (g := ((arN 1 : Ar), g_Ink_film)) h.hj
  simp -implicitDefEqProofs only [bind_ok, bind_er, bindN_ok, ofE_ok, ofE_er, seqO_nx, seqO_rt, seqO_er, seqO_bk, seqO_ct, loopO_nx, loopO_ct, loopO_bk, loopO_rt, loopO_er, lift_s, retO_rt, retO_nx, retO_er, mkO_ok, mkO_er, toOpt_ok, eVar_z, eVar_s, oL_z, oL_s, frz_z, frz_s, wipe_n, wipe_c, datas_n, datas_c, map_s, bind_s, setA_n, setA_c, p2_d, p1_d, pN_d, fEq_i, fEq_s, fEq_b, fEq_ii, fNe_i, fNe_s, fNe_b, fSub_i, fAdd_i, fAnd_i, fOr_i, fXor_i, fLt_i, fLe_i, fGt_i, fGe_i, fIs_d, fIsNot_d, fIsB_b, isB_b, tru_b, tru_i, tru_l, tru_t, orE_s, orE_n, alt2_e, alt1_e, altN_e, fIx_l, fIx_t, at_0, at_1, at_2, at_3, at_4, at_5, for_n, for_c, lc_n, len_lst, len_tup, kfn_c, kix_c, sSeq_e, sNil_e, sSet_e, sSet2_e, sRet_e, sRetN_e, sDrop_e, sIf_e, sBk_e, sCt_e, sFrz_e, sOwn_e, sFor_e, sUnp_e, eC_e, eOp_e, eUn_e, aNil_e, aCons_e, aApp_e, eFN_e, eCall_e, eMake_e, eCMeth_e, eCallO_e, eLst_e, eTup_e, nLst_e, nLc_e, eLc_e, lSeq_e, lTup_e, eIf_e, eAnd_e, eOr_e, eNot_e, bOf_e, bAnd_e, bOr_e, bNot_e, eFld_e, runB_e, env0_e, oN_e, List.set_cons_zero, List.set_cons_succ, List.map_cons, List.map_nil, List.cons_append, List.nil_append, List.replicate_succ, List.replicate_zero, List.length_cons, List.length_nil, List.getElem?_cons_zero, List.getElem?_cons_succ, reduceIte, if_true, if_false, Bool.false_eq_true, arN_t, decide_true, decide_false, isNon, Bool.not_true, Bool.not_false, Bool.true_and, Bool.false_and, Bool.and_true, Bool.and_false, bYes_e, lstMax_e, Nat.reduceAdd, Nat.reduceSub, Nat.reduceLeDiff, Int.reduceLT, Int.reduceLE, Int.reduceEq, String.reduceEq, and_self, decide_eq_true_eq, and_true, true_and, cPos_e, cDiv_e, fMod_i, fDiv_i, Int.reduceMod, Int.reduceDiv, Int.reduceSub, Int.reduceAdd, Int.reducePow, kOf_i, fsOf_i, fOwn_k, fOwn1_k, gFld_k, methO_e, methK_s, methA_s, ownK_s, ownK_n, ownK_m, own1K_s, own1K_n, fldK_s, sApp_e, appK_s, sOSub_e, osubK_s, eOIx_e, oixK_s, eOLen_e, olenK_s, ixN_p, Int.reduceToNat, Nat.reduceLT, oS_e, eSl_e, eSlT_e, kSet_e, kSet2_e, kDrop_e, kIf_t, kIf_f, kOwn_e, kApp_e, kOsub1_e, kOsub2_e, osK_s, kOix_e, ixK_s, kFor_e, kUnp_e, unpK_s, kOp1_e, kOp2_e, kUn_e, kC1_e, kC2_e, kA1_e, kA2_e, kFN_e, kCall_e, kMake_e, kCM_e, kMeth_e, kLst_e, lstK_s, kTup_e, tupK_s, kNl_e, nlK_s, nList_e, kNli_e, nliK_s, lOf_l, lOf_t, kNc1_e, kNc2_e, kLc1_e, kLc2_e, kSeq_e, kTpl_e, kEIf_t, kEIf_f, kEAnd_t, kEAnd_f, kEOr_t, kEOr_f, kENot_e, kB_e, kBAnd_t, kBAnd_f, kBOr_t, kBOr_f, kBNot_e, kOS_e, kSl1_e, kSl2_e, kSl3_e, kSt1_e, kSt2_e, kSt3_e, eMeth_e, kMe_e, lc_c, kL1_e, kL2_e, kT_t, kT_f, Int.cast_ofNat_Int, Int.natCast_zero, Int.natCast_one, lRng1_e, kRng_1, kRng_2, kRng_3, kRng_4, kRng_5, kRng_6, List.length_map, arS_0, sEr_e, sTryAs_e, tryK_nx, tryK_rt, tryK_er, afterO_rt, afterO_nx, eXf_e, xfS_s, xfK_s, plain_n, plain_e, List.all_cons, List.all_nil, eq_self, sTryN_e, tryN_nx, tryN_rt, tryN_h, tryN_t, dflI_e, dflF_e, not_false_eq_true, eMethK_e, kMK_e, kMK2_e, eProp_e, kPr_e, eNotO_e, kNotO_e, notK_s, I_k, ↓hk, f]
end K07

set_option Elab.async false
set_option linter.all false
set_option maxRecDepth 100000
set_option maxHeartbeats 4000000
namespace K07
open PySem DL
/-! ### passes drawn, the same passes more than once -/
theorem map_app1 (xs : List One) (x : One) : xs.map One.D ++ [x.D] = (xs ++ [x]).map One.D := by rw [List.map_append]; rfl
theorem of_app {names : List Str} {cond sided : Bool} {xs : List One} {x : One} (h : ∀ y ∈ xs, y.Of names cond sided) (hx : x.Of names cond sided) : ∀ y ∈ xs ++ [x], y.Of names cond sided := fun y hy => by
  rcases List.mem_append.mp hy with h1 | h1
  · exact h y h1
  · rw [List.mem_singleton] at h1; rw [h1]; exact hx
theorem at_onesN {xs : List One} {k : Nat} (hk : k < xs.length) : L2.atI (xs.map One.D) (k : Int) = some (xs[k]).D := by
  rw [at_n (by simpa using hk)]
  simp
def dBody : SM := sIf (bAnd (bOf isB (eOp (fGt) (eOLen 5) (eC (.int 0)))) (bOf isB (eOp (fEq) (eCall (arN 2) g__law_draw (aCons (eVar 0) (aCons (eC (.int 5)) (aNil)))) (eC (.int 4))))) (sApp 5 (eOIx 5 (eCall (arN 2) g__law_draw (aCons (eVar 0) (aCons (eOLen 5) (aNil)))))) (sApp 5 (eCall (arN 4) g__law_one (aCons (eVar 0) (aCons (eVar 1) (aCons (eVar 3) (aCons (eVar 4) (aNil)))))))
theorem d_step (names : List Str) (hn : names.length ≤ 100) (cond sided : Bool) (s2 s6 : Sl) (xs : List One) (h : ∀ y ∈ xs, y.Of names cond sided) (hl : xs.length ≤ 900) (b : Bx) : ∃ (x : One) (b' : Bx), x.Of names cond sided ∧
    dBody [.ev (.o 1), .ev (.d (.lst (names.map .str))), s2, .ev (.d (.bl cond)), .ev (.d (.bl sided)), .own (.lst (xs.map One.D)), s6] (bS b) = .nx [.ev (.o 1), .ev (.d (.lst (names.map .str))), s2, .ev (.d (.bl cond)), .ev (.d (.bl sided)), .own (.lst ((xs ++ [x]).map One.D)), s6] (bS b') := by
  have l1 : xs.length < 100000 := by omega
  by_cases h0 : xs.length = 0
  · have hd : decide ((0 : Int) < ((xs.length : Nat) : Int)) = false := decide_eq_false (by omega)
    obtain ⟨x, b1, e1, o1⟩ := one_gen names hn cond sided b
    exact ⟨x, b1, o1, by simp -implicitDefEqProofs only [bind_ok, bind_er, bindN_ok, ofE_ok, ofE_er, seqO_nx, seqO_rt, seqO_er, seqO_bk, seqO_ct, loopO_nx, loopO_ct, loopO_bk, loopO_rt, loopO_er, lift_s, retO_rt, retO_nx, retO_er, mkO_ok, mkO_er, toOpt_ok, eVar_z, eVar_s, oL_z, oL_s, frz_z, frz_s, wipe_n, wipe_c, datas_n, datas_c, map_s, bind_s, setA_n, setA_c, p2_d, p1_d, pN_d, fEq_i, fEq_s, fEq_b, fEq_ii, fNe_i, fNe_s, fNe_b, fSub_i, fAdd_i, fAnd_i, fOr_i, fXor_i, fLt_i, fLe_i, fGt_i, fGe_i, fIs_d, fIsNot_d, fIsB_b, isB_b, tru_b, tru_i, tru_l, tru_t, orE_s, orE_n, alt2_e, alt1_e, altN_e, fIx_l, fIx_t, at_0, at_1, at_2, at_3, at_4, at_5, for_n, for_c, lc_n, len_lst, len_tup, kfn_c, kix_c, sSeq_e, sNil_e, sSet_e, sSet2_e, sRet_e, sRetN_e, sDrop_e, sIf_e, sBk_e, sCt_e, sFrz_e, sOwn_e, sFor_e, sUnp_e, eC_e, eOp_e, eUn_e, aNil_e, aCons_e, aApp_e, eFN_e, eCall_e, eMake_e, eCMeth_e, eCallO_e, eLst_e, eTup_e, nLst_e, nLc_e, eLc_e, lSeq_e, lTup_e, eIf_e, eAnd_e, eOr_e, eNot_e, bOf_e, bAnd_e, bOr_e, bNot_e, eFld_e, runB_e, env0_e, oN_e, List.set_cons_zero, List.set_cons_succ, List.map_cons, List.map_nil, List.cons_append, List.nil_append, List.replicate_succ, List.replicate_zero, List.length_cons, List.length_nil, List.getElem?_cons_zero, List.getElem?_cons_succ, reduceIte, if_true, if_false, Bool.false_eq_true, arN_t, decide_true, decide_false, isNon, Bool.not_true, Bool.not_false, Bool.true_and, Bool.false_and, Bool.and_true, Bool.and_false, bYes_e, lstMax_e, Nat.reduceAdd, Nat.reduceSub, Nat.reduceLeDiff, Int.reduceLT, Int.reduceLE, Int.reduceEq, String.reduceEq, and_self, decide_eq_true_eq, and_true, true_and, cPos_e, cDiv_e, fMod_i, fDiv_i, Int.reduceMod, Int.reduceDiv, Int.reduceSub, Int.reduceAdd, Int.reducePow, kOf_i, fsOf_i, fOwn_k, fOwn1_k, gFld_k, methO_e, methK_s, methA_s, ownK_s, ownK_n, ownK_m, own1K_s, own1K_n, fldK_s, sApp_e, appK_s, sOSub_e, osubK_s, eOIx_e, oixK_s, eOLen_e, olenK_s, ixN_p, Int.reduceToNat, Nat.reduceLT, oS_e, eSl_e, eSlT_e, kSet_e, kSet2_e, kDrop_e, kIf_t, kIf_f, kOwn_e, kApp_e, kOsub1_e, kOsub2_e, osK_s, kOix_e, ixK_s, kFor_e, kUnp_e, unpK_s, kOp1_e, kOp2_e, kUn_e, kC1_e, kC2_e, kA1_e, kA2_e, kFN_e, kCall_e, kMake_e, kCM_e, kMeth_e, kLst_e, lstK_s, kTup_e, tupK_s, kNl_e, nlK_s, nList_e, kNli_e, nliK_s, lOf_l, lOf_t, kNc1_e, kNc2_e, kLc1_e, kLc2_e, kSeq_e, kTpl_e, kEIf_t, kEIf_f, kEAnd_t, kEAnd_f, kEOr_t, kEOr_f, kENot_e, kB_e, kBAnd_t, kBAnd_f, kBOr_t, kBOr_f, kBNot_e, kOS_e, kSl1_e, kSl2_e, kSl3_e, kSt1_e, kSt2_e, kSt3_e, eMeth_e, kMe_e, lc_c, kL1_e, kL2_e, kT_t, kT_f, Int.cast_ofNat_Int, Int.natCast_zero, Int.natCast_one, lRng1_e, kRng_1, kRng_2, kRng_3, kRng_4, kRng_5, kRng_6, List.length_map, arS_0, sEr_e, sTryAs_e, tryK_nx, tryK_rt, tryK_er, afterO_rt, afterO_nx, eXf_e, xfS_s, xfK_s, plain_n, plain_e, List.all_cons, List.all_nil, eq_self, sTryN_e, tryN_nx, tryN_rt, tryN_h, tryN_t, dflI_e, dflF_e, not_false_eq_true, eMethK_e, kMK_e, kMK2_e, eProp_e, kPr_e, eNotO_e, kNotO_e, notK_s, dBody, hd, e1, l1, map_app1]⟩
  · have hd : decide ((0 : Int) < ((xs.length : Nat) : Int)) = true := decide_eq_true (by omega)
    obtain ⟨v, b1, e1, h1⟩ := draw_s b 5 (by decide) (by decide)
    by_cases h4 : v = 4
    · have hv : decide ((v : Int) = 4) = true := decide_eq_true (by omega)
      obtain ⟨u, b2, e2, h2⟩ := draw_s b1 ((xs.length : Nat) : Int) (by omega) (by omega)
      have hu : u < xs.length := by omega
      have a := at_onesN hu
      exact ⟨xs[u], b2, h _ (List.getElem_mem hu), by simp -implicitDefEqProofs only [bind_ok, bind_er, bindN_ok, ofE_ok, ofE_er, seqO_nx, seqO_rt, seqO_er, seqO_bk, seqO_ct, loopO_nx, loopO_ct, loopO_bk, loopO_rt, loopO_er, lift_s, retO_rt, retO_nx, retO_er, mkO_ok, mkO_er, toOpt_ok, eVar_z, eVar_s, oL_z, oL_s, frz_z, frz_s, wipe_n, wipe_c, datas_n, datas_c, map_s, bind_s, setA_n, setA_c, p2_d, p1_d, pN_d, fEq_i, fEq_s, fEq_b, fEq_ii, fNe_i, fNe_s, fNe_b, fSub_i, fAdd_i, fAnd_i, fOr_i, fXor_i, fLt_i, fLe_i, fGt_i, fGe_i, fIs_d, fIsNot_d, fIsB_b, isB_b, tru_b, tru_i, tru_l, tru_t, orE_s, orE_n, alt2_e, alt1_e, altN_e, fIx_l, fIx_t, at_0, at_1, at_2, at_3, at_4, at_5, for_n, for_c, lc_n, len_lst, len_tup, kfn_c, kix_c, sSeq_e, sNil_e, sSet_e, sSet2_e, sRet_e, sRetN_e, sDrop_e, sIf_e, sBk_e, sCt_e, sFrz_e, sOwn_e, sFor_e, sUnp_e, eC_e, eOp_e, eUn_e, aNil_e, aCons_e, aApp_e, eFN_e, eCall_e, eMake_e, eCMeth_e, eCallO_e, eLst_e, eTup_e, nLst_e, nLc_e, eLc_e, lSeq_e, lTup_e, eIf_e, eAnd_e, eOr_e, eNot_e, bOf_e, bAnd_e, bOr_e, bNot_e, eFld_e, runB_e, env0_e, oN_e, List.set_cons_zero, List.set_cons_succ, List.map_cons, List.map_nil, List.cons_append, List.nil_append, List.replicate_succ, List.replicate_zero, List.length_cons, List.length_nil, List.getElem?_cons_zero, List.getElem?_cons_succ, reduceIte, if_true, if_false, Bool.false_eq_true, arN_t, decide_true, decide_false, isNon, Bool.not_true, Bool.not_false, Bool.true_and, Bool.false_and, Bool.and_true, Bool.and_false, bYes_e, lstMax_e, Nat.reduceAdd, Nat.reduceSub, Nat.reduceLeDiff, Int.reduceLT, Int.reduceLE, Int.reduceEq, String.reduceEq, and_self, decide_eq_true_eq, and_true, true_and, cPos_e, cDiv_e, fMod_i, fDiv_i, Int.reduceMod, Int.reduceDiv, Int.reduceSub, Int.reduceAdd, Int.reducePow, kOf_i, fsOf_i, fOwn_k, fOwn1_k, gFld_k, methO_e, methK_s, methA_s, ownK_s, ownK_n, ownK_m, own1K_s, own1K_n, fldK_s, sApp_e, appK_s, sOSub_e, osubK_s, eOIx_e, oixK_s, eOLen_e, olenK_s, ixN_p, Int.reduceToNat, Nat.reduceLT, oS_e, eSl_e, eSlT_e, kSet_e, kSet2_e, kDrop_e, kIf_t, kIf_f, kOwn_e, kApp_e, kOsub1_e, kOsub2_e, osK_s, kOix_e, ixK_s, kFor_e, kUnp_e, unpK_s, kOp1_e, kOp2_e, kUn_e, kC1_e, kC2_e, kA1_e, kA2_e, kFN_e, kCall_e, kMake_e, kCM_e, kMeth_e, kLst_e, lstK_s, kTup_e, tupK_s, kNl_e, nlK_s, nList_e, kNli_e, nliK_s, lOf_l, lOf_t, kNc1_e, kNc2_e, kLc1_e, kLc2_e, kSeq_e, kTpl_e, kEIf_t, kEIf_f, kEAnd_t, kEAnd_f, kEOr_t, kEOr_f, kENot_e, kB_e, kBAnd_t, kBAnd_f, kBOr_t, kBOr_f, kBNot_e, kOS_e, kSl1_e, kSl2_e, kSl3_e, kSt1_e, kSt2_e, kSt3_e, eMeth_e, kMe_e, lc_c, kL1_e, kL2_e, kT_t, kT_f, Int.cast_ofNat_Int, Int.natCast_zero, Int.natCast_one, lRng1_e, kRng_1, kRng_2, kRng_3, kRng_4, kRng_5, kRng_6, List.length_map, arS_0, sEr_e, sTryAs_e, tryK_nx, tryK_rt, tryK_er, afterO_rt, afterO_nx, eXf_e, xfS_s, xfK_s, plain_n, plain_e, List.all_cons, List.all_nil, eq_self, sTryN_e, tryN_nx, tryN_rt, tryN_h, tryN_t, dflI_e, dflF_e, not_false_eq_true, eMethK_e, kMK_e, kMK2_e, eProp_e, kPr_e, eNotO_e, kNotO_e, notK_s, dBody, hd, e1, hv, e2, a, l1, map_app1]⟩
    · have hv : decide ((v : Int) = 4) = false := decide_eq_false (by omega)
      obtain ⟨x, b2, e2, o1⟩ := one_gen names hn cond sided b1
      exact ⟨x, b2, o1, by simp -implicitDefEqProofs only [bind_ok, bind_er, bindN_ok, ofE_ok, ofE_er, seqO_nx, seqO_rt, seqO_er, seqO_bk, seqO_ct, loopO_nx, loopO_ct, loopO_bk, loopO_rt, loopO_er, lift_s, retO_rt, retO_nx, retO_er, mkO_ok, mkO_er, toOpt_ok, eVar_z, eVar_s, oL_z, oL_s, frz_z, frz_s, wipe_n, wipe_c, datas_n, datas_c, map_s, bind_s, setA_n, setA_c, p2_d, p1_d, pN_d, fEq_i, fEq_s, fEq_b, fEq_ii, fNe_i, fNe_s, fNe_b, fSub_i, fAdd_i, fAnd_i, fOr_i, fXor_i, fLt_i, fLe_i, fGt_i, fGe_i, fIs_d, fIsNot_d, fIsB_b, isB_b, tru_b, tru_i, tru_l, tru_t, orE_s, orE_n, alt2_e, alt1_e, altN_e, fIx_l, fIx_t, at_0, at_1, at_2, at_3, at_4, at_5, for_n, for_c, lc_n, len_lst, len_tup, kfn_c, kix_c, sSeq_e, sNil_e, sSet_e, sSet2_e, sRet_e, sRetN_e, sDrop_e, sIf_e, sBk_e, sCt_e, sFrz_e, sOwn_e, sFor_e, sUnp_e, eC_e, eOp_e, eUn_e, aNil_e, aCons_e, aApp_e, eFN_e, eCall_e, eMake_e, eCMeth_e, eCallO_e, eLst_e, eTup_e, nLst_e, nLc_e, eLc_e, lSeq_e, lTup_e, eIf_e, eAnd_e, eOr_e, eNot_e, bOf_e, bAnd_e, bOr_e, bNot_e, eFld_e, runB_e, env0_e, oN_e, List.set_cons_zero, List.set_cons_succ, List.map_cons, List.map_nil, List.cons_append, List.nil_append, List.replicate_succ, List.replicate_zero, List.length_cons, List.length_nil, List.getElem?_cons_zero, List.getElem?_cons_succ, reduceIte, if_true, if_false, Bool.false_eq_true, arN_t, decide_true, decide_false, isNon, Bool.not_true, Bool.not_false, Bool.true_and, Bool.false_and, Bool.and_true, Bool.and_false, bYes_e, lstMax_e, Nat.reduceAdd, Nat.reduceSub, Nat.reduceLeDiff, Int.reduceLT, Int.reduceLE, Int.reduceEq, String.reduceEq, and_self, decide_eq_true_eq, and_true, true_and, cPos_e, cDiv_e, fMod_i, fDiv_i, Int.reduceMod, Int.reduceDiv, Int.reduceSub, Int.reduceAdd, Int.reducePow, kOf_i, fsOf_i, fOwn_k, fOwn1_k, gFld_k, methO_e, methK_s, methA_s, ownK_s, ownK_n, ownK_m, own1K_s, own1K_n, fldK_s, sApp_e, appK_s, sOSub_e, osubK_s, eOIx_e, oixK_s, eOLen_e, olenK_s, ixN_p, Int.reduceToNat, Nat.reduceLT, oS_e, eSl_e, eSlT_e, kSet_e, kSet2_e, kDrop_e, kIf_t, kIf_f, kOwn_e, kApp_e, kOsub1_e, kOsub2_e, osK_s, kOix_e, ixK_s, kFor_e, kUnp_e, unpK_s, kOp1_e, kOp2_e, kUn_e, kC1_e, kC2_e, kA1_e, kA2_e, kFN_e, kCall_e, kMake_e, kCM_e, kMeth_e, kLst_e, lstK_s, kTup_e, tupK_s, kNl_e, nlK_s, nList_e, kNli_e, nliK_s, lOf_l, lOf_t, kNc1_e, kNc2_e, kLc1_e, kLc2_e, kSeq_e, kTpl_e, kEIf_t, kEIf_f, kEAnd_t, kEAnd_f, kEOr_t, kEOr_f, kENot_e, kB_e, kBAnd_t, kBAnd_f, kBOr_t, kBOr_f, kBNot_e, kOS_e, kSl1_e, kSl2_e, kSl3_e, kSt1_e, kSt2_e, kSt3_e, eMeth_e, kMe_e, lc_c, kL1_e, kL2_e, kT_t, kT_f, Int.cast_ofNat_Int, Int.natCast_zero, Int.natCast_one, lRng1_e, kRng_1, kRng_2, kRng_3, kRng_4, kRng_5, kRng_6, List.length_map, arS_0, sEr_e, sTryAs_e, tryK_nx, tryK_rt, tryK_er, afterO_rt, afterO_nx, eXf_e, xfS_s, xfK_s, plain_n, plain_e, List.all_cons, List.all_nil, eq_self, sTryN_e, tryN_nx, tryN_rt, tryN_h, tryN_t, dflI_e, dflF_e, not_false_eq_true, eMethK_e, kMK_e, kMK2_e, eProp_e, kPr_e, eNotO_e, kNotO_e, notK_s, dBody, hd, e1, hv, e2, l1, map_app1]⟩
theorem d_loop (names : List Str) (hn : names.length ≤ 100) (cond sided : Bool) (s2 : Sl) : ∀ (ds : List DL.D) (s6 : Sl) (xs : List One) (b : Bx), (∀ y ∈ xs, y.Of names cond sided) → xs.length + ds.length ≤ 900 → ∃ (ys : List One) (b' : Bx) (s6' : Sl), ys.length = xs.length + ds.length ∧ (∀ y ∈ ys, y.Of names cond sided) ∧
    forL 6 dBody ds [.ev (.o 1), .ev (.d (.lst (names.map .str))), s2, .ev (.d (.bl cond)), .ev (.d (.bl sided)), .own (.lst (xs.map One.D)), s6] (bS b) = .nx [.ev (.o 1), .ev (.d (.lst (names.map .str))), s2, .ev (.d (.bl cond)), .ev (.d (.bl sided)), .own (.lst (ys.map One.D)), s6'] (bS b')
  | [], s6, xs, b, h, _ => ⟨xs, b, s6, rfl, h, rfl⟩
  | d :: ds, s6, xs, b, h, hl => by
    obtain ⟨x, b1, ox, e1⟩ := d_step names hn cond sided s2 (.ev (.d d)) xs h (by omega) b
    obtain ⟨ys, b2, s6', yl, yo, e2⟩ := d_loop names hn cond sided s2 ds (.ev (.d d)) (xs ++ [x]) b1 (of_app h ox) (by rw [List.length_append, List.length_singleton]; rw [List.length_cons] at hl; omega)
    refine ⟨ys, b2, s6', by rw [yl, List.length_append, List.length_singleton, List.length_cons]; omega, yo, ?_⟩
    refine Eq.trans ?_ e2
    show loopO (dBody ([.ev (.o 1), .ev (.d (.lst (names.map .str))), s2, .ev (.d (.bl cond)), .ev (.d (.bl sided)), .own (.lst (xs.map One.D)), .ev (.d d)] : En) (bS b)) (forL 6 dBody ds) = _
    rw [e1]
    rfl
theorem drawn_gen (names : List Str) (hn : names.length ≤ 100) (most : Nat) (hm : most ≤ 100) (cond sided : Bool) (b : Bx) : ∃ (xs : List One) (b' : Bx), xs.length ≤ most ∧ (∀ y ∈ xs, y.Of names cond sided) ∧
    g__law_drawn [.o 1, .d (.lst (names.map .str)), .d (.int (most : Nat)), .d (.bl cond), .d (.bl sided)] (bS b) = .ok (.d (.lst (xs.map One.D))) (bS b') := by
  obtain ⟨v, b1, e1, h1⟩ := draw_s b ((most : Nat) + 1 : Int) (by omega) (by omega)
  have lv : v ≤ 1000000 := by omega
  obtain ⟨xs, b2, s6, xl, xo, e2⟩ := d_loop names hn cond sided (.ev (.d (.int (most : Nat)))) (rangeD v) .no [] b1 (fun _ h => nomatch h) (by rw [rangeD_len]; simp; omega)
  rw [rangeD_len] at xl
  refine ⟨xs, b2, by simp at xl; omega, xo, ?_⟩
  have e2' := e2
  unfold dBody at e2'
  rw [List.map_nil] at e2'
  simp -implicitDefEqProofs only [bind_ok, bind_er, bindN_ok, ofE_ok, ofE_er, seqO_nx, seqO_rt, seqO_er, seqO_bk, seqO_ct, loopO_nx, loopO_ct, loopO_bk, loopO_rt, loopO_er, lift_s, retO_rt, retO_nx, retO_er, mkO_ok, mkO_er, toOpt_ok, eVar_z, eVar_s, oL_z, oL_s, frz_z, frz_s, wipe_n, wipe_c, datas_n, datas_c, map_s, bind_s, setA_n, setA_c, p2_d, p1_d, pN_d, fEq_i, fEq_s, fEq_b, fEq_ii, fNe_i, fNe_s, fNe_b, fSub_i, fAdd_i, fAnd_i, fOr_i, fXor_i, fLt_i, fLe_i, fGt_i, fGe_i, fIs_d, fIsNot_d, fIsB_b, isB_b, tru_b, tru_i, tru_l, tru_t, orE_s, orE_n, alt2_e, alt1_e, altN_e, fIx_l, fIx_t, at_0, at_1, at_2, at_3, at_4, at_5, for_n, for_c, lc_n, len_lst, len_tup, kfn_c, kix_c, sSeq_e, sNil_e, sSet_e, sSet2_e, sRet_e, sRetN_e, sDrop_e, sIf_e, sBk_e, sCt_e, sFrz_e, sOwn_e, sFor_e, sUnp_e, eC_e, eOp_e, eUn_e, aNil_e, aCons_e, aApp_e, eFN_e, eCall_e, eMake_e, eCMeth_e, eCallO_e, eLst_e, eTup_e, nLst_e, nLc_e, eLc_e, lSeq_e, lTup_e, eIf_e, eAnd_e, eOr_e, eNot_e, bOf_e, bAnd_e, bOr_e, bNot_e, eFld_e, runB_e, env0_e, oN_e, List.set_cons_zero, List.set_cons_succ, List.map_cons, List.map_nil, List.cons_append, List.nil_append, List.replicate_succ, List.replicate_zero, List.length_cons, List.length_nil, List.getElem?_cons_zero, List.getElem?_cons_succ, reduceIte, if_true, if_false, Bool.false_eq_true, arN_t, decide_true, decide_false, isNon, Bool.not_true, Bool.not_false, Bool.true_and, Bool.false_and, Bool.and_true, Bool.and_false, bYes_e, lstMax_e, Nat.reduceAdd, Nat.reduceSub, Nat.reduceLeDiff, Int.reduceLT, Int.reduceLE, Int.reduceEq, String.reduceEq, and_self, decide_eq_true_eq, and_true, true_and, cPos_e, cDiv_e, fMod_i, fDiv_i, Int.reduceMod, Int.reduceDiv, Int.reduceSub, Int.reduceAdd, Int.reducePow, kOf_i, fsOf_i, fOwn_k, fOwn1_k, gFld_k, methO_e, methK_s, methA_s, ownK_s, ownK_n, ownK_m, own1K_s, own1K_n, fldK_s, sApp_e, appK_s, sOSub_e, osubK_s, eOIx_e, oixK_s, eOLen_e, olenK_s, ixN_p, Int.reduceToNat, Nat.reduceLT, oS_e, eSl_e, eSlT_e, kSet_e, kSet2_e, kDrop_e, kIf_t, kIf_f, kOwn_e, kApp_e, kOsub1_e, kOsub2_e, osK_s, kOix_e, ixK_s, kFor_e, kUnp_e, unpK_s, kOp1_e, kOp2_e, kUn_e, kC1_e, kC2_e, kA1_e, kA2_e, kFN_e, kCall_e, kMake_e, kCM_e, kMeth_e, kLst_e, lstK_s, kTup_e, tupK_s, kNl_e, nlK_s, nList_e, kNli_e, nliK_s, lOf_l, lOf_t, kNc1_e, kNc2_e, kLc1_e, kLc2_e, kSeq_e, kTpl_e, kEIf_t, kEIf_f, kEAnd_t, kEAnd_f, kEOr_t, kEOr_f, kENot_e, kB_e, kBAnd_t, kBAnd_f, kBOr_t, kBOr_f, kBNot_e, kOS_e, kSl1_e, kSl2_e, kSl3_e, kSt1_e, kSt2_e, kSt3_e, eMeth_e, kMe_e, lc_c, kL1_e, kL2_e, kT_t, kT_f, Int.cast_ofNat_Int, Int.natCast_zero, Int.natCast_one, lRng1_e, kRng_1, kRng_2, kRng_3, kRng_4, kRng_5, kRng_6, List.length_map, arS_0, sEr_e, sTryAs_e, tryK_nx, tryK_rt, tryK_er, afterO_rt, afterO_nx, eXf_e, xfS_s, xfK_s, plain_n, plain_e, List.all_cons, List.all_nil, eq_self, sTryN_e, tryN_nx, tryN_rt, tryN_h, tryN_t, dflI_e, dflF_e, not_false_eq_true, eMethK_e, kMK_e, kMK2_e, eProp_e, kPr_e, eNotO_e, kNotO_e, notK_s, g__law_drawn, m__law_drawn, e1, kRng_n lv, ↓e2']
end K07

set_option Elab.async false
set_option linter.all false
set_option maxRecDepth 100000
set_option maxHeartbeats 4000000
namespace K07
open PySem DL
/-! ### passes near those drawn, without a side -/
def IsOf (names : List Str) (cond sided : Bool) (d : DL.D) : Prop := ∃ y : One, y.Of names cond sided ∧ d = y.D
theorem back_of {names : List Str} {cond sided : Bool} : ∀ {L : List DL.D}, (∀ d ∈ L, IsOf names cond sided d) → ∃ ys : List One, L = ys.map One.D ∧ ∀ y ∈ ys, y.Of names cond sided
  | [], _ => ⟨[], rfl, fun _ h => nomatch h⟩
  | d :: L, h => by
    obtain ⟨y, hy, rfl⟩ := h d (List.mem_cons_self ..)
    obtain ⟨ys, rfl, ho⟩ := back_of (L := L) fun e he => h e (List.mem_cons_of_mem _ he)
    refine ⟨y :: ys, rfl, fun z hz => ?_⟩
    rcases List.mem_cons.mp hz with rfl | hz
    · exact hy
    · exact ho z hz
theorem of_cat {names : List Str} {cond sided : Bool} {a b : List DL.D} (h : ∀ d ∈ a, IsOf names cond sided d) (k : ∀ d ∈ b, IsOf names cond sided d) : ∀ d ∈ a ++ b, IsOf names cond sided d := fun d hd => (List.mem_append.mp hd).elim (h d) (k d)
theorem of_one {names : List Str} {cond sided : Bool} {y : One} (h : y.Of names cond sided) : ∀ d ∈ [y.D], IsOf names cond sided d := fun d hd => by rw [List.mem_singleton] at hd; rw [hd]; exact ⟨y, h, rfl⟩
theorem cut_mem {l : List DL.D} {lo hi : Option Int} {d : DL.D} (h : d ∈ cutL l lo hi) : d ∈ l := List.mem_of_mem_drop (List.mem_of_mem_take h)
theorem cut_len (l : List DL.D) (lo hi : Option Int) : (cutL l lo hi).length ≤ l.length := by unfold cutL; rw [List.length_take, List.length_drop]; omega
theorem add_ll (a b : List DL.D) (G : GS) : fAdd (.d (.lst a)) (.d (.lst b)) G = none := rfl
theorem cat_ll {a b : List DL.D} {G : GS} (h : a.length + b.length ≤ 100000) : fCatL (.d (.lst a)) (.d (.lst b)) G = some (.d (.lst (a ++ b)), G) := if_pos h
theorem fls {a : List DL.D} {G : GS} : fList [.d (.lst a)] G = some (.d (.lst a), G) := rfl
theorem is_non (m : Option Str) : ∃ b : Bool, ∀ G, fIs (.d (maskD m)) (.d .non) G = some (.d (.bl b), G) := by cases m <;> exact ⟨_, fun _ => rfl⟩
theorem near_gen (names : List Str) (hn : names.length ≤ 100) (cond : Bool) (xs : List One) (h : ∀ y ∈ xs, y.Of names cond false) (hl : xs.length ≤ 100) (b : Bx) : ∃ (ys : List One) (b' : Bx), ys.length ≤ xs.length + 2 ∧ (∀ y ∈ ys, y.Of names cond false) ∧
    g__law_near [.o 1, .d (.lst (xs.map One.D)), .d (.lst (names.map .str)), .d (.bl cond), .d (.bl false)] (bS b) = .ok (.d (.lst (ys.map One.D))) (bS b') := by
  obtain ⟨v, b1, e1, h1⟩ := draw_s b 8 (by decide) (by decide)
  obtain ⟨x, b2, e2, ox⟩ := one_gen names hn cond false b1
  have hx := of_one ox
  have hxs : ∀ d ∈ xs.map One.D, IsOf names cond false d := fun d hd => by
    obtain ⟨y, hy, rfl⟩ := List.mem_map.mp hd
    exact ⟨y, h y hy, rfl⟩
  have fin : ∀ (L : List DL.D) (b' : Bx), L.length ≤ xs.length + 2 → (∀ d ∈ L, IsOf names cond false d) → g__law_near [.o 1, .d (.lst (xs.map One.D)), .d (.lst (names.map .str)), .d (.bl cond), .d (.bl false)] (bS b) = .ok (.d (.lst L)) (bS b') → ∃ (ys : List One) (b' : Bx), ys.length ≤ xs.length + 2 ∧ (∀ y ∈ ys, y.Of names cond false) ∧
      g__law_near [.o 1, .d (.lst (xs.map One.D)), .d (.lst (names.map .str)), .d (.bl cond), .d (.bl false)] (bS b) = .ok (.d (.lst (ys.map One.D))) (bS b') := fun L b' ll lh le => by
    obtain ⟨ys, rfl, ho⟩ := back_of lh
    exact ⟨ys, b', by rwa [List.length_map] at ll, ho, le⟩
  have lm : (xs.map One.D).length = xs.length := List.length_map ..
  have l1 : xs.length ≤ 100000 := by omega
  have cx : fCatL (.d (.lst (xs.map One.D))) (.d (.lst [x.D])) (bS b2) = some (.d (.lst (xs.map One.D ++ [x.D])), bS b2) := cat_ll (by rw [lm, List.length_singleton]; omega)
  have al := add_ll
  have v8 : v = 0 ∨ v = 1 ∨ v = 2 ∨ v = 3 ∨ v = 4 ∨ v = 5 ∨ v = 6 ∨ v = 7 := by omega
  by_cases h0 : xs.length = 0
  · have hd : decide (((xs.length : Nat) : Int) = 0) = true := decide_eq_true (by omega)
    refine fin (xs.map One.D ++ [x.D]) b2 (by rw [List.length_append, lm, List.length_singleton]; omega) (of_cat hxs hx) ?_
    by_cases h6 : v = 6
    · have hv : decide ((v : Int) = 6) = true := decide_eq_true (by omega)
      simp -implicitDefEqProofs only [bind_ok, bind_er, bindN_ok, ofE_ok, ofE_er, seqO_nx, seqO_rt, seqO_er, seqO_bk, seqO_ct, loopO_nx, loopO_ct, loopO_bk, loopO_rt, loopO_er, lift_s, retO_rt, retO_nx, retO_er, mkO_ok, mkO_er, toOpt_ok, eVar_z, eVar_s, oL_z, oL_s, frz_z, frz_s, wipe_n, wipe_c, datas_n, datas_c, map_s, bind_s, setA_n, setA_c, p2_d, p1_d, pN_d, fEq_i, fEq_s, fEq_b, fEq_ii, fNe_i, fNe_s, fNe_b, fSub_i, fAdd_i, fAnd_i, fOr_i, fXor_i, fLt_i, fLe_i, fGt_i, fGe_i, fIs_d, fIsNot_d, fIsB_b, isB_b, tru_b, tru_i, tru_l, tru_t, orE_s, orE_n, alt2_e, alt1_e, altN_e, fIx_l, fIx_t, at_0, at_1, at_2, at_3, at_4, at_5, for_n, for_c, lc_n, len_lst, len_tup, kfn_c, kix_c, sSeq_e, sNil_e, sSet_e, sSet2_e, sRet_e, sRetN_e, sDrop_e, sIf_e, sBk_e, sCt_e, sFrz_e, sOwn_e, sFor_e, sUnp_e, eC_e, eOp_e, eUn_e, aNil_e, aCons_e, aApp_e, eFN_e, eCall_e, eMake_e, eCMeth_e, eCallO_e, eLst_e, eTup_e, nLst_e, nLc_e, eLc_e, lSeq_e, lTup_e, eIf_e, eAnd_e, eOr_e, eNot_e, bOf_e, bAnd_e, bOr_e, bNot_e, eFld_e, runB_e, env0_e, oN_e, List.set_cons_zero, List.set_cons_succ, List.map_cons, List.map_nil, List.cons_append, List.nil_append, List.replicate_succ, List.replicate_zero, List.length_cons, List.length_nil, List.getElem?_cons_zero, List.getElem?_cons_succ, reduceIte, if_true, if_false, Bool.false_eq_true, arN_t, decide_true, decide_false, isNon, Bool.not_true, Bool.not_false, Bool.true_and, Bool.false_and, Bool.and_true, Bool.and_false, bYes_e, lstMax_e, Nat.reduceAdd, Nat.reduceSub, Nat.reduceLeDiff, Int.reduceLT, Int.reduceLE, Int.reduceEq, String.reduceEq, and_self, decide_eq_true_eq, and_true, true_and, cPos_e, cDiv_e, fMod_i, fDiv_i, Int.reduceMod, Int.reduceDiv, Int.reduceSub, Int.reduceAdd, Int.reducePow, kOf_i, fsOf_i, fOwn_k, fOwn1_k, gFld_k, methO_e, methK_s, methA_s, ownK_s, ownK_n, ownK_m, own1K_s, own1K_n, fldK_s, sApp_e, appK_s, sOSub_e, osubK_s, eOIx_e, oixK_s, eOLen_e, olenK_s, ixN_p, Int.reduceToNat, Nat.reduceLT, oS_e, eSl_e, eSlT_e, kSet_e, kSet2_e, kDrop_e, kIf_t, kIf_f, kOwn_e, kApp_e, kOsub1_e, kOsub2_e, osK_s, kOix_e, ixK_s, kFor_e, kUnp_e, unpK_s, kOp1_e, kOp2_e, kUn_e, kC1_e, kC2_e, kA1_e, kA2_e, kFN_e, kCall_e, kMake_e, kCM_e, kMeth_e, kLst_e, lstK_s, kTup_e, tupK_s, kNl_e, nlK_s, nList_e, kNli_e, nliK_s, lOf_l, lOf_t, kNc1_e, kNc2_e, kLc1_e, kLc2_e, kSeq_e, kTpl_e, kEIf_t, kEIf_f, kEAnd_t, kEAnd_f, kEOr_t, kEOr_f, kENot_e, kB_e, kBAnd_t, kBAnd_f, kBOr_t, kBOr_f, kBNot_e, kOS_e, kSl1_e, kSl2_e, kSl3_e, kSt1_e, kSt2_e, kSt3_e, eMeth_e, kMe_e, lc_c, kL1_e, kL2_e, kT_t, kT_f, Int.cast_ofNat_Int, Int.natCast_zero, Int.natCast_one, lRng1_e, kRng_1, kRng_2, kRng_3, kRng_4, kRng_5, kRng_6, List.length_map, arS_0, sEr_e, sTryAs_e, tryK_nx, tryK_rt, tryK_er, afterO_rt, afterO_nx, eXf_e, xfS_s, xfK_s, plain_n, plain_e, List.all_cons, List.all_nil, eq_self, sTryN_e, tryN_nx, tryN_rt, tryN_h, tryN_t, dflI_e, dflF_e, not_false_eq_true, eMethK_e, kMK_e, kMK2_e, eProp_e, kPr_e, eNotO_e, kNotO_e, notK_s, g__law_near, m__law_near, e1, e2, hv, hd, l1, al, cx]
    · have hv : decide ((v : Int) = 6) = false := decide_eq_false (by omega)
      simp -implicitDefEqProofs only [bind_ok, bind_er, bindN_ok, ofE_ok, ofE_er, seqO_nx, seqO_rt, seqO_er, seqO_bk, seqO_ct, loopO_nx, loopO_ct, loopO_bk, loopO_rt, loopO_er, lift_s, retO_rt, retO_nx, retO_er, mkO_ok, mkO_er, toOpt_ok, eVar_z, eVar_s, oL_z, oL_s, frz_z, frz_s, wipe_n, wipe_c, datas_n, datas_c, map_s, bind_s, setA_n, setA_c, p2_d, p1_d, pN_d, fEq_i, fEq_s, fEq_b, fEq_ii, fNe_i, fNe_s, fNe_b, fSub_i, fAdd_i, fAnd_i, fOr_i, fXor_i, fLt_i, fLe_i, fGt_i, fGe_i, fIs_d, fIsNot_d, fIsB_b, isB_b, tru_b, tru_i, tru_l, tru_t, orE_s, orE_n, alt2_e, alt1_e, altN_e, fIx_l, fIx_t, at_0, at_1, at_2, at_3, at_4, at_5, for_n, for_c, lc_n, len_lst, len_tup, kfn_c, kix_c, sSeq_e, sNil_e, sSet_e, sSet2_e, sRet_e, sRetN_e, sDrop_e, sIf_e, sBk_e, sCt_e, sFrz_e, sOwn_e, sFor_e, sUnp_e, eC_e, eOp_e, eUn_e, aNil_e, aCons_e, aApp_e, eFN_e, eCall_e, eMake_e, eCMeth_e, eCallO_e, eLst_e, eTup_e, nLst_e, nLc_e, eLc_e, lSeq_e, lTup_e, eIf_e, eAnd_e, eOr_e, eNot_e, bOf_e, bAnd_e, bOr_e, bNot_e, eFld_e, runB_e, env0_e, oN_e, List.set_cons_zero, List.set_cons_succ, List.map_cons, List.map_nil, List.cons_append, List.nil_append, List.replicate_succ, List.replicate_zero, List.length_cons, List.length_nil, List.getElem?_cons_zero, List.getElem?_cons_succ, reduceIte, if_true, if_false, Bool.false_eq_true, arN_t, decide_true, decide_false, isNon, Bool.not_true, Bool.not_false, Bool.true_and, Bool.false_and, Bool.and_true, Bool.and_false, bYes_e, lstMax_e, Nat.reduceAdd, Nat.reduceSub, Nat.reduceLeDiff, Int.reduceLT, Int.reduceLE, Int.reduceEq, String.reduceEq, and_self, decide_eq_true_eq, and_true, true_and, cPos_e, cDiv_e, fMod_i, fDiv_i, Int.reduceMod, Int.reduceDiv, Int.reduceSub, Int.reduceAdd, Int.reducePow, kOf_i, fsOf_i, fOwn_k, fOwn1_k, gFld_k, methO_e, methK_s, methA_s, ownK_s, ownK_n, ownK_m, own1K_s, own1K_n, fldK_s, sApp_e, appK_s, sOSub_e, osubK_s, eOIx_e, oixK_s, eOLen_e, olenK_s, ixN_p, Int.reduceToNat, Nat.reduceLT, oS_e, eSl_e, eSlT_e, kSet_e, kSet2_e, kDrop_e, kIf_t, kIf_f, kOwn_e, kApp_e, kOsub1_e, kOsub2_e, osK_s, kOix_e, ixK_s, kFor_e, kUnp_e, unpK_s, kOp1_e, kOp2_e, kUn_e, kC1_e, kC2_e, kA1_e, kA2_e, kFN_e, kCall_e, kMake_e, kCM_e, kMeth_e, kLst_e, lstK_s, kTup_e, tupK_s, kNl_e, nlK_s, nList_e, kNli_e, nliK_s, lOf_l, lOf_t, kNc1_e, kNc2_e, kLc1_e, kLc2_e, kSeq_e, kTpl_e, kEIf_t, kEIf_f, kEAnd_t, kEAnd_f, kEOr_t, kEOr_f, kENot_e, kB_e, kBAnd_t, kBAnd_f, kBOr_t, kBOr_f, kBNot_e, kOS_e, kSl1_e, kSl2_e, kSl3_e, kSt1_e, kSt2_e, kSt3_e, eMeth_e, kMe_e, lc_c, kL1_e, kL2_e, kT_t, kT_f, Int.cast_ofNat_Int, Int.natCast_zero, Int.natCast_one, lRng1_e, kRng_1, kRng_2, kRng_3, kRng_4, kRng_5, kRng_6, List.length_map, arS_0, sEr_e, sTryAs_e, tryK_nx, tryK_rt, tryK_er, afterO_rt, afterO_nx, eXf_e, xfS_s, xfK_s, plain_n, plain_e, List.all_cons, List.all_nil, eq_self, sTryN_e, tryN_nx, tryN_rt, tryN_h, tryN_t, dflI_e, dflF_e, not_false_eq_true, eMethK_e, kMK_e, kMK2_e, eProp_e, kPr_e, eNotO_e, kNotO_e, notK_s, g__law_near, m__law_near, e1, e2, hv, hd, l1, al, cx]
  have hd : decide (((xs.length : Nat) : Int) = 0) = false := decide_eq_false (by omega)
  by_cases h6 : v = 6
  · have hv : decide ((v : Int) = 6) = true := decide_eq_true (by omega)
    refine fin (xs.map One.D ++ [x.D]) b2 (by rw [List.length_append, lm, List.length_singleton]; omega) (of_cat hxs hx) ?_
    simp -implicitDefEqProofs only [bind_ok, bind_er, bindN_ok, ofE_ok, ofE_er, seqO_nx, seqO_rt, seqO_er, seqO_bk, seqO_ct, loopO_nx, loopO_ct, loopO_bk, loopO_rt, loopO_er, lift_s, retO_rt, retO_nx, retO_er, mkO_ok, mkO_er, toOpt_ok, eVar_z, eVar_s, oL_z, oL_s, frz_z, frz_s, wipe_n, wipe_c, datas_n, datas_c, map_s, bind_s, setA_n, setA_c, p2_d, p1_d, pN_d, fEq_i, fEq_s, fEq_b, fEq_ii, fNe_i, fNe_s, fNe_b, fSub_i, fAdd_i, fAnd_i, fOr_i, fXor_i, fLt_i, fLe_i, fGt_i, fGe_i, fIs_d, fIsNot_d, fIsB_b, isB_b, tru_b, tru_i, tru_l, tru_t, orE_s, orE_n, alt2_e, alt1_e, altN_e, fIx_l, fIx_t, at_0, at_1, at_2, at_3, at_4, at_5, for_n, for_c, lc_n, len_lst, len_tup, kfn_c, kix_c, sSeq_e, sNil_e, sSet_e, sSet2_e, sRet_e, sRetN_e, sDrop_e, sIf_e, sBk_e, sCt_e, sFrz_e, sOwn_e, sFor_e, sUnp_e, eC_e, eOp_e, eUn_e, aNil_e, aCons_e, aApp_e, eFN_e, eCall_e, eMake_e, eCMeth_e, eCallO_e, eLst_e, eTup_e, nLst_e, nLc_e, eLc_e, lSeq_e, lTup_e, eIf_e, eAnd_e, eOr_e, eNot_e, bOf_e, bAnd_e, bOr_e, bNot_e, eFld_e, runB_e, env0_e, oN_e, List.set_cons_zero, List.set_cons_succ, List.map_cons, List.map_nil, List.cons_append, List.nil_append, List.replicate_succ, List.replicate_zero, List.length_cons, List.length_nil, List.getElem?_cons_zero, List.getElem?_cons_succ, reduceIte, if_true, if_false, Bool.false_eq_true, arN_t, decide_true, decide_false, isNon, Bool.not_true, Bool.not_false, Bool.true_and, Bool.false_and, Bool.and_true, Bool.and_false, bYes_e, lstMax_e, Nat.reduceAdd, Nat.reduceSub, Nat.reduceLeDiff, Int.reduceLT, Int.reduceLE, Int.reduceEq, String.reduceEq, and_self, decide_eq_true_eq, and_true, true_and, cPos_e, cDiv_e, fMod_i, fDiv_i, Int.reduceMod, Int.reduceDiv, Int.reduceSub, Int.reduceAdd, Int.reducePow, kOf_i, fsOf_i, fOwn_k, fOwn1_k, gFld_k, methO_e, methK_s, methA_s, ownK_s, ownK_n, ownK_m, own1K_s, own1K_n, fldK_s, sApp_e, appK_s, sOSub_e, osubK_s, eOIx_e, oixK_s, eOLen_e, olenK_s, ixN_p, Int.reduceToNat, Nat.reduceLT, oS_e, eSl_e, eSlT_e, kSet_e, kSet2_e, kDrop_e, kIf_t, kIf_f, kOwn_e, kApp_e, kOsub1_e, kOsub2_e, osK_s, kOix_e, ixK_s, kFor_e, kUnp_e, unpK_s, kOp1_e, kOp2_e, kUn_e, kC1_e, kC2_e, kA1_e, kA2_e, kFN_e, kCall_e, kMake_e, kCM_e, kMeth_e, kLst_e, lstK_s, kTup_e, tupK_s, kNl_e, nlK_s, nList_e, kNli_e, nliK_s, lOf_l, lOf_t, kNc1_e, kNc2_e, kLc1_e, kLc2_e, kSeq_e, kTpl_e, kEIf_t, kEIf_f, kEAnd_t, kEAnd_f, kEOr_t, kEOr_f, kENot_e, kB_e, kBAnd_t, kBAnd_f, kBOr_t, kBOr_f, kBNot_e, kOS_e, kSl1_e, kSl2_e, kSl3_e, kSt1_e, kSt2_e, kSt3_e, eMeth_e, kMe_e, lc_c, kL1_e, kL2_e, kT_t, kT_f, Int.cast_ofNat_Int, Int.natCast_zero, Int.natCast_one, lRng1_e, kRng_1, kRng_2, kRng_3, kRng_4, kRng_5, kRng_6, List.length_map, arS_0, sEr_e, sTryAs_e, tryK_nx, tryK_rt, tryK_er, afterO_rt, afterO_nx, eXf_e, xfS_s, xfK_s, plain_n, plain_e, List.all_cons, List.all_nil, eq_self, sTryN_e, tryN_nx, tryN_rt, tryN_h, tryN_t, dflI_e, dflF_e, not_false_eq_true, eMethK_e, kMK_e, kMK2_e, eProp_e, kPr_e, eNotO_e, kNotO_e, notK_s, g__law_near, m__law_near, e1, e2, hv, hd, l1, al, cx]
  obtain ⟨k, b3, e3, h3⟩ := draw_s b2 ((xs.length : Nat) : Int) (by omega) (by omega)
  have hk : k < xs.length := by omega
  have a := at_onesN hk
  have hy := of_one (h _ (List.getElem_mem hk))
  have hcut : ∀ lo hi, ∀ d ∈ cutL (xs.map One.D) lo hi, IsOf names cond false d := fun lo hi d hd => hxs d (cut_mem hd)
  have lcut := fun lo hi => lm ▸ cut_len (xs.map One.D) lo hi
  have ln := fun lo hi lo' hi' => Nat.add_le_add (lcut lo hi) (lcut lo' hi')
  generalize hy0 : xs[k] = y at a hy
  have c1 : ∀ lo hi (z : One), fCatL (.d (.lst (cutL (xs.map One.D) lo hi))) (.d (.lst [z.D])) (bS b3) = some (.d (.lst (cutL (xs.map One.D) lo hi ++ [z.D])), bS b3) := fun lo hi z => cat_ll (by have := lcut lo hi; rw [List.length_singleton]; omega)
  have c2 : ∀ lo hi lo' hi', fCatL (.d (.lst (cutL (xs.map One.D) lo hi))) (.d (.lst (cutL (xs.map One.D) lo' hi'))) (bS b3) = some (.d (.lst (cutL (xs.map One.D) lo hi ++ cutL (xs.map One.D) lo' hi')), bS b3) := fun lo hi lo' hi' => cat_ll (by have := lcut lo hi; have := lcut lo' hi'; omega)
  have c3 : ∀ lo hi (z : One) lo' hi', fCatL (.d (.lst (cutL (xs.map One.D) lo hi ++ [z.D]))) (.d (.lst (cutL (xs.map One.D) lo' hi'))) (bS b3) = some (.d (.lst (cutL (xs.map One.D) lo hi ++ [z.D] ++ cutL (xs.map One.D) lo' hi')), bS b3) := fun lo hi z lo' hi' => cat_ll (by have := lcut lo hi; have := lcut lo' hi'; rw [List.length_append, List.length_singleton]; omega)
  have c4 : ∀ lo hi lo' hi' (z : One), fCatL (.d (.lst (cutL (xs.map One.D) lo hi ++ cutL (xs.map One.D) lo' hi'))) (.d (.lst [z.D])) (bS b3) = some (.d (.lst (cutL (xs.map One.D) lo hi ++ cutL (xs.map One.D) lo' hi' ++ [z.D])), bS b3) := fun lo hi lo' hi' z => cat_ll (by have := lcut lo hi; have := lcut lo' hi'; rw [List.length_append, List.length_singleton]; omega)
  have c5 : ∀ lo hi lo' hi' (z : One) l2 h2, fCatL (.d (.lst (cutL (xs.map One.D) lo hi ++ cutL (xs.map One.D) lo' hi' ++ [z.D]))) (.d (.lst (cutL (xs.map One.D) l2 h2))) (bS b3) = some (.d (.lst (cutL (xs.map One.D) lo hi ++ cutL (xs.map One.D) lo' hi' ++ [z.D] ++ cutL (xs.map One.D) l2 h2)), bS b3) := fun lo hi lo' hi' z l2 h2 => cat_ll (by have := lcut lo hi; have := lcut lo' hi'; have := lcut l2 h2; rw [List.length_append, List.length_append, List.length_singleton]; omega)
  have c6 : fCatL (.d (.lst (xs.map One.D))) (.d (.lst [y.D])) (bS b3) = some (.d (.lst (xs.map One.D ++ [y.D])), bS b3) := cat_ll (by rw [lm, List.length_singleton]; omega)
  have c7 : fCatL (.d (.lst [x.D])) (.d (.lst (xs.map One.D))) (bS b3) = some (.d (.lst ([x.D] ++ xs.map One.D)), bS b3) := cat_ll (by rw [lm, List.length_singleton]; omega)
  have cl : ∀ i j : Nat, (cutL (xs.map One.D) none (some (k : Int))).length = k := fun _ _ => by
    unfold cutL
    rw [HT.sIx_none, HT.sIx_nat, List.drop_zero, List.length_take, lm]
    omega
  have ck := cl 0 0
  have cr : ∀ i : Nat, (cutL (xs.map One.D) (some ((k + i : Nat) : Int)) none).length = xs.length - (k + i) := fun i => by
    unfold cutL
    rw [HT.sIx_nat, HT.sIx_none, List.length_take, List.length_drop, lm]
    omega
  have cr0 : (cutL (xs.map One.D) (some (k : Int)) none).length = xs.length - k := cr 0
  have cr1 : (cutL (xs.map One.D) (some ((k : Int) + 1)) none).length = xs.length - (k + 1) := cr 1
  have cr2 : (cutL (xs.map One.D) (some ((k : Int) + 2)) none).length = xs.length - (k + 2) := cr 2
  have cm : (cutL (xs.map One.D) (some ((k : Int) + 1)) (some ((k : Int) + 2))).length ≤ 1 := by
    have e1 : ((k : Int) + 1) = ((k + 1 : Nat) : Int) := rfl
    have e2 : ((k : Int) + 2) = ((k + 2 : Nat) : Int) := rfl
    unfold cutL
    rw [e1, e2, HT.sIx_nat, HT.sIx_nat, List.length_take, List.length_drop, lm]
    omega
  obtain ⟨q, hq⟩ := is_non y.mask
  have y0 : ∀ G, fIx (.d y.D) (.d (.int 0)) G = some (.d (maskD y.mask), G) := fun _ => rfl
  rcases v8 with rfl | rfl | rfl | rfl | rfl | rfl | rfl | rfl
  · refine fin (xs.map One.D) b3 (by rw [lm]; omega) hxs ?_
    simp -implicitDefEqProofs only [bind_ok, bind_er, bindN_ok, ofE_ok, ofE_er, seqO_nx, seqO_rt, seqO_er, seqO_bk, seqO_ct, loopO_nx, loopO_ct, loopO_bk, loopO_rt, loopO_er, lift_s, retO_rt, retO_nx, retO_er, mkO_ok, mkO_er, toOpt_ok, eVar_z, eVar_s, oL_z, oL_s, frz_z, frz_s, wipe_n, wipe_c, datas_n, datas_c, map_s, bind_s, setA_n, setA_c, p2_d, p1_d, pN_d, fEq_i, fEq_s, fEq_b, fEq_ii, fNe_i, fNe_s, fNe_b, fSub_i, fAdd_i, fAnd_i, fOr_i, fXor_i, fLt_i, fLe_i, fGt_i, fGe_i, fIs_d, fIsNot_d, fIsB_b, isB_b, tru_b, tru_i, tru_l, tru_t, orE_s, orE_n, alt2_e, alt1_e, altN_e, fIx_l, fIx_t, at_0, at_1, at_2, at_3, at_4, at_5, for_n, for_c, lc_n, len_lst, len_tup, kfn_c, kix_c, sSeq_e, sNil_e, sSet_e, sSet2_e, sRet_e, sRetN_e, sDrop_e, sIf_e, sBk_e, sCt_e, sFrz_e, sOwn_e, sFor_e, sUnp_e, eC_e, eOp_e, eUn_e, aNil_e, aCons_e, aApp_e, eFN_e, eCall_e, eMake_e, eCMeth_e, eCallO_e, eLst_e, eTup_e, nLst_e, nLc_e, eLc_e, lSeq_e, lTup_e, eIf_e, eAnd_e, eOr_e, eNot_e, bOf_e, bAnd_e, bOr_e, bNot_e, eFld_e, runB_e, env0_e, oN_e, List.set_cons_zero, List.set_cons_succ, List.map_cons, List.map_nil, List.cons_append, List.nil_append, List.replicate_succ, List.replicate_zero, List.length_cons, List.length_nil, List.getElem?_cons_zero, List.getElem?_cons_succ, reduceIte, if_true, if_false, Bool.false_eq_true, arN_t, decide_true, decide_false, isNon, Bool.not_true, Bool.not_false, Bool.true_and, Bool.false_and, Bool.and_true, Bool.and_false, bYes_e, lstMax_e, Nat.reduceAdd, Nat.reduceSub, Nat.reduceLeDiff, Int.reduceLT, Int.reduceLE, Int.reduceEq, String.reduceEq, and_self, decide_eq_true_eq, and_true, true_and, cPos_e, cDiv_e, fMod_i, fDiv_i, Int.reduceMod, Int.reduceDiv, Int.reduceSub, Int.reduceAdd, Int.reducePow, kOf_i, fsOf_i, fOwn_k, fOwn1_k, gFld_k, methO_e, methK_s, methA_s, ownK_s, ownK_n, ownK_m, own1K_s, own1K_n, fldK_s, sApp_e, appK_s, sOSub_e, osubK_s, eOIx_e, oixK_s, eOLen_e, olenK_s, ixN_p, Int.reduceToNat, Nat.reduceLT, oS_e, eSl_e, eSlT_e, kSet_e, kSet2_e, kDrop_e, kIf_t, kIf_f, kOwn_e, kApp_e, kOsub1_e, kOsub2_e, osK_s, kOix_e, ixK_s, kFor_e, kUnp_e, unpK_s, kOp1_e, kOp2_e, kUn_e, kC1_e, kC2_e, kA1_e, kA2_e, kFN_e, kCall_e, kMake_e, kCM_e, kMeth_e, kLst_e, lstK_s, kTup_e, tupK_s, kNl_e, nlK_s, nList_e, kNli_e, nliK_s, lOf_l, lOf_t, kNc1_e, kNc2_e, kLc1_e, kLc2_e, kSeq_e, kTpl_e, kEIf_t, kEIf_f, kEAnd_t, kEAnd_f, kEOr_t, kEOr_f, kENot_e, kB_e, kBAnd_t, kBAnd_f, kBOr_t, kBOr_f, kBNot_e, kOS_e, kSl1_e, kSl2_e, kSl3_e, kSt1_e, kSt2_e, kSt3_e, eMeth_e, kMe_e, lc_c, kL1_e, kL2_e, kT_t, kT_f, Int.cast_ofNat_Int, Int.natCast_zero, Int.natCast_one, lRng1_e, kRng_1, kRng_2, kRng_3, kRng_4, kRng_5, kRng_6, List.length_map, arS_0, sEr_e, sTryAs_e, tryK_nx, tryK_rt, tryK_er, afterO_rt, afterO_nx, eXf_e, xfS_s, xfK_s, plain_n, plain_e, List.all_cons, List.all_nil, eq_self, sTryN_e, tryN_nx, tryN_rt, tryN_h, tryN_t, dflI_e, dflF_e, not_false_eq_true, eMethK_e, kMK_e, kMK2_e, eProp_e, kPr_e, eNotO_e, kNotO_e, notK_s, g__law_near, m__law_near, e1, e2, e3, hd, l1, fls]
  · refine fin _ b3 ?_ (of_cat (of_cat (of_cat (hcut none (some (k : Int))) (hcut (some ((k : Int) + 1)) (some ((k : Int) + 2)))) hy) (hcut (some ((k : Int) + 2)) none)) ?_
    · simp only [List.length_append, List.length_singleton, ck, cr2]
      omega
    · simp -implicitDefEqProofs only [bind_ok, bind_er, bindN_ok, ofE_ok, ofE_er, seqO_nx, seqO_rt, seqO_er, seqO_bk, seqO_ct, loopO_nx, loopO_ct, loopO_bk, loopO_rt, loopO_er, lift_s, retO_rt, retO_nx, retO_er, mkO_ok, mkO_er, toOpt_ok, eVar_z, eVar_s, oL_z, oL_s, frz_z, frz_s, wipe_n, wipe_c, datas_n, datas_c, map_s, bind_s, setA_n, setA_c, p2_d, p1_d, pN_d, fEq_i, fEq_s, fEq_b, fEq_ii, fNe_i, fNe_s, fNe_b, fSub_i, fAdd_i, fAnd_i, fOr_i, fXor_i, fLt_i, fLe_i, fGt_i, fGe_i, fIs_d, fIsNot_d, fIsB_b, isB_b, tru_b, tru_i, tru_l, tru_t, orE_s, orE_n, alt2_e, alt1_e, altN_e, fIx_l, fIx_t, at_0, at_1, at_2, at_3, at_4, at_5, for_n, for_c, lc_n, len_lst, len_tup, kfn_c, kix_c, sSeq_e, sNil_e, sSet_e, sSet2_e, sRet_e, sRetN_e, sDrop_e, sIf_e, sBk_e, sCt_e, sFrz_e, sOwn_e, sFor_e, sUnp_e, eC_e, eOp_e, eUn_e, aNil_e, aCons_e, aApp_e, eFN_e, eCall_e, eMake_e, eCMeth_e, eCallO_e, eLst_e, eTup_e, nLst_e, nLc_e, eLc_e, lSeq_e, lTup_e, eIf_e, eAnd_e, eOr_e, eNot_e, bOf_e, bAnd_e, bOr_e, bNot_e, eFld_e, runB_e, env0_e, oN_e, List.set_cons_zero, List.set_cons_succ, List.map_cons, List.map_nil, List.cons_append, List.nil_append, List.replicate_succ, List.replicate_zero, List.length_cons, List.length_nil, List.getElem?_cons_zero, List.getElem?_cons_succ, reduceIte, if_true, if_false, Bool.false_eq_true, arN_t, decide_true, decide_false, isNon, Bool.not_true, Bool.not_false, Bool.true_and, Bool.false_and, Bool.and_true, Bool.and_false, bYes_e, lstMax_e, Nat.reduceAdd, Nat.reduceSub, Nat.reduceLeDiff, Int.reduceLT, Int.reduceLE, Int.reduceEq, String.reduceEq, and_self, decide_eq_true_eq, and_true, true_and, cPos_e, cDiv_e, fMod_i, fDiv_i, Int.reduceMod, Int.reduceDiv, Int.reduceSub, Int.reduceAdd, Int.reducePow, kOf_i, fsOf_i, fOwn_k, fOwn1_k, gFld_k, methO_e, methK_s, methA_s, ownK_s, ownK_n, ownK_m, own1K_s, own1K_n, fldK_s, sApp_e, appK_s, sOSub_e, osubK_s, eOIx_e, oixK_s, eOLen_e, olenK_s, ixN_p, Int.reduceToNat, Nat.reduceLT, oS_e, eSl_e, eSlT_e, kSet_e, kSet2_e, kDrop_e, kIf_t, kIf_f, kOwn_e, kApp_e, kOsub1_e, kOsub2_e, osK_s, kOix_e, ixK_s, kFor_e, kUnp_e, unpK_s, kOp1_e, kOp2_e, kUn_e, kC1_e, kC2_e, kA1_e, kA2_e, kFN_e, kCall_e, kMake_e, kCM_e, kMeth_e, kLst_e, lstK_s, kTup_e, tupK_s, kNl_e, nlK_s, nList_e, kNli_e, nliK_s, lOf_l, lOf_t, kNc1_e, kNc2_e, kLc1_e, kLc2_e, kSeq_e, kTpl_e, kEIf_t, kEIf_f, kEAnd_t, kEAnd_f, kEOr_t, kEOr_f, kENot_e, kB_e, kBAnd_t, kBAnd_f, kBOr_t, kBOr_f, kBNot_e, kOS_e, kSl1_e, kSl2_e, kSl3_e, kSt1_e, kSt2_e, kSt3_e, eMeth_e, kMe_e, lc_c, kL1_e, kL2_e, kT_t, kT_f, Int.cast_ofNat_Int, Int.natCast_zero, Int.natCast_one, lRng1_e, kRng_1, kRng_2, kRng_3, kRng_4, kRng_5, kRng_6, List.length_map, arS_0, sEr_e, sTryAs_e, tryK_nx, tryK_rt, tryK_er, afterO_rt, afterO_nx, eXf_e, xfS_s, xfK_s, plain_n, plain_e, List.all_cons, List.all_nil, eq_self, sTryN_e, tryN_nx, tryN_rt, tryN_h, tryN_t, dflI_e, dflF_e, not_false_eq_true, eMethK_e, kMK_e, kMK2_e, eProp_e, kPr_e, eNotO_e, kNotO_e, notK_s, g__law_near, m__law_near, e1, e2, e3, hd, l1, a, al, c2, c4, c5]
  · refine fin _ b3 ?_ (of_cat (hcut none (some (k : Int))) (hcut (some ((k : Int) + 1)) none)) ?_
    · simp only [List.length_append, ck, cr1]
      omega
    · simp -implicitDefEqProofs only [bind_ok, bind_er, bindN_ok, ofE_ok, ofE_er, seqO_nx, seqO_rt, seqO_er, seqO_bk, seqO_ct, loopO_nx, loopO_ct, loopO_bk, loopO_rt, loopO_er, lift_s, retO_rt, retO_nx, retO_er, mkO_ok, mkO_er, toOpt_ok, eVar_z, eVar_s, oL_z, oL_s, frz_z, frz_s, wipe_n, wipe_c, datas_n, datas_c, map_s, bind_s, setA_n, setA_c, p2_d, p1_d, pN_d, fEq_i, fEq_s, fEq_b, fEq_ii, fNe_i, fNe_s, fNe_b, fSub_i, fAdd_i, fAnd_i, fOr_i, fXor_i, fLt_i, fLe_i, fGt_i, fGe_i, fIs_d, fIsNot_d, fIsB_b, isB_b, tru_b, tru_i, tru_l, tru_t, orE_s, orE_n, alt2_e, alt1_e, altN_e, fIx_l, fIx_t, at_0, at_1, at_2, at_3, at_4, at_5, for_n, for_c, lc_n, len_lst, len_tup, kfn_c, kix_c, sSeq_e, sNil_e, sSet_e, sSet2_e, sRet_e, sRetN_e, sDrop_e, sIf_e, sBk_e, sCt_e, sFrz_e, sOwn_e, sFor_e, sUnp_e, eC_e, eOp_e, eUn_e, aNil_e, aCons_e, aApp_e, eFN_e, eCall_e, eMake_e, eCMeth_e, eCallO_e, eLst_e, eTup_e, nLst_e, nLc_e, eLc_e, lSeq_e, lTup_e, eIf_e, eAnd_e, eOr_e, eNot_e, bOf_e, bAnd_e, bOr_e, bNot_e, eFld_e, runB_e, env0_e, oN_e, List.set_cons_zero, List.set_cons_succ, List.map_cons, List.map_nil, List.cons_append, List.nil_append, List.replicate_succ, List.replicate_zero, List.length_cons, List.length_nil, List.getElem?_cons_zero, List.getElem?_cons_succ, reduceIte, if_true, if_false, Bool.false_eq_true, arN_t, decide_true, decide_false, isNon, Bool.not_true, Bool.not_false, Bool.true_and, Bool.false_and, Bool.and_true, Bool.and_false, bYes_e, lstMax_e, Nat.reduceAdd, Nat.reduceSub, Nat.reduceLeDiff, Int.reduceLT, Int.reduceLE, Int.reduceEq, String.reduceEq, and_self, decide_eq_true_eq, and_true, true_and, cPos_e, cDiv_e, fMod_i, fDiv_i, Int.reduceMod, Int.reduceDiv, Int.reduceSub, Int.reduceAdd, Int.reducePow, kOf_i, fsOf_i, fOwn_k, fOwn1_k, gFld_k, methO_e, methK_s, methA_s, ownK_s, ownK_n, ownK_m, own1K_s, own1K_n, fldK_s, sApp_e, appK_s, sOSub_e, osubK_s, eOIx_e, oixK_s, eOLen_e, olenK_s, ixN_p, Int.reduceToNat, Nat.reduceLT, oS_e, eSl_e, eSlT_e, kSet_e, kSet2_e, kDrop_e, kIf_t, kIf_f, kOwn_e, kApp_e, kOsub1_e, kOsub2_e, osK_s, kOix_e, ixK_s, kFor_e, kUnp_e, unpK_s, kOp1_e, kOp2_e, kUn_e, kC1_e, kC2_e, kA1_e, kA2_e, kFN_e, kCall_e, kMake_e, kCM_e, kMeth_e, kLst_e, lstK_s, kTup_e, tupK_s, kNl_e, nlK_s, nList_e, kNli_e, nliK_s, lOf_l, lOf_t, kNc1_e, kNc2_e, kLc1_e, kLc2_e, kSeq_e, kTpl_e, kEIf_t, kEIf_f, kEAnd_t, kEAnd_f, kEOr_t, kEOr_f, kENot_e, kB_e, kBAnd_t, kBAnd_f, kBOr_t, kBOr_f, kBNot_e, kOS_e, kSl1_e, kSl2_e, kSl3_e, kSt1_e, kSt2_e, kSt3_e, eMeth_e, kMe_e, lc_c, kL1_e, kL2_e, kT_t, kT_f, Int.cast_ofNat_Int, Int.natCast_zero, Int.natCast_one, lRng1_e, kRng_1, kRng_2, kRng_3, kRng_4, kRng_5, kRng_6, List.length_map, arS_0, sEr_e, sTryAs_e, tryK_nx, tryK_rt, tryK_er, afterO_rt, afterO_nx, eXf_e, xfS_s, xfK_s, plain_n, plain_e, List.all_cons, List.all_nil, eq_self, sTryN_e, tryN_nx, tryN_rt, tryN_h, tryN_t, dflI_e, dflF_e, not_false_eq_true, eMethK_e, kMK_e, kMK2_e, eProp_e, kPr_e, eNotO_e, kNotO_e, notK_s, g__law_near, m__law_near, e1, e2, e3, hd, l1, a, al, c2]
  · refine fin _ b3 ?_ (of_cat hxs hy) ?_
    · simp only [List.length_append, List.length_singleton, lm]
      omega
    · simp -implicitDefEqProofs only [bind_ok, bind_er, bindN_ok, ofE_ok, ofE_er, seqO_nx, seqO_rt, seqO_er, seqO_bk, seqO_ct, loopO_nx, loopO_ct, loopO_bk, loopO_rt, loopO_er, lift_s, retO_rt, retO_nx, retO_er, mkO_ok, mkO_er, toOpt_ok, eVar_z, eVar_s, oL_z, oL_s, frz_z, frz_s, wipe_n, wipe_c, datas_n, datas_c, map_s, bind_s, setA_n, setA_c, p2_d, p1_d, pN_d, fEq_i, fEq_s, fEq_b, fEq_ii, fNe_i, fNe_s, fNe_b, fSub_i, fAdd_i, fAnd_i, fOr_i, fXor_i, fLt_i, fLe_i, fGt_i, fGe_i, fIs_d, fIsNot_d, fIsB_b, isB_b, tru_b, tru_i, tru_l, tru_t, orE_s, orE_n, alt2_e, alt1_e, altN_e, fIx_l, fIx_t, at_0, at_1, at_2, at_3, at_4, at_5, for_n, for_c, lc_n, len_lst, len_tup, kfn_c, kix_c, sSeq_e, sNil_e, sSet_e, sSet2_e, sRet_e, sRetN_e, sDrop_e, sIf_e, sBk_e, sCt_e, sFrz_e, sOwn_e, sFor_e, sUnp_e, eC_e, eOp_e, eUn_e, aNil_e, aCons_e, aApp_e, eFN_e, eCall_e, eMake_e, eCMeth_e, eCallO_e, eLst_e, eTup_e, nLst_e, nLc_e, eLc_e, lSeq_e, lTup_e, eIf_e, eAnd_e, eOr_e, eNot_e, bOf_e, bAnd_e, bOr_e, bNot_e, eFld_e, runB_e, env0_e, oN_e, List.set_cons_zero, List.set_cons_succ, List.map_cons, List.map_nil, List.cons_append, List.nil_append, List.replicate_succ, List.replicate_zero, List.length_cons, List.length_nil, List.getElem?_cons_zero, List.getElem?_cons_succ, reduceIte, if_true, if_false, Bool.false_eq_true, arN_t, decide_true, decide_false, isNon, Bool.not_true, Bool.not_false, Bool.true_and, Bool.false_and, Bool.and_true, Bool.and_false, bYes_e, lstMax_e, Nat.reduceAdd, Nat.reduceSub, Nat.reduceLeDiff, Int.reduceLT, Int.reduceLE, Int.reduceEq, String.reduceEq, and_self, decide_eq_true_eq, and_true, true_and, cPos_e, cDiv_e, fMod_i, fDiv_i, Int.reduceMod, Int.reduceDiv, Int.reduceSub, Int.reduceAdd, Int.reducePow, kOf_i, fsOf_i, fOwn_k, fOwn1_k, gFld_k, methO_e, methK_s, methA_s, ownK_s, ownK_n, ownK_m, own1K_s, own1K_n, fldK_s, sApp_e, appK_s, sOSub_e, osubK_s, eOIx_e, oixK_s, eOLen_e, olenK_s, ixN_p, Int.reduceToNat, Nat.reduceLT, oS_e, eSl_e, eSlT_e, kSet_e, kSet2_e, kDrop_e, kIf_t, kIf_f, kOwn_e, kApp_e, kOsub1_e, kOsub2_e, osK_s, kOix_e, ixK_s, kFor_e, kUnp_e, unpK_s, kOp1_e, kOp2_e, kUn_e, kC1_e, kC2_e, kA1_e, kA2_e, kFN_e, kCall_e, kMake_e, kCM_e, kMeth_e, kLst_e, lstK_s, kTup_e, tupK_s, kNl_e, nlK_s, nList_e, kNli_e, nliK_s, lOf_l, lOf_t, kNc1_e, kNc2_e, kLc1_e, kLc2_e, kSeq_e, kTpl_e, kEIf_t, kEIf_f, kEAnd_t, kEAnd_f, kEOr_t, kEOr_f, kENot_e, kB_e, kBAnd_t, kBAnd_f, kBOr_t, kBOr_f, kBNot_e, kOS_e, kSl1_e, kSl2_e, kSl3_e, kSt1_e, kSt2_e, kSt3_e, eMeth_e, kMe_e, lc_c, kL1_e, kL2_e, kT_t, kT_f, Int.cast_ofNat_Int, Int.natCast_zero, Int.natCast_one, lRng1_e, kRng_1, kRng_2, kRng_3, kRng_4, kRng_5, kRng_6, List.length_map, arS_0, sEr_e, sTryAs_e, tryK_nx, tryK_rt, tryK_er, afterO_rt, afterO_nx, eXf_e, xfS_s, xfK_s, plain_n, plain_e, List.all_cons, List.all_nil, eq_self, sTryN_e, tryN_nx, tryN_rt, tryN_h, tryN_t, dflI_e, dflF_e, not_false_eq_true, eMethK_e, kMK_e, kMK2_e, eProp_e, kPr_e, eNotO_e, kNotO_e, notK_s, g__law_near, m__law_near, e1, e2, e3, hd, l1, a, al, c6]
  · refine fin _ b3 ?_ (of_cat (of_cat (hcut none (some (k : Int))) hx) (hcut (some ((k : Int) + 1)) none)) ?_
    · simp only [List.length_append, List.length_singleton, ck, cr1]
      omega
    · simp -implicitDefEqProofs only [bind_ok, bind_er, bindN_ok, ofE_ok, ofE_er, seqO_nx, seqO_rt, seqO_er, seqO_bk, seqO_ct, loopO_nx, loopO_ct, loopO_bk, loopO_rt, loopO_er, lift_s, retO_rt, retO_nx, retO_er, mkO_ok, mkO_er, toOpt_ok, eVar_z, eVar_s, oL_z, oL_s, frz_z, frz_s, wipe_n, wipe_c, datas_n, datas_c, map_s, bind_s, setA_n, setA_c, p2_d, p1_d, pN_d, fEq_i, fEq_s, fEq_b, fEq_ii, fNe_i, fNe_s, fNe_b, fSub_i, fAdd_i, fAnd_i, fOr_i, fXor_i, fLt_i, fLe_i, fGt_i, fGe_i, fIs_d, fIsNot_d, fIsB_b, isB_b, tru_b, tru_i, tru_l, tru_t, orE_s, orE_n, alt2_e, alt1_e, altN_e, fIx_l, fIx_t, at_0, at_1, at_2, at_3, at_4, at_5, for_n, for_c, lc_n, len_lst, len_tup, kfn_c, kix_c, sSeq_e, sNil_e, sSet_e, sSet2_e, sRet_e, sRetN_e, sDrop_e, sIf_e, sBk_e, sCt_e, sFrz_e, sOwn_e, sFor_e, sUnp_e, eC_e, eOp_e, eUn_e, aNil_e, aCons_e, aApp_e, eFN_e, eCall_e, eMake_e, eCMeth_e, eCallO_e, eLst_e, eTup_e, nLst_e, nLc_e, eLc_e, lSeq_e, lTup_e, eIf_e, eAnd_e, eOr_e, eNot_e, bOf_e, bAnd_e, bOr_e, bNot_e, eFld_e, runB_e, env0_e, oN_e, List.set_cons_zero, List.set_cons_succ, List.map_cons, List.map_nil, List.cons_append, List.nil_append, List.replicate_succ, List.replicate_zero, List.length_cons, List.length_nil, List.getElem?_cons_zero, List.getElem?_cons_succ, reduceIte, if_true, if_false, Bool.false_eq_true, arN_t, decide_true, decide_false, isNon, Bool.not_true, Bool.not_false, Bool.true_and, Bool.false_and, Bool.and_true, Bool.and_false, bYes_e, lstMax_e, Nat.reduceAdd, Nat.reduceSub, Nat.reduceLeDiff, Int.reduceLT, Int.reduceLE, Int.reduceEq, String.reduceEq, and_self, decide_eq_true_eq, and_true, true_and, cPos_e, cDiv_e, fMod_i, fDiv_i, Int.reduceMod, Int.reduceDiv, Int.reduceSub, Int.reduceAdd, Int.reducePow, kOf_i, fsOf_i, fOwn_k, fOwn1_k, gFld_k, methO_e, methK_s, methA_s, ownK_s, ownK_n, ownK_m, own1K_s, own1K_n, fldK_s, sApp_e, appK_s, sOSub_e, osubK_s, eOIx_e, oixK_s, eOLen_e, olenK_s, ixN_p, Int.reduceToNat, Nat.reduceLT, oS_e, eSl_e, eSlT_e, kSet_e, kSet2_e, kDrop_e, kIf_t, kIf_f, kOwn_e, kApp_e, kOsub1_e, kOsub2_e, osK_s, kOix_e, ixK_s, kFor_e, kUnp_e, unpK_s, kOp1_e, kOp2_e, kUn_e, kC1_e, kC2_e, kA1_e, kA2_e, kFN_e, kCall_e, kMake_e, kCM_e, kMeth_e, kLst_e, lstK_s, kTup_e, tupK_s, kNl_e, nlK_s, nList_e, kNli_e, nliK_s, lOf_l, lOf_t, kNc1_e, kNc2_e, kLc1_e, kLc2_e, kSeq_e, kTpl_e, kEIf_t, kEIf_f, kEAnd_t, kEAnd_f, kEOr_t, kEOr_f, kENot_e, kB_e, kBAnd_t, kBAnd_f, kBOr_t, kBOr_f, kBNot_e, kOS_e, kSl1_e, kSl2_e, kSl3_e, kSt1_e, kSt2_e, kSt3_e, eMeth_e, kMe_e, lc_c, kL1_e, kL2_e, kT_t, kT_f, Int.cast_ofNat_Int, Int.natCast_zero, Int.natCast_one, lRng1_e, kRng_1, kRng_2, kRng_3, kRng_4, kRng_5, kRng_6, List.length_map, arS_0, sEr_e, sTryAs_e, tryK_nx, tryK_rt, tryK_er, afterO_rt, afterO_nx, eXf_e, xfS_s, xfK_s, plain_n, plain_e, List.all_cons, List.all_nil, eq_self, sTryN_e, tryN_nx, tryN_rt, tryN_h, tryN_t, dflI_e, dflF_e, not_false_eq_true, eMethK_e, kMK_e, kMK2_e, eProp_e, kPr_e, eNotO_e, kNotO_e, notK_s, g__law_near, m__law_near, e1, e2, e3, hd, l1, a, al, c1, c3]
  · refine fin _ b3 ?_ (of_cat hx hxs) ?_
    · simp only [List.length_append, List.length_singleton, lm]
      omega
    · simp -implicitDefEqProofs only [bind_ok, bind_er, bindN_ok, ofE_ok, ofE_er, seqO_nx, seqO_rt, seqO_er, seqO_bk, seqO_ct, loopO_nx, loopO_ct, loopO_bk, loopO_rt, loopO_er, lift_s, retO_rt, retO_nx, retO_er, mkO_ok, mkO_er, toOpt_ok, eVar_z, eVar_s, oL_z, oL_s, frz_z, frz_s, wipe_n, wipe_c, datas_n, datas_c, map_s, bind_s, setA_n, setA_c, p2_d, p1_d, pN_d, fEq_i, fEq_s, fEq_b, fEq_ii, fNe_i, fNe_s, fNe_b, fSub_i, fAdd_i, fAnd_i, fOr_i, fXor_i, fLt_i, fLe_i, fGt_i, fGe_i, fIs_d, fIsNot_d, fIsB_b, isB_b, tru_b, tru_i, tru_l, tru_t, orE_s, orE_n, alt2_e, alt1_e, altN_e, fIx_l, fIx_t, at_0, at_1, at_2, at_3, at_4, at_5, for_n, for_c, lc_n, len_lst, len_tup, kfn_c, kix_c, sSeq_e, sNil_e, sSet_e, sSet2_e, sRet_e, sRetN_e, sDrop_e, sIf_e, sBk_e, sCt_e, sFrz_e, sOwn_e, sFor_e, sUnp_e, eC_e, eOp_e, eUn_e, aNil_e, aCons_e, aApp_e, eFN_e, eCall_e, eMake_e, eCMeth_e, eCallO_e, eLst_e, eTup_e, nLst_e, nLc_e, eLc_e, lSeq_e, lTup_e, eIf_e, eAnd_e, eOr_e, eNot_e, bOf_e, bAnd_e, bOr_e, bNot_e, eFld_e, runB_e, env0_e, oN_e, List.set_cons_zero, List.set_cons_succ, List.map_cons, List.map_nil, List.cons_append, List.nil_append, List.replicate_succ, List.replicate_zero, List.length_cons, List.length_nil, List.getElem?_cons_zero, List.getElem?_cons_succ, reduceIte, if_true, if_false, Bool.false_eq_true, arN_t, decide_true, decide_false, isNon, Bool.not_true, Bool.not_false, Bool.true_and, Bool.false_and, Bool.and_true, Bool.and_false, bYes_e, lstMax_e, Nat.reduceAdd, Nat.reduceSub, Nat.reduceLeDiff, Int.reduceLT, Int.reduceLE, Int.reduceEq, String.reduceEq, and_self, decide_eq_true_eq, and_true, true_and, cPos_e, cDiv_e, fMod_i, fDiv_i, Int.reduceMod, Int.reduceDiv, Int.reduceSub, Int.reduceAdd, Int.reducePow, kOf_i, fsOf_i, fOwn_k, fOwn1_k, gFld_k, methO_e, methK_s, methA_s, ownK_s, ownK_n, ownK_m, own1K_s, own1K_n, fldK_s, sApp_e, appK_s, sOSub_e, osubK_s, eOIx_e, oixK_s, eOLen_e, olenK_s, ixN_p, Int.reduceToNat, Nat.reduceLT, oS_e, eSl_e, eSlT_e, kSet_e, kSet2_e, kDrop_e, kIf_t, kIf_f, kOwn_e, kApp_e, kOsub1_e, kOsub2_e, osK_s, kOix_e, ixK_s, kFor_e, kUnp_e, unpK_s, kOp1_e, kOp2_e, kUn_e, kC1_e, kC2_e, kA1_e, kA2_e, kFN_e, kCall_e, kMake_e, kCM_e, kMeth_e, kLst_e, lstK_s, kTup_e, tupK_s, kNl_e, nlK_s, nList_e, kNli_e, nliK_s, lOf_l, lOf_t, kNc1_e, kNc2_e, kLc1_e, kLc2_e, kSeq_e, kTpl_e, kEIf_t, kEIf_f, kEAnd_t, kEAnd_f, kEOr_t, kEOr_f, kENot_e, kB_e, kBAnd_t, kBAnd_f, kBOr_t, kBOr_f, kBNot_e, kOS_e, kSl1_e, kSl2_e, kSl3_e, kSt1_e, kSt2_e, kSt3_e, eMeth_e, kMe_e, lc_c, kL1_e, kL2_e, kT_t, kT_f, Int.cast_ofNat_Int, Int.natCast_zero, Int.natCast_one, lRng1_e, kRng_1, kRng_2, kRng_3, kRng_4, kRng_5, kRng_6, List.length_map, arS_0, sEr_e, sTryAs_e, tryK_nx, tryK_rt, tryK_er, afterO_rt, afterO_nx, eXf_e, xfS_s, xfK_s, plain_n, plain_e, List.all_cons, List.all_nil, eq_self, sTryN_e, tryN_nx, tryN_rt, tryN_h, tryN_t, dflI_e, dflF_e, not_false_eq_true, eMethK_e, kMK_e, kMK2_e, eProp_e, kPr_e, eNotO_e, kNotO_e, notK_s, g__law_near, m__law_near, e1, e2, e3, hd, l1, a, al, ↓c7]
  · exact absurd rfl h6
  · refine fin _ b3 ?_ (of_cat (of_cat (hcut none (some (k : Int))) hy) (hcut (some (k : Int)) none)) ?_
    · simp only [List.length_append, List.length_singleton, ck, cr0]
      omega
    · cases q <;> simp -implicitDefEqProofs only [bind_ok, bind_er, bindN_ok, ofE_ok, ofE_er, seqO_nx, seqO_rt, seqO_er, seqO_bk, seqO_ct, loopO_nx, loopO_ct, loopO_bk, loopO_rt, loopO_er, lift_s, retO_rt, retO_nx, retO_er, mkO_ok, mkO_er, toOpt_ok, eVar_z, eVar_s, oL_z, oL_s, frz_z, frz_s, wipe_n, wipe_c, datas_n, datas_c, map_s, bind_s, setA_n, setA_c, p2_d, p1_d, pN_d, fEq_i, fEq_s, fEq_b, fEq_ii, fNe_i, fNe_s, fNe_b, fSub_i, fAdd_i, fAnd_i, fOr_i, fXor_i, fLt_i, fLe_i, fGt_i, fGe_i, fIs_d, fIsNot_d, fIsB_b, isB_b, tru_b, tru_i, tru_l, tru_t, orE_s, orE_n, alt2_e, alt1_e, altN_e, fIx_l, fIx_t, at_0, at_1, at_2, at_3, at_4, at_5, for_n, for_c, lc_n, len_lst, len_tup, kfn_c, kix_c, sSeq_e, sNil_e, sSet_e, sSet2_e, sRet_e, sRetN_e, sDrop_e, sIf_e, sBk_e, sCt_e, sFrz_e, sOwn_e, sFor_e, sUnp_e, eC_e, eOp_e, eUn_e, aNil_e, aCons_e, aApp_e, eFN_e, eCall_e, eMake_e, eCMeth_e, eCallO_e, eLst_e, eTup_e, nLst_e, nLc_e, eLc_e, lSeq_e, lTup_e, eIf_e, eAnd_e, eOr_e, eNot_e, bOf_e, bAnd_e, bOr_e, bNot_e, eFld_e, runB_e, env0_e, oN_e, List.set_cons_zero, List.set_cons_succ, List.map_cons, List.map_nil, List.cons_append, List.nil_append, List.replicate_succ, List.replicate_zero, List.length_cons, List.length_nil, List.getElem?_cons_zero, List.getElem?_cons_succ, reduceIte, if_true, if_false, Bool.false_eq_true, arN_t, decide_true, decide_false, isNon, Bool.not_true, Bool.not_false, Bool.true_and, Bool.false_and, Bool.and_true, Bool.and_false, bYes_e, lstMax_e, Nat.reduceAdd, Nat.reduceSub, Nat.reduceLeDiff, Int.reduceLT, Int.reduceLE, Int.reduceEq, String.reduceEq, and_self, decide_eq_true_eq, and_true, true_and, cPos_e, cDiv_e, fMod_i, fDiv_i, Int.reduceMod, Int.reduceDiv, Int.reduceSub, Int.reduceAdd, Int.reducePow, kOf_i, fsOf_i, fOwn_k, fOwn1_k, gFld_k, methO_e, methK_s, methA_s, ownK_s, ownK_n, ownK_m, own1K_s, own1K_n, fldK_s, sApp_e, appK_s, sOSub_e, osubK_s, eOIx_e, oixK_s, eOLen_e, olenK_s, ixN_p, Int.reduceToNat, Nat.reduceLT, oS_e, eSl_e, eSlT_e, kSet_e, kSet2_e, kDrop_e, kIf_t, kIf_f, kOwn_e, kApp_e, kOsub1_e, kOsub2_e, osK_s, kOix_e, ixK_s, kFor_e, kUnp_e, unpK_s, kOp1_e, kOp2_e, kUn_e, kC1_e, kC2_e, kA1_e, kA2_e, kFN_e, kCall_e, kMake_e, kCM_e, kMeth_e, kLst_e, lstK_s, kTup_e, tupK_s, kNl_e, nlK_s, nList_e, kNli_e, nliK_s, lOf_l, lOf_t, kNc1_e, kNc2_e, kLc1_e, kLc2_e, kSeq_e, kTpl_e, kEIf_t, kEIf_f, kEAnd_t, kEAnd_f, kEOr_t, kEOr_f, kENot_e, kB_e, kBAnd_t, kBAnd_f, kBOr_t, kBOr_f, kBNot_e, kOS_e, kSl1_e, kSl2_e, kSl3_e, kSt1_e, kSt2_e, kSt3_e, eMeth_e, kMe_e, lc_c, kL1_e, kL2_e, kT_t, kT_f, Int.cast_ofNat_Int, Int.natCast_zero, Int.natCast_one, lRng1_e, kRng_1, kRng_2, kRng_3, kRng_4, kRng_5, kRng_6, List.length_map, arS_0, sEr_e, sTryAs_e, tryK_nx, tryK_rt, tryK_er, afterO_rt, afterO_nx, eXf_e, xfS_s, xfK_s, plain_n, plain_e, List.all_cons, List.all_nil, eq_self, sTryN_e, tryN_nx, tryN_rt, tryN_h, tryN_t, dflI_e, dflF_e, not_false_eq_true, eMethK_e, kMK_e, kMK2_e, eProp_e, kPr_e, eNotO_e, kNotO_e, notK_s, g__law_near, m__law_near, e1, e2, e3, hd, l1, a, al, c1, c3, y0, hq]
end K07

set_option Elab.async false
set_option linter.all false
set_option maxRecDepth 100000
set_option maxHeartbeats 4000000
namespace K07
open PySem DL
/-! ### films as sums; what is taken away and what is added lie apart -/
structure FN.Dj (f : FN) : Prop where
  z : f.o &&& f.n = 0
  z2 : f.o2 &&& f.n2 = 0
theorem dj_bits {o n p q : Nat} (hz : o &&& n = 0) (hz' : p &&& q = 0) (hp : p < 64) (hq : q < 64) : ((o &&& (63 - q)) ||| p) &&& ((n &&& (63 - p)) ||| q) = 0 := by
  have z : ∀ i, (o.testBit i && n.testBit i) = false := fun i => by rw [← Nat.testBit_and, hz]; exact Nat.zero_testBit i
  have z' : ∀ i, (p.testBit i && q.testBit i) = false := fun i => by rw [← Nat.testBit_and, hz']; exact Nat.zero_testBit i
  refine Nat.eq_of_testBit_eq fun i => ?_
  simp only [Nat.testBit_or, Nat.testBit_and, tb_cp hp, tb_cp hq, Nat.zero_testBit]
  have a := z i
  have b := z' i
  revert a b
  cases decide (i < 6) <;> cases o.testBit i <;> cases n.testBit i <;> cases p.testBit i <;> cases q.testBit i <;> simp
theorem FN.Dj.add {f g : FN} (hg : g.Ok) (df : f.Dj) (dg : g.Dj) : (f.add g).Dj := by
  obtain ⟨fo, fn, fm, fo2, fn2⟩ := f
  obtain ⟨z, z2⟩ := df
  obtain ⟨y, y2⟩ := dg
  cases fm
  · exact ⟨dj_bits z y hg.o hg.n, dj_bits z2 y2 hg.o2 hg.n2⟩
  · exact ⟨dj_bits z y2 hg.o2 hg.n2, dj_bits z2 y2 hg.o2 hg.n2⟩
theorem dj_ink {k off on : Nat} (hz : off &&& on = 0) : (inkF k off on).Dj := by
  have h : ∀ w, efO k w off &&& efN k w on = 0 := fun w => by
    unfold efO efN
    split
    · exact hz
    · rfl
  exact ⟨h false, h true⟩
theorem dj_zero : FN.zero.Dj := ⟨rfl, rfl⟩
def foldF (xs : List One) : FN := xs.foldl (fun f x => f.add x.f) FN.zero
theorem fold_ok : ∀ (xs : List One) (f : FN), f.Ok → (∀ x ∈ xs, x.Ok) → (xs.foldl (fun f x => f.add x.f) f).Ok
  | [], f, hf, _ => hf
  | x :: xs, f, hf, h => fold_ok xs (f.add x.f) (hf.add (h x (List.mem_cons_self ..)).f) fun y hy => h y (List.mem_cons_of_mem _ hy)
theorem zero_ok : FN.zero.Ok := ⟨by decide, by decide, by decide, by decide⟩
theorem fold_dj : ∀ (xs : List One) (f : FN), f.Dj → (∀ x ∈ xs, x.Ok) → (xs.foldl (fun f x => f.add x.f) f).Dj
  | [], f, hf, _ => hf
  | x :: xs, f, hf, h => fold_dj xs (f.add x.f) (hf.add (h x (List.mem_cons_self ..)).f (dj_ink (h x (List.mem_cons_self ..)).hz)) fun y hy => h y (List.mem_cons_of_mem _ hy)
theorem act_all {x : One} (h : x.mask = none) (lit : List Str) : x.act lit = true := by unfold One.act; rw [h]
theorem fold_app (lit : List Str) : ∀ (xs : List One) (f : FN) {c : Nat} {w : Bool}, f.Ok → (∀ x ∈ xs, x.Ok) → (∀ x ∈ xs, x.mask = none) → c < 64 → (xs.foldl (fun f x => f.add x.f) f).app c w = run lit xs (f.app c w)
  | [], f, c, w, hf, _, _, hc => rfl
  | x :: xs, f, c, w, hf, h, hm, hc => by
    have h0 := h x (List.mem_cons_self ..)
    rw [List.foldl_cons, fold_app lit xs (f.add x.f) (hf.add h0.f) (fun y hy => h y (List.mem_cons_of_mem _ hy)) (fun y hy => hm y (List.mem_cons_of_mem _ hy)) hc, FN.app_add hf h0.f hc]
    show _ = run lit xs (x.app lit (f.app c w))
    unfold One.app
    rw [act_all (hm x (List.mem_cons_self ..)), if_pos rfl]
theorem zero_app {c : Nat} {w : Bool} (hc : c < 64) : FN.zero.app c w = (c, w) := by
  have : c &&& 63 = c := and63 c hc
  cases w <;> simp [FN.app, FN.zero, this]
/-! ### the states of a film, told by what it takes and adds -/
def sD (f : FN) : DL.D := .lst [.tup [.int (f.n : Nat), .bl f.m], .tup [.int (63 - f.o : Nat), .bl f.m], .tup [.int (f.n2 : Nat), .bl true], .tup [.int (63 - f.o2 : Nat), .bl true]]
theorem a0 : ∀ o, o < 64 → ∀ n, n < 64 → (0 &&& (63 - o)) ||| n = n := fun o _ n _ => by rw [Nat.zero_and, Nat.zero_or]
theorem a63 : ∀ o, o < 64 → ∀ n, n < 64 → o &&& n = 0 → (63 &&& (63 - o)) ||| n = 63 - o := by decide +kernel
theorem sts_sD {f : FN} (h : f.Ok) (d : f.Dj) : sts f.app = sD f := by
  have e0 : ∀ w, f.app 0 w = if w = true then (f.n2, true) else (f.n, f.m) := fun w => by
    unfold FN.app
    cases w
    · exact congrArg (·, f.m) (a0 f.o h.o f.n h.n)
    · exact congrArg (·, true) (a0 f.o2 h.o2 f.n2 h.n2)
  have e1 : ∀ w, f.app 63 w = if w = true then (63 - f.o2, true) else (63 - f.o, f.m) := fun w => by
    unfold FN.app
    cases w
    · exact congrArg (·, f.m) (a63 f.o h.o f.n h.n d.z)
    · exact congrArg (·, true) (a63 f.o2 h.o2 f.n2 h.n2 d.z2)
  unfold sts sD
  rw [e0, e0, e1, e1]
  rfl
theorem film_x (xs : List One) (h : ∀ x ∈ xs, x.Ok) (hm : ∀ x ∈ xs, x.mask = none) (G : GS) : g__law_film [.d (.lst (xs.map One.D)), .d (.lst [])] G = .ok (.d (sD (foldF xs))) G := by
  have e := lfilm_gen h [] G
  have q : sts (fun c w => run [] xs (c, w)) = sts (foldF xs).app := sts_eq fun c w hc => by rw [foldF, fold_app [] xs FN.zero zero_ok h hm hc, zero_app hc]
  rw [q, sts_sD (f := foldF xs) (fold_ok xs FN.zero zero_ok h) (fold_dj xs FN.zero dj_zero h)] at e
  exact e
theorem zero_f (G : GS) : g_Film_nothing [.d (.cls "Film")] G = .ok (.d FN.zero.D) G := by kernel_rfl
theorem sum_loop (s0 : Sl) : ∀ (xs : List One) (f : FN) (s2 : Sl) (G : GS), f.Ok → (∀ x ∈ xs, x.Ok) → ∃ s2', forL 2 (sSet 1 (eOp (alt2 (fAdd) (fOwn "Film" (arN 2) g_Film___add__)) (eVar 1) (eMeth [("Ink", ((arN 1 : Ar), g_Ink_film)), ("Filter", ((arN 1 : Ar), g_Ink_film)), ("Opaque", ((arN 1 : Ar), g_Ink_film)), ("Bleach", ((arN 1 : Ar), g_Ink_film))] (eCall (arN 1) g__law_ink (aCons (eVar 2) (aNil))) aNil))) (xs.map One.D) [s0, .ev (.d f.D), s2] G = .nx [s0, .ev (.d (xs.foldl (fun f x => f.add x.f) f).D), s2'] G
  | [], f, s2, G, _, _ => ⟨s2, rfl⟩
  | x :: xs, f, s2, G, hf, h => by
    have h0 := h x (List.mem_cons_self ..)
    obtain ⟨s2', e⟩ := sum_loop s0 xs (f.add x.f) (.ev (.d x.D)) G (hf.add h0.f) fun y hy => h y (List.mem_cons_of_mem _ hy)
    refine ⟨s2', ?_⟩
    have ad := add_gen hf h0.f G
    have ig := ink_gen h0 G
    simp -implicitDefEqProofs only [bind_ok, bind_er, bindN_ok, ofE_ok, ofE_er, seqO_nx, seqO_rt, seqO_er, seqO_bk, seqO_ct, loopO_nx, loopO_ct, loopO_bk, loopO_rt, loopO_er, lift_s, retO_rt, retO_nx, retO_er, mkO_ok, mkO_er, toOpt_ok, eVar_z, eVar_s, oL_z, oL_s, frz_z, frz_s, wipe_n, wipe_c, datas_n, datas_c, map_s, bind_s, setA_n, setA_c, p2_d, p1_d, pN_d, fEq_i, fEq_s, fEq_b, fEq_ii, fNe_i, fNe_s, fNe_b, fSub_i, fAdd_i, fAnd_i, fOr_i, fXor_i, fLt_i, fLe_i, fGt_i, fGe_i, fIs_d, fIsNot_d, fIsB_b, isB_b, tru_b, tru_i, tru_l, tru_t, orE_s, orE_n, alt2_e, alt1_e, altN_e, fIx_l, fIx_t, at_0, at_1, at_2, at_3, at_4, at_5, for_n, for_c, lc_n, len_lst, len_tup, kfn_c, kix_c, sSeq_e, sNil_e, sSet_e, sSet2_e, sRet_e, sRetN_e, sDrop_e, sIf_e, sBk_e, sCt_e, sFrz_e, sOwn_e, sFor_e, sUnp_e, eC_e, eOp_e, eUn_e, aNil_e, aCons_e, aApp_e, eFN_e, eCall_e, eMake_e, eCMeth_e, eCallO_e, eLst_e, eTup_e, nLst_e, nLc_e, eLc_e, lSeq_e, lTup_e, eIf_e, eAnd_e, eOr_e, eNot_e, bOf_e, bAnd_e, bOr_e, bNot_e, eFld_e, runB_e, env0_e, oN_e, List.set_cons_zero, List.set_cons_succ, List.map_cons, List.map_nil, List.cons_append, List.nil_append, List.replicate_succ, List.replicate_zero, List.length_cons, List.length_nil, List.getElem?_cons_zero, List.getElem?_cons_succ, reduceIte, if_true, if_false, Bool.false_eq_true, arN_t, decide_true, decide_false, isNon, Bool.not_true, Bool.not_false, Bool.true_and, Bool.false_and, Bool.and_true, Bool.and_false, bYes_e, lstMax_e, Nat.reduceAdd, Nat.reduceSub, Nat.reduceLeDiff, Int.reduceLT, Int.reduceLE, Int.reduceEq, String.reduceEq, and_self, decide_eq_true_eq, and_true, true_and, cPos_e, cDiv_e, fMod_i, fDiv_i, Int.reduceMod, Int.reduceDiv, Int.reduceSub, Int.reduceAdd, Int.reducePow, kOf_i, fsOf_i, fOwn_k, fOwn1_k, gFld_k, methO_e, methK_s, methA_s, ownK_s, ownK_n, ownK_m, own1K_s, own1K_n, fldK_s, sApp_e, appK_s, sOSub_e, osubK_s, eOIx_e, oixK_s, eOLen_e, olenK_s, ixN_p, Int.reduceToNat, Nat.reduceLT, oS_e, eSl_e, eSlT_e, kSet_e, kSet2_e, kDrop_e, kIf_t, kIf_f, kOwn_e, kApp_e, kOsub1_e, kOsub2_e, osK_s, kOix_e, ixK_s, kFor_e, kUnp_e, unpK_s, kOp1_e, kOp2_e, kUn_e, kC1_e, kC2_e, kA1_e, kA2_e, kFN_e, kCall_e, kMake_e, kCM_e, kMeth_e, kLst_e, lstK_s, kTup_e, tupK_s, kNl_e, nlK_s, nList_e, kNli_e, nliK_s, lOf_l, lOf_t, kNc1_e, kNc2_e, kLc1_e, kLc2_e, kSeq_e, kTpl_e, kEIf_t, kEIf_f, kEAnd_t, kEAnd_f, kEOr_t, kEOr_f, kENot_e, kB_e, kBAnd_t, kBAnd_f, kBOr_t, kBOr_f, kBNot_e, kOS_e, kSl1_e, kSl2_e, kSl3_e, kSt1_e, kSt2_e, kSt3_e, eMeth_e, kMe_e, lc_c, kL1_e, kL2_e, kT_t, kT_f, Int.cast_ofNat_Int, Int.natCast_zero, Int.natCast_one, lRng1_e, kRng_1, kRng_2, kRng_3, kRng_4, kRng_5, kRng_6, List.length_map, arS_0, sEr_e, sTryAs_e, tryK_nx, tryK_rt, tryK_er, afterO_rt, afterO_nx, eXf_e, xfS_s, xfK_s, plain_n, plain_e, List.all_cons, List.all_nil, eq_self, sTryN_e, tryN_nx, tryN_rt, tryN_h, tryN_t, dflI_e, dflF_e, not_false_eq_true, eMethK_e, kMK_e, kMK2_e, eProp_e, kPr_e, eNotO_e, kNotO_e, notK_s, ig, ↓meth_gen h0, f_o, f_k, ad, e, List.foldl_cons]
theorem sum_gen (xs : List One) (h : ∀ x ∈ xs, x.Ok) (G : GS) : g__law_sum [.d (.lst (xs.map One.D))] G = .ok (.d (foldF xs).D) G := by
  obtain ⟨s2, e⟩ := sum_loop (.ev (.d (.lst (xs.map One.D)))) xs FN.zero .no G zero_ok h
  have z := zero_f G
  simp -implicitDefEqProofs only [bind_ok, bind_er, bindN_ok, ofE_ok, ofE_er, seqO_nx, seqO_rt, seqO_er, seqO_bk, seqO_ct, loopO_nx, loopO_ct, loopO_bk, loopO_rt, loopO_er, lift_s, retO_rt, retO_nx, retO_er, mkO_ok, mkO_er, toOpt_ok, eVar_z, eVar_s, oL_z, oL_s, frz_z, frz_s, wipe_n, wipe_c, datas_n, datas_c, map_s, bind_s, setA_n, setA_c, p2_d, p1_d, pN_d, fEq_i, fEq_s, fEq_b, fEq_ii, fNe_i, fNe_s, fNe_b, fSub_i, fAdd_i, fAnd_i, fOr_i, fXor_i, fLt_i, fLe_i, fGt_i, fGe_i, fIs_d, fIsNot_d, fIsB_b, isB_b, tru_b, tru_i, tru_l, tru_t, orE_s, orE_n, alt2_e, alt1_e, altN_e, fIx_l, fIx_t, at_0, at_1, at_2, at_3, at_4, at_5, for_n, for_c, lc_n, len_lst, len_tup, kfn_c, kix_c, sSeq_e, sNil_e, sSet_e, sSet2_e, sRet_e, sRetN_e, sDrop_e, sIf_e, sBk_e, sCt_e, sFrz_e, sOwn_e, sFor_e, sUnp_e, eC_e, eOp_e, eUn_e, aNil_e, aCons_e, aApp_e, eFN_e, eCall_e, eMake_e, eCMeth_e, eCallO_e, eLst_e, eTup_e, nLst_e, nLc_e, eLc_e, lSeq_e, lTup_e, eIf_e, eAnd_e, eOr_e, eNot_e, bOf_e, bAnd_e, bOr_e, bNot_e, eFld_e, runB_e, env0_e, oN_e, List.set_cons_zero, List.set_cons_succ, List.map_cons, List.map_nil, List.cons_append, List.nil_append, List.replicate_succ, List.replicate_zero, List.length_cons, List.length_nil, List.getElem?_cons_zero, List.getElem?_cons_succ, reduceIte, if_true, if_false, Bool.false_eq_true, arN_t, decide_true, decide_false, isNon, Bool.not_true, Bool.not_false, Bool.true_and, Bool.false_and, Bool.and_true, Bool.and_false, bYes_e, lstMax_e, Nat.reduceAdd, Nat.reduceSub, Nat.reduceLeDiff, Int.reduceLT, Int.reduceLE, Int.reduceEq, String.reduceEq, and_self, decide_eq_true_eq, and_true, true_and, cPos_e, cDiv_e, fMod_i, fDiv_i, Int.reduceMod, Int.reduceDiv, Int.reduceSub, Int.reduceAdd, Int.reducePow, kOf_i, fsOf_i, fOwn_k, fOwn1_k, gFld_k, methO_e, methK_s, methA_s, ownK_s, ownK_n, ownK_m, own1K_s, own1K_n, fldK_s, sApp_e, appK_s, sOSub_e, osubK_s, eOIx_e, oixK_s, eOLen_e, olenK_s, ixN_p, Int.reduceToNat, Nat.reduceLT, oS_e, eSl_e, eSlT_e, kSet_e, kSet2_e, kDrop_e, kIf_t, kIf_f, kOwn_e, kApp_e, kOsub1_e, kOsub2_e, osK_s, kOix_e, ixK_s, kFor_e, kUnp_e, unpK_s, kOp1_e, kOp2_e, kUn_e, kC1_e, kC2_e, kA1_e, kA2_e, kFN_e, kCall_e, kMake_e, kCM_e, kMeth_e, kLst_e, lstK_s, kTup_e, tupK_s, kNl_e, nlK_s, nList_e, kNli_e, nliK_s, lOf_l, lOf_t, kNc1_e, kNc2_e, kLc1_e, kLc2_e, kSeq_e, kTpl_e, kEIf_t, kEIf_f, kEAnd_t, kEAnd_f, kEOr_t, kEOr_f, kENot_e, kB_e, kBAnd_t, kBAnd_f, kBOr_t, kBOr_f, kBNot_e, kOS_e, kSl1_e, kSl2_e, kSl3_e, kSt1_e, kSt2_e, kSt3_e, eMeth_e, kMe_e, lc_c, kL1_e, kL2_e, kT_t, kT_f, Int.cast_ofNat_Int, Int.natCast_zero, Int.natCast_one, lRng1_e, kRng_1, kRng_2, kRng_3, kRng_4, kRng_5, kRng_6, List.length_map, arS_0, sEr_e, sTryAs_e, tryK_nx, tryK_rt, tryK_er, afterO_rt, afterO_nx, eXf_e, xfS_s, xfK_s, plain_n, plain_e, List.all_cons, List.all_nil, eq_self, sTryN_e, tryN_nx, tryN_rt, tryN_h, tryN_t, dflI_e, dflF_e, not_false_eq_true, eMethK_e, kMK_e, kMK2_e, eProp_e, kPr_e, eNotO_e, kNotO_e, notK_s, g__law_sum, m__law_sum, z, ↓e]
  rfl
end K07

set_option Elab.async false
set_option linter.all false
set_option maxRecDepth 100000
set_option maxHeartbeats 4000000
namespace K07
open PySem DL
noncomputable section
/-! ### films compared -/
theorem lt_eq (a b : Nat) (G : GS) : g_Light___eq__ [.d (lightD a), .d (lightD b)] G = .ok (.d (.bl (decide ((a : Int) = (b : Int))))) G := by kernel_rfl
theorem and_bl {m n : EM} {env : En} {G : GS} {p q : Bool} (h1 : m env G = .ok (.d (.bl p)) G) (h2 : n env G = .ok (.d (.bl q)) G) : eAnd m n env G = .ok (.d (.bl (p && q))) G := by
  unfold eAnd
  rw [h1]
  cases p with
  | true => exact h2
  | false => rfl
theorem op_some {f : F2} {a b : EM} {env : En} {G G1 : GS} {x y z : EV} (h1 : a env G = .ok x G) (h2 : b env G = .ok y G) (h : f x y G = some (z, G1)) : eOp f a b env G = .ok z G1 := by rw [op_eq h1 h2, h]; rfl
theorem fq_tup (o n o' n' : Nat) (m m' : Bool) (G : GS) : alt2 (fEq) (fEqT "Light" (arN 2) g_Light___eq__) (.d (eD o n m)) (.d (eD o' n' m')) G = some (.d (.bl (decide (o = o') && (decide (n = n') && (m == m')))), G) := by
  have e1 : fEq (.d (eD o n m)) (.d (eD o' n' m')) G = none := by kernel_rfl
  have l : ∀ a b : Nat, elE "Light" (arN 2) g_Light___eq__ (lightD a) (lightD b) G = some (decide (a = b)) := fun a b => by
    refine elE_ins rfl ?_ ?_
    · refine (lt_eq a b G).trans ?_
      rw [show decide ((a : Int) = (b : Int)) = decide (a = b) from decide_eq_decide.mpr Int.ofNat_inj]
    · by_cases h : a = b
      · exact .inl (decide_eq_true h)
      · refine .inr ?_
        show (decide ((a : Int) ≠ (b : Int)) || false) = true
        rw [decide_eq_true (show (a : Int) ≠ (b : Int) by omega)]
        rfl
  have e2 : fEqT "Light" (arN 2) g_Light___eq__ (.d (eD o n m)) (.d (eD o' n' m')) G = some (.d (.bl (decide (o = o') && (decide (n = n') && (m == m')))), G) := by
    show (((elE "Light" (arN 2) g_Light___eq__ (lightD o) (lightD o') G).bind fun b => if b = true then ((elE "Light" (arN 2) g_Light___eq__ (lightD n) (lightD n') G).bind fun b => if b = true then ((some (m == m')).bind fun b => if b = true then some true else some false) else some false) else some false).map fun b => (EV.d (DL.D.bl (b && true)), G)) = _
    rw [l, l]
    cases decide (o = o') <;> cases decide (n = n') <;> cases m <;> cases m' <;> rfl
  unfold alt2
  rw [e1]
  exact e2
theorem film_eq (o n o2 n2 o' n' o2' n2' : Nat) (m m2 m' m2' : Bool) (G : GS) : g_Film___eq__ [.d (fmD o n m o2 n2 m2), .d (fmD o' n' m' o2' n2' m2')] G = .ok (.d (.bl ((decide (o = o') && (decide (n = n') && (m == m'))) && (decide (o2 = o2') && (decide (n2 = n2') && (m2 == m2')))))) G := by
  have i1 : eFN (fIsi TB) (aCons (eVar 1) (aCons (eC (.cls "Film")) (aNil))) (env0 2 [.d (fmD o n m o2 n2 m2), .d (fmD o' n' m' o2' n2' m2')]) G = .ok (.d (.bl true)) G := by kernel_rfl
  have e := and_bl i1 (and_bl (op_some (a := eFld [("Film", 0)] (eVar 0)) (b := eFld [("Film", 0)] (eVar 1)) (env := env0 2 [.d (fmD o n m o2 n2 m2), .d (fmD o' n' m' o2' n2' m2')]) rfl rfl (fq_tup o n o' n' m m' G)) (op_some (a := eFld [("Film", 1)] (eVar 0)) (b := eFld [("Film", 1)] (eVar 1)) rfl rfl (fq_tup o2 n2 o2' n2' m2 m2' G)))
  refine (rt_of (m := m_Film___eq__) (n := 2) (sret_eq e)).trans ?_
  rw [Bool.true_and]


def eqB (f g : FN) : Bool := (decide (f.o = g.o) && (decide (f.n = g.n) && (f.m == g.m))) && (decide (f.o2 = g.o2) && (decide (f.n2 = g.n2) && (true == true)))
theorem feq_gen (f g : FN) (G : GS) : fEqO NT_Film "Film" (arN 2) g_Film___eq__ (.d f.D) (.d g.D) G = some (.d (.bl (eqB f g)), G) := by
  have e2 : fEqO NT_Film "Film" (arN 2) g_Film___eq__ (.d f.D) (.d g.D) G = resB (toOpt (g_Film___eq__ [.d f.D, .d g.D] G)) := by
    show (if "Film" = "Film" ∧ arN 2 2 = true ∧ noC g.D = true ∧ tgOf g.D ∈ NT_Film then resB (toOpt (g_Film___eq__ [.d f.D, .d g.D] G)) else none) = _
    exact if_pos ⟨rfl, rfl, rfl, by unfold NT_Film; simp [tgOf, FN.D, fmD]⟩
  rw [e2, FN.D, FN.D, film_eq]
  rfl
theorem feq_none (f g : FN) (G : GS) : fEq (.d f.D) (.d g.D) G = none := rfl
theorem feq_nl (f g : FN) (G : GS) : fEq (.d f.D) (.d (sD g)) G = none := rfl
theorem feq_l (f g : FN) (G : GS) : fEqO NT_Film "Film" (arN 2) g_Film___eq__ (.d f.D) (.d (sD g)) G = some (.d (.bl false), G) := by
  have e2 : fEqO NT_Film "Film" (arN 2) g_Film___eq__ (.d f.D) (.d (sD g)) G = resB (toOpt (g_Film___eq__ [.d f.D, .d (sD g)] G)) := by
    show (if "Film" = "Film" ∧ arN 2 2 = true ∧ noC (sD g) = true ∧ tgOf (sD g) ∈ NT_Film then resB (toOpt (g_Film___eq__ [.d f.D, .d (sD g)] G)) else none) = _
    exact if_pos ⟨rfl, rfl, rfl, by unfold NT_Film; simp [tgOf, sD]⟩
  have e3 : g_Film___eq__ [.d f.D, .d (sD g)] G = .ok (.d (.bl false)) G := by kernel_rfl
  rw [e2, e3]
  rfl
end
def seqB (f g : FN) : Bool := ((((f.n : Nat) : Int) == ((g.n : Nat) : Int)) && ((f.m == g.m) && true)) && (((((63 - f.o : Nat) : Int) == ((63 - g.o : Nat) : Int)) && ((f.m == g.m) && true)) && (((((f.n2 : Nat) : Int) == ((g.n2 : Nat) : Int)) && ((true == true) && true)) && (((((63 - f.o2 : Nat) : Int) == ((63 - g.o2 : Nat) : Int)) && ((true == true) && true)) && true)))
theorem seq_raw (f g : FN) (G : GS) : fEq (.d (sD f)) (.d (sD g)) G = some (.d (.bl (seqB f g)), G) := by kernel_rfl
theorem beq_dec (a b : Nat) : (((a : Nat) : Int) == ((b : Nat) : Int)) = decide (a = b) := by
  by_cases h : a = b
  · subst h; simp
  · rw [decide_eq_false h, beq_eq_false_iff_ne]; omega
theorem seq_eq {f g : FN} (hf : f.Ok) (hg : g.Ok) : seqB f g = eqB f g := by
  have h1 : decide (63 - f.o = 63 - g.o) = decide (f.o = g.o) := decide_eq_decide.mpr ⟨fun h => by have := hf.o; have := hg.o; omega, fun h => by rw [h]⟩
  have h2 : decide (63 - f.o2 = 63 - g.o2) = decide (f.o2 = g.o2) := decide_eq_decide.mpr ⟨fun h => by have := hf.o2; have := hg.o2; omega, fun h => by rw [h]⟩
  unfold seqB eqB
  rw [beq_dec, beq_dec, beq_dec, beq_dec, h1, h2]
  cases decide (f.o = g.o) <;> cases decide (f.n = g.n) <;> cases (f.m == g.m) <;> cases decide (f.o2 = g.o2) <;> cases decide (f.n2 = g.n2) <;> rfl
theorem seq_gen {f g : FN} (hf : f.Ok) (hg : g.Ok) (G : GS) : fEq (.d (sD f)) (.d (sD g)) G = some (.d (.bl (eqB f g)), G) := by rw [seq_raw, seq_eq hf hg]
theorem eqB_comm (f g : FN) : eqB g f = eqB f g := by
  unfold eqB
  have c : ∀ a b : Nat, decide (a = b) = decide (b = a) := fun a b => decide_eq_decide.mpr eq_comm
  have d : (g.m == f.m) = (f.m == g.m) := by cases f.m <;> cases g.m <;> rfl
  rw [c g.o f.o, c g.n f.n, c g.o2 f.o2, c g.n2 f.n2, d]
theorem is_ok (b : Bool) (G : GS) : g__law_is [.d (.bl b), .d (.bl b)] G = .ok (.d (.bl true)) G := by cases b <;> kernel_rfl
/-! ### effects -/
def efD (o n : Nat) (m : Bool) : DL.D := .tup [.int (o : Nat), .int (n : Nat), .bl m]
theorem and_63 (a : Nat) (h : a < 64) : Builtin.bitAnd 63 ((a : Nat) : Int) = (a : Nat) := by
  have := (bit_tab 63 (by decide) a h).2.1
  rw [show (((63 : Nat) : Int)) = 63 from rfl] at this
  rw [this, Nat.and_comm, and63 a h]
theorem ef0 {f : FN} (h : f.Ok) (G : GS) : g__law_effect [.d (sD f), .d (.int 0)] G = .ok (.d (efD f.o f.n f.m)) G := by
  have e : ((63 : Int) - ((63 - f.o : Nat) : Int)) = ((f.o : Nat) : Int) := by have := h.o; omega
  have a := and_63 f.o h.o
  simp -implicitDefEqProofs only [bind_ok, bind_er, bindN_ok, ofE_ok, ofE_er, seqO_nx, seqO_rt, seqO_er, seqO_bk, seqO_ct, loopO_nx, loopO_ct, loopO_bk, loopO_rt, loopO_er, lift_s, retO_rt, retO_nx, retO_er, mkO_ok, mkO_er, toOpt_ok, eVar_z, eVar_s, oL_z, oL_s, frz_z, frz_s, wipe_n, wipe_c, datas_n, datas_c, map_s, bind_s, setA_n, setA_c, p2_d, p1_d, pN_d, fEq_i, fEq_s, fEq_b, fEq_ii, fNe_i, fNe_s, fNe_b, fSub_i, fAdd_i, fAnd_i, fOr_i, fXor_i, fLt_i, fLe_i, fGt_i, fGe_i, fIs_d, fIsNot_d, fIsB_b, isB_b, tru_b, tru_i, tru_l, tru_t, orE_s, orE_n, alt2_e, alt1_e, altN_e, fIx_l, fIx_t, at_0, at_1, at_2, at_3, at_4, at_5, for_n, for_c, lc_n, len_lst, len_tup, kfn_c, kix_c, sSeq_e, sNil_e, sSet_e, sSet2_e, sRet_e, sRetN_e, sDrop_e, sIf_e, sBk_e, sCt_e, sFrz_e, sOwn_e, sFor_e, sUnp_e, eC_e, eOp_e, eUn_e, aNil_e, aCons_e, aApp_e, eFN_e, eCall_e, eMake_e, eCMeth_e, eCallO_e, eLst_e, eTup_e, nLst_e, nLc_e, eLc_e, lSeq_e, lTup_e, eIf_e, eAnd_e, eOr_e, eNot_e, bOf_e, bAnd_e, bOr_e, bNot_e, eFld_e, runB_e, env0_e, oN_e, List.set_cons_zero, List.set_cons_succ, List.map_cons, List.map_nil, List.cons_append, List.nil_append, List.replicate_succ, List.replicate_zero, List.length_cons, List.length_nil, List.getElem?_cons_zero, List.getElem?_cons_succ, reduceIte, if_true, if_false, Bool.false_eq_true, arN_t, decide_true, decide_false, isNon, Bool.not_true, Bool.not_false, Bool.true_and, Bool.false_and, Bool.and_true, Bool.and_false, bYes_e, lstMax_e, Nat.reduceAdd, Nat.reduceSub, Nat.reduceLeDiff, Int.reduceLT, Int.reduceLE, Int.reduceEq, String.reduceEq, and_self, decide_eq_true_eq, and_true, true_and, cPos_e, cDiv_e, fMod_i, fDiv_i, Int.reduceMod, Int.reduceDiv, Int.reduceSub, Int.reduceAdd, Int.reducePow, kOf_i, fsOf_i, fOwn_k, fOwn1_k, gFld_k, methO_e, methK_s, methA_s, ownK_s, ownK_n, ownK_m, own1K_s, own1K_n, fldK_s, sApp_e, appK_s, sOSub_e, osubK_s, eOIx_e, oixK_s, eOLen_e, olenK_s, ixN_p, Int.reduceToNat, Nat.reduceLT, oS_e, eSl_e, eSlT_e, kSet_e, kSet2_e, kDrop_e, kIf_t, kIf_f, kOwn_e, kApp_e, kOsub1_e, kOsub2_e, osK_s, kOix_e, ixK_s, kFor_e, kUnp_e, unpK_s, kOp1_e, kOp2_e, kUn_e, kC1_e, kC2_e, kA1_e, kA2_e, kFN_e, kCall_e, kMake_e, kCM_e, kMeth_e, kLst_e, lstK_s, kTup_e, tupK_s, kNl_e, nlK_s, nList_e, kNli_e, nliK_s, lOf_l, lOf_t, kNc1_e, kNc2_e, kLc1_e, kLc2_e, kSeq_e, kTpl_e, kEIf_t, kEIf_f, kEAnd_t, kEAnd_f, kEOr_t, kEOr_f, kENot_e, kB_e, kBAnd_t, kBAnd_f, kBOr_t, kBOr_f, kBNot_e, kOS_e, kSl1_e, kSl2_e, kSl3_e, kSt1_e, kSt2_e, kSt3_e, eMeth_e, kMe_e, lc_c, kL1_e, kL2_e, kT_t, kT_f, Int.cast_ofNat_Int, Int.natCast_zero, Int.natCast_one, lRng1_e, kRng_1, kRng_2, kRng_3, kRng_4, kRng_5, kRng_6, List.length_map, arS_0, sEr_e, sTryAs_e, tryK_nx, tryK_rt, tryK_er, afterO_rt, afterO_nx, eXf_e, xfS_s, xfK_s, plain_n, plain_e, List.all_cons, List.all_nil, eq_self, sTryN_e, tryN_nx, tryN_rt, tryN_h, tryN_t, dflI_e, dflF_e, not_false_eq_true, eMethK_e, kMK_e, kMK2_e, eProp_e, kPr_e, eNotO_e, kNotO_e, notK_s, g__law_effect, m__law_effect, sD, e, a]
  rfl
theorem ef2 {f : FN} (h : f.Ok) (G : GS) : g__law_effect [.d (sD f), .d (.int 2)] G = .ok (.d (efD f.o2 f.n2 true)) G := by
  have e : ((63 : Int) - ((63 - f.o2 : Nat) : Int)) = ((f.o2 : Nat) : Int) := by have := h.o2; omega
  have a := and_63 f.o2 h.o2
  simp -implicitDefEqProofs only [bind_ok, bind_er, bindN_ok, ofE_ok, ofE_er, seqO_nx, seqO_rt, seqO_er, seqO_bk, seqO_ct, loopO_nx, loopO_ct, loopO_bk, loopO_rt, loopO_er, lift_s, retO_rt, retO_nx, retO_er, mkO_ok, mkO_er, toOpt_ok, eVar_z, eVar_s, oL_z, oL_s, frz_z, frz_s, wipe_n, wipe_c, datas_n, datas_c, map_s, bind_s, setA_n, setA_c, p2_d, p1_d, pN_d, fEq_i, fEq_s, fEq_b, fEq_ii, fNe_i, fNe_s, fNe_b, fSub_i, fAdd_i, fAnd_i, fOr_i, fXor_i, fLt_i, fLe_i, fGt_i, fGe_i, fIs_d, fIsNot_d, fIsB_b, isB_b, tru_b, tru_i, tru_l, tru_t, orE_s, orE_n, alt2_e, alt1_e, altN_e, fIx_l, fIx_t, at_0, at_1, at_2, at_3, at_4, at_5, for_n, for_c, lc_n, len_lst, len_tup, kfn_c, kix_c, sSeq_e, sNil_e, sSet_e, sSet2_e, sRet_e, sRetN_e, sDrop_e, sIf_e, sBk_e, sCt_e, sFrz_e, sOwn_e, sFor_e, sUnp_e, eC_e, eOp_e, eUn_e, aNil_e, aCons_e, aApp_e, eFN_e, eCall_e, eMake_e, eCMeth_e, eCallO_e, eLst_e, eTup_e, nLst_e, nLc_e, eLc_e, lSeq_e, lTup_e, eIf_e, eAnd_e, eOr_e, eNot_e, bOf_e, bAnd_e, bOr_e, bNot_e, eFld_e, runB_e, env0_e, oN_e, List.set_cons_zero, List.set_cons_succ, List.map_cons, List.map_nil, List.cons_append, List.nil_append, List.replicate_succ, List.replicate_zero, List.length_cons, List.length_nil, List.getElem?_cons_zero, List.getElem?_cons_succ, reduceIte, if_true, if_false, Bool.false_eq_true, arN_t, decide_true, decide_false, isNon, Bool.not_true, Bool.not_false, Bool.true_and, Bool.false_and, Bool.and_true, Bool.and_false, bYes_e, lstMax_e, Nat.reduceAdd, Nat.reduceSub, Nat.reduceLeDiff, Int.reduceLT, Int.reduceLE, Int.reduceEq, String.reduceEq, and_self, decide_eq_true_eq, and_true, true_and, cPos_e, cDiv_e, fMod_i, fDiv_i, Int.reduceMod, Int.reduceDiv, Int.reduceSub, Int.reduceAdd, Int.reducePow, kOf_i, fsOf_i, fOwn_k, fOwn1_k, gFld_k, methO_e, methK_s, methA_s, ownK_s, ownK_n, ownK_m, own1K_s, own1K_n, fldK_s, sApp_e, appK_s, sOSub_e, osubK_s, eOIx_e, oixK_s, eOLen_e, olenK_s, ixN_p, Int.reduceToNat, Nat.reduceLT, oS_e, eSl_e, eSlT_e, kSet_e, kSet2_e, kDrop_e, kIf_t, kIf_f, kOwn_e, kApp_e, kOsub1_e, kOsub2_e, osK_s, kOix_e, ixK_s, kFor_e, kUnp_e, unpK_s, kOp1_e, kOp2_e, kUn_e, kC1_e, kC2_e, kA1_e, kA2_e, kFN_e, kCall_e, kMake_e, kCM_e, kMeth_e, kLst_e, lstK_s, kTup_e, tupK_s, kNl_e, nlK_s, nList_e, kNli_e, nliK_s, lOf_l, lOf_t, kNc1_e, kNc2_e, kLc1_e, kLc2_e, kSeq_e, kTpl_e, kEIf_t, kEIf_f, kEAnd_t, kEAnd_f, kEOr_t, kEOr_f, kENot_e, kB_e, kBAnd_t, kBAnd_f, kBOr_t, kBOr_f, kBNot_e, kOS_e, kSl1_e, kSl2_e, kSl3_e, kSt1_e, kSt2_e, kSt3_e, eMeth_e, kMe_e, lc_c, kL1_e, kL2_e, kT_t, kT_f, Int.cast_ofNat_Int, Int.natCast_zero, Int.natCast_one, lRng1_e, kRng_1, kRng_2, kRng_3, kRng_4, kRng_5, kRng_6, List.length_map, arS_0, sEr_e, sTryAs_e, tryK_nx, tryK_rt, tryK_er, afterO_rt, afterO_nx, eXf_e, xfS_s, xfK_s, plain_n, plain_e, List.all_cons, List.all_nil, eq_self, sTryN_e, tryN_nx, tryN_rt, tryN_h, tryN_t, dflI_e, dflF_e, not_false_eq_true, eMethK_e, kMK_e, kMK2_e, eProp_e, kPr_e, eNotO_e, kNotO_e, notK_s, g__law_effect, m__law_effect, sD, e, a]
  rfl
theorem se_ok {o n : Nat} {m : Bool} (ho : o < 64) (hn : n < 64) (G : GS) : g__law_same_effect [.d (eD o n m), .d (efD o n m)] G = .ok (.d (.bl true)) G := by
  have s1 := same_ok ho G
  have s2 := same_ok hn G
  have i1 : gIsi TB [eD o n m, .ty "tuple"] = some (.bl true) := by kernel_rfl
  have i2 : gIsi TB [.bl m, .ty "bool"] = some (.bl true) := by kernel_rfl
  have i1' : gIsi TB [.tup [lightD o, lightD n, .bl m], .ty "tuple"] = some (.bl true) := i1
  cases m <;> simp -implicitDefEqProofs only [bind_ok, bind_er, bindN_ok, ofE_ok, ofE_er, seqO_nx, seqO_rt, seqO_er, seqO_bk, seqO_ct, loopO_nx, loopO_ct, loopO_bk, loopO_rt, loopO_er, lift_s, retO_rt, retO_nx, retO_er, mkO_ok, mkO_er, toOpt_ok, eVar_z, eVar_s, oL_z, oL_s, frz_z, frz_s, wipe_n, wipe_c, datas_n, datas_c, map_s, bind_s, setA_n, setA_c, p2_d, p1_d, pN_d, fEq_i, fEq_s, fEq_b, fEq_ii, fNe_i, fNe_s, fNe_b, fSub_i, fAdd_i, fAnd_i, fOr_i, fXor_i, fLt_i, fLe_i, fGt_i, fGe_i, fIs_d, fIsNot_d, fIsB_b, isB_b, tru_b, tru_i, tru_l, tru_t, orE_s, orE_n, alt2_e, alt1_e, altN_e, fIx_l, fIx_t, at_0, at_1, at_2, at_3, at_4, at_5, for_n, for_c, lc_n, len_lst, len_tup, kfn_c, kix_c, sSeq_e, sNil_e, sSet_e, sSet2_e, sRet_e, sRetN_e, sDrop_e, sIf_e, sBk_e, sCt_e, sFrz_e, sOwn_e, sFor_e, sUnp_e, eC_e, eOp_e, eUn_e, aNil_e, aCons_e, aApp_e, eFN_e, eCall_e, eMake_e, eCMeth_e, eCallO_e, eLst_e, eTup_e, nLst_e, nLc_e, eLc_e, lSeq_e, lTup_e, eIf_e, eAnd_e, eOr_e, eNot_e, bOf_e, bAnd_e, bOr_e, bNot_e, eFld_e, runB_e, env0_e, oN_e, List.set_cons_zero, List.set_cons_succ, List.map_cons, List.map_nil, List.cons_append, List.nil_append, List.replicate_succ, List.replicate_zero, List.length_cons, List.length_nil, List.getElem?_cons_zero, List.getElem?_cons_succ, reduceIte, if_true, if_false, Bool.false_eq_true, arN_t, decide_true, decide_false, isNon, Bool.not_true, Bool.not_false, Bool.true_and, Bool.false_and, Bool.and_true, Bool.and_false, bYes_e, lstMax_e, Nat.reduceAdd, Nat.reduceSub, Nat.reduceLeDiff, Int.reduceLT, Int.reduceLE, Int.reduceEq, String.reduceEq, and_self, decide_eq_true_eq, and_true, true_and, cPos_e, cDiv_e, fMod_i, fDiv_i, Int.reduceMod, Int.reduceDiv, Int.reduceSub, Int.reduceAdd, Int.reducePow, kOf_i, fsOf_i, fOwn_k, fOwn1_k, gFld_k, methO_e, methK_s, methA_s, ownK_s, ownK_n, ownK_m, own1K_s, own1K_n, fldK_s, sApp_e, appK_s, sOSub_e, osubK_s, eOIx_e, oixK_s, eOLen_e, olenK_s, ixN_p, Int.reduceToNat, Nat.reduceLT, oS_e, eSl_e, eSlT_e, kSet_e, kSet2_e, kDrop_e, kIf_t, kIf_f, kOwn_e, kApp_e, kOsub1_e, kOsub2_e, osK_s, kOix_e, ixK_s, kFor_e, kUnp_e, unpK_s, kOp1_e, kOp2_e, kUn_e, kC1_e, kC2_e, kA1_e, kA2_e, kFN_e, kCall_e, kMake_e, kCM_e, kMeth_e, kLst_e, lstK_s, kTup_e, tupK_s, kNl_e, nlK_s, nList_e, kNli_e, nliK_s, lOf_l, lOf_t, kNc1_e, kNc2_e, kLc1_e, kLc2_e, kSeq_e, kTpl_e, kEIf_t, kEIf_f, kEAnd_t, kEAnd_f, kEOr_t, kEOr_f, kENot_e, kB_e, kBAnd_t, kBAnd_f, kBOr_t, kBOr_f, kBNot_e, kOS_e, kSl1_e, kSl2_e, kSl3_e, kSt1_e, kSt2_e, kSt3_e, eMeth_e, kMe_e, lc_c, kL1_e, kL2_e, kT_t, kT_f, Int.cast_ofNat_Int, Int.natCast_zero, Int.natCast_one, lRng1_e, kRng_1, kRng_2, kRng_3, kRng_4, kRng_5, kRng_6, List.length_map, arS_0, sEr_e, sTryAs_e, tryK_nx, tryK_rt, tryK_er, afterO_rt, afterO_nx, eXf_e, xfS_s, xfK_s, plain_n, plain_e, List.all_cons, List.all_nil, eq_self, sTryN_e, tryN_nx, tryN_rt, tryN_h, tryN_t, dflI_e, dflF_e, not_false_eq_true, eMethK_e, kMK_e, kMK2_e, eProp_e, kPr_e, eNotO_e, kNotO_e, notK_s, g__law_same_effect, m__law_same_effect, eD, efD, fIsi, i1', i2, s1, s2]
/-! ### idle -/
theorem bool_tab : ∀ G, (List.range 64).map (fun (n : Nat) => g_Light___bool__ [.d (lightD n)] G) = (List.range 64).map fun (n : Nat) => .ok (.d (.bl (!decide (n = 0)))) G := fun G => by kernel_rfl
theorem tru_l {n : Nat} (h : n < 64) (G : GS) : truO "Light" (arN 1) g_Light___bool__ (.d (lightD n)) G = some (!decide (n = 0), G) := by
  have e := of_tab (bool_tab G) h
  show (if "Light" = "Light" ∧ arN 1 1 = true then (match g_Light___bool__ [.d (lightD n)] G with | .ok (.d (.bl b)) G' => some (b, G') | _ => none) else none) = _
  rw [if_pos ⟨rfl, rfl⟩, e]
theorem wn_ok {o n : Nat} {m : Bool} (ho : o < 64) (hn : n < 64) (G : GS) : g__writes_nothing [.d (eD o n m)] G = .ok (.d (.bl (decide (o = 0) && decide (n = 0)))) G := by
  have t1 := tru_l ho G
  have t2 := tru_l hn G
  cases h1 : decide (o = 0) <;> cases h2 : decide (n = 0) <;> rw [h1] at t1 <;> rw [h2] at t2 <;> simp -implicitDefEqProofs only [bind_ok, bind_er, bindN_ok, ofE_ok, ofE_er, seqO_nx, seqO_rt, seqO_er, seqO_bk, seqO_ct, loopO_nx, loopO_ct, loopO_bk, loopO_rt, loopO_er, lift_s, retO_rt, retO_nx, retO_er, mkO_ok, mkO_er, toOpt_ok, eVar_z, eVar_s, oL_z, oL_s, frz_z, frz_s, wipe_n, wipe_c, datas_n, datas_c, map_s, bind_s, setA_n, setA_c, p2_d, p1_d, pN_d, fEq_i, fEq_s, fEq_b, fEq_ii, fNe_i, fNe_s, fNe_b, fSub_i, fAdd_i, fAnd_i, fOr_i, fXor_i, fLt_i, fLe_i, fGt_i, fGe_i, fIs_d, fIsNot_d, fIsB_b, isB_b, tru_b, tru_i, tru_l, tru_t, orE_s, orE_n, alt2_e, alt1_e, altN_e, fIx_l, fIx_t, at_0, at_1, at_2, at_3, at_4, at_5, for_n, for_c, lc_n, len_lst, len_tup, kfn_c, kix_c, sSeq_e, sNil_e, sSet_e, sSet2_e, sRet_e, sRetN_e, sDrop_e, sIf_e, sBk_e, sCt_e, sFrz_e, sOwn_e, sFor_e, sUnp_e, eC_e, eOp_e, eUn_e, aNil_e, aCons_e, aApp_e, eFN_e, eCall_e, eMake_e, eCMeth_e, eCallO_e, eLst_e, eTup_e, nLst_e, nLc_e, eLc_e, lSeq_e, lTup_e, eIf_e, eAnd_e, eOr_e, eNot_e, bOf_e, bAnd_e, bOr_e, bNot_e, eFld_e, runB_e, env0_e, oN_e, List.set_cons_zero, List.set_cons_succ, List.map_cons, List.map_nil, List.cons_append, List.nil_append, List.replicate_succ, List.replicate_zero, List.length_cons, List.length_nil, List.getElem?_cons_zero, List.getElem?_cons_succ, reduceIte, if_true, if_false, Bool.false_eq_true, arN_t, decide_true, decide_false, isNon, Bool.not_true, Bool.not_false, Bool.true_and, Bool.false_and, Bool.and_true, Bool.and_false, bYes_e, lstMax_e, Nat.reduceAdd, Nat.reduceSub, Nat.reduceLeDiff, Int.reduceLT, Int.reduceLE, Int.reduceEq, String.reduceEq, and_self, decide_eq_true_eq, and_true, true_and, cPos_e, cDiv_e, fMod_i, fDiv_i, Int.reduceMod, Int.reduceDiv, Int.reduceSub, Int.reduceAdd, Int.reducePow, kOf_i, fsOf_i, fOwn_k, fOwn1_k, gFld_k, methO_e, methK_s, methA_s, ownK_s, ownK_n, ownK_m, own1K_s, own1K_n, fldK_s, sApp_e, appK_s, sOSub_e, osubK_s, eOIx_e, oixK_s, eOLen_e, olenK_s, ixN_p, Int.reduceToNat, Nat.reduceLT, oS_e, eSl_e, eSlT_e, kSet_e, kSet2_e, kDrop_e, kIf_t, kIf_f, kOwn_e, kApp_e, kOsub1_e, kOsub2_e, osK_s, kOix_e, ixK_s, kFor_e, kUnp_e, unpK_s, kOp1_e, kOp2_e, kUn_e, kC1_e, kC2_e, kA1_e, kA2_e, kFN_e, kCall_e, kMake_e, kCM_e, kMeth_e, kLst_e, lstK_s, kTup_e, tupK_s, kNl_e, nlK_s, nList_e, kNli_e, nliK_s, lOf_l, lOf_t, kNc1_e, kNc2_e, kLc1_e, kLc2_e, kSeq_e, kTpl_e, kEIf_t, kEIf_f, kEAnd_t, kEAnd_f, kEOr_t, kEOr_f, kENot_e, kB_e, kBAnd_t, kBAnd_f, kBOr_t, kBOr_f, kBNot_e, kOS_e, kSl1_e, kSl2_e, kSl3_e, kSt1_e, kSt2_e, kSt3_e, eMeth_e, kMe_e, lc_c, kL1_e, kL2_e, kT_t, kT_f, Int.cast_ofNat_Int, Int.natCast_zero, Int.natCast_one, lRng1_e, kRng_1, kRng_2, kRng_3, kRng_4, kRng_5, kRng_6, List.length_map, arS_0, sEr_e, sTryAs_e, tryK_nx, tryK_rt, tryK_er, afterO_rt, afterO_nx, eXf_e, xfS_s, xfK_s, plain_n, plain_e, List.all_cons, List.all_nil, eq_self, sTryN_e, tryN_nx, tryN_rt, tryN_h, tryN_t, dflI_e, dflF_e, not_false_eq_true, eMethK_e, kMK_e, kMK2_e, eProp_e, kPr_e, eNotO_e, kNotO_e, notK_s, g__writes_nothing, m__writes_nothing, eD, t1, t2]
def idB (f : FN) : Bool := !f.m && ((decide (f.o = 0) && decide (f.n = 0)) && (decide (f.o2 = 0) && decide (f.n2 = 0)))
theorem idle_ok {f : FN} (h : f.Ok) (G : GS) : g_Film_idle [.d f.D] G = .ok (.d (.bl (idB f))) G := by
  have w1 := wn_ok (m := f.m) h.o h.n G
  have w2 := wn_ok (m := true) h.o2 h.n2 G
  have a2 : ∀ o n m, fIx (.d (eD o n m)) (.d (.int 2)) G = some (.d (.bl m), G) := fun _ _ _ => rfl
  unfold idB
  cases hm : f.m <;> rw [hm] at w1 <;> cases h1 : (decide (f.o = 0) && decide (f.n = 0)) <;> rw [h1] at w1 <;> simp -implicitDefEqProofs only [bind_ok, bind_er, bindN_ok, ofE_ok, ofE_er, seqO_nx, seqO_rt, seqO_er, seqO_bk, seqO_ct, loopO_nx, loopO_ct, loopO_bk, loopO_rt, loopO_er, lift_s, retO_rt, retO_nx, retO_er, mkO_ok, mkO_er, toOpt_ok, eVar_z, eVar_s, oL_z, oL_s, frz_z, frz_s, wipe_n, wipe_c, datas_n, datas_c, map_s, bind_s, setA_n, setA_c, p2_d, p1_d, pN_d, fEq_i, fEq_s, fEq_b, fEq_ii, fNe_i, fNe_s, fNe_b, fSub_i, fAdd_i, fAnd_i, fOr_i, fXor_i, fLt_i, fLe_i, fGt_i, fGe_i, fIs_d, fIsNot_d, fIsB_b, isB_b, tru_b, tru_i, tru_l, tru_t, orE_s, orE_n, alt2_e, alt1_e, altN_e, fIx_l, fIx_t, at_0, at_1, at_2, at_3, at_4, at_5, for_n, for_c, lc_n, len_lst, len_tup, kfn_c, kix_c, sSeq_e, sNil_e, sSet_e, sSet2_e, sRet_e, sRetN_e, sDrop_e, sIf_e, sBk_e, sCt_e, sFrz_e, sOwn_e, sFor_e, sUnp_e, eC_e, eOp_e, eUn_e, aNil_e, aCons_e, aApp_e, eFN_e, eCall_e, eMake_e, eCMeth_e, eCallO_e, eLst_e, eTup_e, nLst_e, nLc_e, eLc_e, lSeq_e, lTup_e, eIf_e, eAnd_e, eOr_e, eNot_e, bOf_e, bAnd_e, bOr_e, bNot_e, eFld_e, runB_e, env0_e, oN_e, List.set_cons_zero, List.set_cons_succ, List.map_cons, List.map_nil, List.cons_append, List.nil_append, List.replicate_succ, List.replicate_zero, List.length_cons, List.length_nil, List.getElem?_cons_zero, List.getElem?_cons_succ, reduceIte, if_true, if_false, Bool.false_eq_true, arN_t, decide_true, decide_false, isNon, Bool.not_true, Bool.not_false, Bool.true_and, Bool.false_and, Bool.and_true, Bool.and_false, bYes_e, lstMax_e, Nat.reduceAdd, Nat.reduceSub, Nat.reduceLeDiff, Int.reduceLT, Int.reduceLE, Int.reduceEq, String.reduceEq, and_self, decide_eq_true_eq, and_true, true_and, cPos_e, cDiv_e, fMod_i, fDiv_i, Int.reduceMod, Int.reduceDiv, Int.reduceSub, Int.reduceAdd, Int.reducePow, kOf_i, fsOf_i, fOwn_k, fOwn1_k, gFld_k, methO_e, methK_s, methA_s, ownK_s, ownK_n, ownK_m, own1K_s, own1K_n, fldK_s, sApp_e, appK_s, sOSub_e, osubK_s, eOIx_e, oixK_s, eOLen_e, olenK_s, ixN_p, Int.reduceToNat, Nat.reduceLT, oS_e, eSl_e, eSlT_e, kSet_e, kSet2_e, kDrop_e, kIf_t, kIf_f, kOwn_e, kApp_e, kOsub1_e, kOsub2_e, osK_s, kOix_e, ixK_s, kFor_e, kUnp_e, unpK_s, kOp1_e, kOp2_e, kUn_e, kC1_e, kC2_e, kA1_e, kA2_e, kFN_e, kCall_e, kMake_e, kCM_e, kMeth_e, kLst_e, lstK_s, kTup_e, tupK_s, kNl_e, nlK_s, nList_e, kNli_e, nliK_s, lOf_l, lOf_t, kNc1_e, kNc2_e, kLc1_e, kLc2_e, kSeq_e, kTpl_e, kEIf_t, kEIf_f, kEAnd_t, kEAnd_f, kEOr_t, kEOr_f, kENot_e, kB_e, kBAnd_t, kBAnd_f, kBOr_t, kBOr_f, kBNot_e, kOS_e, kSl1_e, kSl2_e, kSl3_e, kSt1_e, kSt2_e, kSt3_e, eMeth_e, kMe_e, lc_c, kL1_e, kL2_e, kT_t, kT_f, Int.cast_ofNat_Int, Int.natCast_zero, Int.natCast_one, lRng1_e, kRng_1, kRng_2, kRng_3, kRng_4, kRng_5, kRng_6, List.length_map, arS_0, sEr_e, sTryAs_e, tryK_nx, tryK_rt, tryK_er, afterO_rt, afterO_nx, eXf_e, xfS_s, xfK_s, plain_n, plain_e, List.all_cons, List.all_nil, eq_self, sTryN_e, tryN_nx, tryN_rt, tryN_h, tryN_t, dflI_e, dflF_e, not_false_eq_true, eMethK_e, kMK_e, kMK2_e, eProp_e, kPr_e, eNotO_e, kNotO_e, notK_s, g_Film_idle, m_Film_idle, f_k, f_fs, a2, hm, w1, w2]
theorem eq_bare (o n : Nat) (m k : Bool) (G : GS) : fEq (.d (efD o n m)) (.d (.tup [.int 0, .int 0, .bl k])) G = some (.d (.bl (((((o : Nat) : Int) == 0) && ((((n : Nat) : Int) == 0) && ((m == k) && true))))), G) := by kernel_rfl
theorem beq0 (a : Nat) : (((a : Nat) : Int) == 0) = decide (a = 0) := beq_dec a 0
/-! ### does -/
def doS (o n b : Nat) : Str := if o.testBit b = true then "off" else if n.testBit b = true then "on" else "leave"
theorem in_tab : ∀ G, (List.range 384).map (fun (z : Nat) => g_Light___contains__ [.d (lightD (z / 6)), .d (.int ((z % 6 : Nat) : Int))] G) = (List.range 384).map fun (z : Nat) => .ok (.d (.bl ((z / 6).testBit (z % 6)))) G := fun G => by kernel_rfl
theorem pair6 {n b : Nat} (hn : n < 64) (hb : b < 6) : n * 6 + b < 384 ∧ (n * 6 + b) / 6 = n ∧ (n * 6 + b) % 6 = b := by omega
theorem in_ok {n b : Nat} (hn : n < 64) (hb : b < 6) (G : GS) : g_Light___contains__ [.d (lightD n), .d (.int (b : Nat))] G = .ok (.d (.bl (n.testBit b))) G := by
  obtain ⟨h1, h2, h3⟩ := pair6 hn hb
  have e := of_tab (in_tab G) h1
  rwa [h2, h3] at e
theorem inI_tab : ∀ G, (List.range 384).map (fun (z : Nat) => fInI (.d (.int ((z % 6 : Nat) : Int))) (.d (.lst (bandsD (z / 6)))) G) = (List.range 384).map fun (z : Nat) => some (.d (.bl ((z / 6).testBit (z % 6))), G) := fun G => by kernel_rfl
theorem inI_ok {n b : Nat} (hn : n < 64) (hb : b < 6) (G : GS) : fInI (.d (.int (b : Nat))) (.d (.lst (bandsD n))) G = some (.d (.bl (n.testBit b)), G) := by
  obtain ⟨h1, h2, h3⟩ := pair6 hn hb
  have e := of_tab (inI_tab G) h1
  rwa [h2, h3] at e
theorem bands_tab : ∀ G, (List.range 64).map (fun (n : Nat) => g__law_bands [.d (.int (n : Nat))] G) = (List.range 64).map fun (n : Nat) => .ok (.d (.lst (bandsD n))) G := fun G => by kernel_rfl
theorem bands_ok {n : Nat} (h : n < 64) (G : GS) : g__law_bands [.d (.int (n : Nat))] G = .ok (.d (.lst (bandsD n))) G := of_tab (bands_tab G) h
theorem fin_l {n b : Nat} (hn : n < 64) (hb : b < 6) (G : GS) : alt2 (fInI) (fInOwn "Light" (arN 2) g_Light___contains__) (.d (.int (b : Nat))) (.d (lightD n)) G = some (.d (.bl (n.testBit b)), G) := by
  have e1 : fInI (.d (.int (b : Nat))) (.d (lightD n)) G = none := rfl
  have e2 : fInOwn "Light" (arN 2) g_Light___contains__ (.d (.int (b : Nat))) (.d (lightD n)) G = resB (toOpt (g_Light___contains__ [.d (lightD n), .d (.int (b : Nat))] G)) := by
    show (if "Light" = "Light" ∧ arN 2 2 = true then resB (toOpt (g_Light___contains__ [.d (lightD n), .d (.int (b : Nat))] G)) else none) = _
    exact if_pos ⟨rfl, rfl⟩
  unfold alt2
  rw [e1, e2, in_ok hn hb]
  rfl
theorem ck_ok {b : Nat} (hb : b < 6) (G : GS) : g_check_band [.d (.int (b : Nat))] G = .ok (.d .non) G := by
  have c : b = 0 ∨ b = 1 ∨ b = 2 ∨ b = 3 ∨ b = 4 ∨ b = 5 := by omega
  rcases c with rfl | rfl | rfl | rfl | rfl | rfl <;> kernel_rfl
theorem does_ok {f : FN} (h : f.Ok) {b : Nat} (hb : b < 6) (w : Bool) (G : GS) : g_Film_does [.d f.D, .d (.int (b : Nat)), .d (.bl w)] G = .ok (.d (.str (doS (if w = true then f.o2 else f.o) (if w = true then f.n2 else f.n) b))) G := by
  have c := ck_ok hb G
  have ef := eff_gen f.o f.n f.o2 f.n2 f.m true w G
  have key : ∀ o n m, o < 64 → n < 64 → g__effect_for [.d f.D, .d (.bl w)] G = .ok (.d (eD o n m)) G → g_Film_does [.d f.D, .d (.int (b : Nat)), .d (.bl w)] G = .ok (.d (.str (doS o n b))) G := fun o n m ho hn e => by
    have i1 := fin_l ho hb G
    have i2 := fin_l hn hb G
    unfold doS
    cases h1 : o.testBit b <;> rw [h1] at i1 <;> cases h2 : n.testBit b <;> rw [h2] at i2 <;> simp -implicitDefEqProofs only [bind_ok, bind_er, bindN_ok, ofE_ok, ofE_er, seqO_nx, seqO_rt, seqO_er, seqO_bk, seqO_ct, loopO_nx, loopO_ct, loopO_bk, loopO_rt, loopO_er, lift_s, retO_rt, retO_nx, retO_er, mkO_ok, mkO_er, toOpt_ok, eVar_z, eVar_s, oL_z, oL_s, frz_z, frz_s, wipe_n, wipe_c, datas_n, datas_c, map_s, bind_s, setA_n, setA_c, p2_d, p1_d, pN_d, fEq_i, fEq_s, fEq_b, fEq_ii, fNe_i, fNe_s, fNe_b, fSub_i, fAdd_i, fAnd_i, fOr_i, fXor_i, fLt_i, fLe_i, fGt_i, fGe_i, fIs_d, fIsNot_d, fIsB_b, isB_b, tru_b, tru_i, tru_l, tru_t, orE_s, orE_n, alt2_e, alt1_e, altN_e, fIx_l, fIx_t, at_0, at_1, at_2, at_3, at_4, at_5, for_n, for_c, lc_n, len_lst, len_tup, kfn_c, kix_c, sSeq_e, sNil_e, sSet_e, sSet2_e, sRet_e, sRetN_e, sDrop_e, sIf_e, sBk_e, sCt_e, sFrz_e, sOwn_e, sFor_e, sUnp_e, eC_e, eOp_e, eUn_e, aNil_e, aCons_e, aApp_e, eFN_e, eCall_e, eMake_e, eCMeth_e, eCallO_e, eLst_e, eTup_e, nLst_e, nLc_e, eLc_e, lSeq_e, lTup_e, eIf_e, eAnd_e, eOr_e, eNot_e, bOf_e, bAnd_e, bOr_e, bNot_e, eFld_e, runB_e, env0_e, oN_e, List.set_cons_zero, List.set_cons_succ, List.map_cons, List.map_nil, List.cons_append, List.nil_append, List.replicate_succ, List.replicate_zero, List.length_cons, List.length_nil, List.getElem?_cons_zero, List.getElem?_cons_succ, reduceIte, if_true, if_false, Bool.false_eq_true, arN_t, decide_true, decide_false, isNon, Bool.not_true, Bool.not_false, Bool.true_and, Bool.false_and, Bool.and_true, Bool.and_false, bYes_e, lstMax_e, Nat.reduceAdd, Nat.reduceSub, Nat.reduceLeDiff, Int.reduceLT, Int.reduceLE, Int.reduceEq, String.reduceEq, and_self, decide_eq_true_eq, and_true, true_and, cPos_e, cDiv_e, fMod_i, fDiv_i, Int.reduceMod, Int.reduceDiv, Int.reduceSub, Int.reduceAdd, Int.reducePow, kOf_i, fsOf_i, fOwn_k, fOwn1_k, gFld_k, methO_e, methK_s, methA_s, ownK_s, ownK_n, ownK_m, own1K_s, own1K_n, fldK_s, sApp_e, appK_s, sOSub_e, osubK_s, eOIx_e, oixK_s, eOLen_e, olenK_s, ixN_p, Int.reduceToNat, Nat.reduceLT, oS_e, eSl_e, eSlT_e, kSet_e, kSet2_e, kDrop_e, kIf_t, kIf_f, kOwn_e, kApp_e, kOsub1_e, kOsub2_e, osK_s, kOix_e, ixK_s, kFor_e, kUnp_e, unpK_s, kOp1_e, kOp2_e, kUn_e, kC1_e, kC2_e, kA1_e, kA2_e, kFN_e, kCall_e, kMake_e, kCM_e, kMeth_e, kLst_e, lstK_s, kTup_e, tupK_s, kNl_e, nlK_s, nList_e, kNli_e, nliK_s, lOf_l, lOf_t, kNc1_e, kNc2_e, kLc1_e, kLc2_e, kSeq_e, kTpl_e, kEIf_t, kEIf_f, kEAnd_t, kEAnd_f, kEOr_t, kEOr_f, kENot_e, kB_e, kBAnd_t, kBAnd_f, kBOr_t, kBOr_f, kBNot_e, kOS_e, kSl1_e, kSl2_e, kSl3_e, kSt1_e, kSt2_e, kSt3_e, eMeth_e, kMe_e, lc_c, kL1_e, kL2_e, kT_t, kT_f, Int.cast_ofNat_Int, Int.natCast_zero, Int.natCast_one, lRng1_e, kRng_1, kRng_2, kRng_3, kRng_4, kRng_5, kRng_6, List.length_map, arS_0, sEr_e, sTryAs_e, tryK_nx, tryK_rt, tryK_er, afterO_rt, afterO_nx, eXf_e, xfS_s, xfK_s, plain_n, plain_e, List.all_cons, List.all_nil, eq_self, sTryN_e, tryN_nx, tryN_rt, tryN_h, tryN_t, dflI_e, dflF_e, not_false_eq_true, eMethK_e, kMK_e, kMK2_e, eProp_e, kPr_e, eNotO_e, kNotO_e, notK_s, g_Film_does, m_Film_does, c, e, eD, ↓i1, ↓i2]
  cases w
  · exact key f.o f.n f.m h.o h.n ef
  · exact key f.o2 f.n2 true h.o2 h.n2 ef
theorem ldoes_ok {o n : Nat} {m : Bool} (ho : o < 64) (hn : n < 64) {b : Nat} (hb : b < 6) (G : GS) : g__law_does [.d (efD o n m), .d (.int (b : Nat))] G = .ok (.d (.str (doS o n b))) G := by
  have i1 := inI_ok ho hb G
  have i2 := inI_ok hn hb G
  have b1 := bands_ok ho G
  have b2 := bands_ok hn G
  unfold doS
  cases h1 : o.testBit b <;> rw [h1] at i1 <;> cases h2 : n.testBit b <;> rw [h2] at i2 <;> simp -implicitDefEqProofs only [bind_ok, bind_er, bindN_ok, ofE_ok, ofE_er, seqO_nx, seqO_rt, seqO_er, seqO_bk, seqO_ct, loopO_nx, loopO_ct, loopO_bk, loopO_rt, loopO_er, lift_s, retO_rt, retO_nx, retO_er, mkO_ok, mkO_er, toOpt_ok, eVar_z, eVar_s, oL_z, oL_s, frz_z, frz_s, wipe_n, wipe_c, datas_n, datas_c, map_s, bind_s, setA_n, setA_c, p2_d, p1_d, pN_d, fEq_i, fEq_s, fEq_b, fEq_ii, fNe_i, fNe_s, fNe_b, fSub_i, fAdd_i, fAnd_i, fOr_i, fXor_i, fLt_i, fLe_i, fGt_i, fGe_i, fIs_d, fIsNot_d, fIsB_b, isB_b, tru_b, tru_i, tru_l, tru_t, orE_s, orE_n, alt2_e, alt1_e, altN_e, fIx_l, fIx_t, at_0, at_1, at_2, at_3, at_4, at_5, for_n, for_c, lc_n, len_lst, len_tup, kfn_c, kix_c, sSeq_e, sNil_e, sSet_e, sSet2_e, sRet_e, sRetN_e, sDrop_e, sIf_e, sBk_e, sCt_e, sFrz_e, sOwn_e, sFor_e, sUnp_e, eC_e, eOp_e, eUn_e, aNil_e, aCons_e, aApp_e, eFN_e, eCall_e, eMake_e, eCMeth_e, eCallO_e, eLst_e, eTup_e, nLst_e, nLc_e, eLc_e, lSeq_e, lTup_e, eIf_e, eAnd_e, eOr_e, eNot_e, bOf_e, bAnd_e, bOr_e, bNot_e, eFld_e, runB_e, env0_e, oN_e, List.set_cons_zero, List.set_cons_succ, List.map_cons, List.map_nil, List.cons_append, List.nil_append, List.replicate_succ, List.replicate_zero, List.length_cons, List.length_nil, List.getElem?_cons_zero, List.getElem?_cons_succ, reduceIte, if_true, if_false, Bool.false_eq_true, arN_t, decide_true, decide_false, isNon, Bool.not_true, Bool.not_false, Bool.true_and, Bool.false_and, Bool.and_true, Bool.and_false, bYes_e, lstMax_e, Nat.reduceAdd, Nat.reduceSub, Nat.reduceLeDiff, Int.reduceLT, Int.reduceLE, Int.reduceEq, String.reduceEq, and_self, decide_eq_true_eq, and_true, true_and, cPos_e, cDiv_e, fMod_i, fDiv_i, Int.reduceMod, Int.reduceDiv, Int.reduceSub, Int.reduceAdd, Int.reducePow, kOf_i, fsOf_i, fOwn_k, fOwn1_k, gFld_k, methO_e, methK_s, methA_s, ownK_s, ownK_n, ownK_m, own1K_s, own1K_n, fldK_s, sApp_e, appK_s, sOSub_e, osubK_s, eOIx_e, oixK_s, eOLen_e, olenK_s, ixN_p, Int.reduceToNat, Nat.reduceLT, oS_e, eSl_e, eSlT_e, kSet_e, kSet2_e, kDrop_e, kIf_t, kIf_f, kOwn_e, kApp_e, kOsub1_e, kOsub2_e, osK_s, kOix_e, ixK_s, kFor_e, kUnp_e, unpK_s, kOp1_e, kOp2_e, kUn_e, kC1_e, kC2_e, kA1_e, kA2_e, kFN_e, kCall_e, kMake_e, kCM_e, kMeth_e, kLst_e, lstK_s, kTup_e, tupK_s, kNl_e, nlK_s, nList_e, kNli_e, nliK_s, lOf_l, lOf_t, kNc1_e, kNc2_e, kLc1_e, kLc2_e, kSeq_e, kTpl_e, kEIf_t, kEIf_f, kEAnd_t, kEAnd_f, kEOr_t, kEOr_f, kENot_e, kB_e, kBAnd_t, kBAnd_f, kBOr_t, kBOr_f, kBNot_e, kOS_e, kSl1_e, kSl2_e, kSl3_e, kSt1_e, kSt2_e, kSt3_e, eMeth_e, kMe_e, lc_c, kL1_e, kL2_e, kT_t, kT_f, Int.cast_ofNat_Int, Int.natCast_zero, Int.natCast_one, lRng1_e, kRng_1, kRng_2, kRng_3, kRng_4, kRng_5, kRng_6, List.length_map, arS_0, sEr_e, sTryAs_e, tryK_nx, tryK_rt, tryK_er, afterO_rt, afterO_nx, eXf_e, xfS_s, xfK_s, plain_n, plain_e, List.all_cons, List.all_nil, eq_self, sTryN_e, tryN_nx, tryN_rt, tryN_h, tryN_t, dflI_e, dflF_e, not_false_eq_true, eMethK_e, kMK_e, kMK2_e, eProp_e, kPr_e, eNotO_e, kNotO_e, notK_s, g__law_does, m__law_does, efD, b1, b2, i1, i2]
theorem isi_s (s : Str) : gIsi TB [.str s, .ty "str"] = some (.bl true) := by kernel_rfl
theorem text_ok (s : Str) (G : GS) : g__law_same_text [.d (.str s), .d (.str s)] G = .ok (.d (.bl true)) G := by simp -implicitDefEqProofs only [bind_ok, bind_er, bindN_ok, ofE_ok, ofE_er, seqO_nx, seqO_rt, seqO_er, seqO_bk, seqO_ct, loopO_nx, loopO_ct, loopO_bk, loopO_rt, loopO_er, lift_s, retO_rt, retO_nx, retO_er, mkO_ok, mkO_er, toOpt_ok, eVar_z, eVar_s, oL_z, oL_s, frz_z, frz_s, wipe_n, wipe_c, datas_n, datas_c, map_s, bind_s, setA_n, setA_c, p2_d, p1_d, pN_d, fEq_i, fEq_s, fEq_b, fEq_ii, fNe_i, fNe_s, fNe_b, fSub_i, fAdd_i, fAnd_i, fOr_i, fXor_i, fLt_i, fLe_i, fGt_i, fGe_i, fIs_d, fIsNot_d, fIsB_b, isB_b, tru_b, tru_i, tru_l, tru_t, orE_s, orE_n, alt2_e, alt1_e, altN_e, fIx_l, fIx_t, at_0, at_1, at_2, at_3, at_4, at_5, for_n, for_c, lc_n, len_lst, len_tup, kfn_c, kix_c, sSeq_e, sNil_e, sSet_e, sSet2_e, sRet_e, sRetN_e, sDrop_e, sIf_e, sBk_e, sCt_e, sFrz_e, sOwn_e, sFor_e, sUnp_e, eC_e, eOp_e, eUn_e, aNil_e, aCons_e, aApp_e, eFN_e, eCall_e, eMake_e, eCMeth_e, eCallO_e, eLst_e, eTup_e, nLst_e, nLc_e, eLc_e, lSeq_e, lTup_e, eIf_e, eAnd_e, eOr_e, eNot_e, bOf_e, bAnd_e, bOr_e, bNot_e, eFld_e, runB_e, env0_e, oN_e, List.set_cons_zero, List.set_cons_succ, List.map_cons, List.map_nil, List.cons_append, List.nil_append, List.replicate_succ, List.replicate_zero, List.length_cons, List.length_nil, List.getElem?_cons_zero, List.getElem?_cons_succ, reduceIte, if_true, if_false, Bool.false_eq_true, arN_t, decide_true, decide_false, isNon, Bool.not_true, Bool.not_false, Bool.true_and, Bool.false_and, Bool.and_true, Bool.and_false, bYes_e, lstMax_e, Nat.reduceAdd, Nat.reduceSub, Nat.reduceLeDiff, Int.reduceLT, Int.reduceLE, Int.reduceEq, String.reduceEq, and_self, decide_eq_true_eq, and_true, true_and, cPos_e, cDiv_e, fMod_i, fDiv_i, Int.reduceMod, Int.reduceDiv, Int.reduceSub, Int.reduceAdd, Int.reducePow, kOf_i, fsOf_i, fOwn_k, fOwn1_k, gFld_k, methO_e, methK_s, methA_s, ownK_s, ownK_n, ownK_m, own1K_s, own1K_n, fldK_s, sApp_e, appK_s, sOSub_e, osubK_s, eOIx_e, oixK_s, eOLen_e, olenK_s, ixN_p, Int.reduceToNat, Nat.reduceLT, oS_e, eSl_e, eSlT_e, kSet_e, kSet2_e, kDrop_e, kIf_t, kIf_f, kOwn_e, kApp_e, kOsub1_e, kOsub2_e, osK_s, kOix_e, ixK_s, kFor_e, kUnp_e, unpK_s, kOp1_e, kOp2_e, kUn_e, kC1_e, kC2_e, kA1_e, kA2_e, kFN_e, kCall_e, kMake_e, kCM_e, kMeth_e, kLst_e, lstK_s, kTup_e, tupK_s, kNl_e, nlK_s, nList_e, kNli_e, nliK_s, lOf_l, lOf_t, kNc1_e, kNc2_e, kLc1_e, kLc2_e, kSeq_e, kTpl_e, kEIf_t, kEIf_f, kEAnd_t, kEAnd_f, kEOr_t, kEOr_f, kENot_e, kB_e, kBAnd_t, kBAnd_f, kBOr_t, kBOr_f, kBNot_e, kOS_e, kSl1_e, kSl2_e, kSl3_e, kSt1_e, kSt2_e, kSt3_e, eMeth_e, kMe_e, lc_c, kL1_e, kL2_e, kT_t, kT_f, Int.cast_ofNat_Int, Int.natCast_zero, Int.natCast_one, lRng1_e, kRng_1, kRng_2, kRng_3, kRng_4, kRng_5, kRng_6, List.length_map, arS_0, sEr_e, sTryAs_e, tryK_nx, tryK_rt, tryK_er, afterO_rt, afterO_nx, eXf_e, xfS_s, xfK_s, plain_n, plain_e, List.all_cons, List.all_nil, eq_self, sTryN_e, tryN_nx, tryN_rt, tryN_h, tryN_t, dflI_e, dflF_e, not_false_eq_true, eMethK_e, kMK_e, kMK2_e, eProp_e, kPr_e, eNotO_e, kNotO_e, notK_s, g__law_same_text, m__law_same_text, fIsi, isi_s]
end K07

set_option Elab.async false
set_option linter.all false
set_option maxRecDepth 100000
set_option maxHeartbeats 4000000
namespace K07
open PySem DL
/-! ### bands that are refused -/
def bigI (i : Int) : Prop := (i < 0 ∨ 6 ≤ i) ∧ i.natAbs.log2 < 1920
theorem okI_t {i : Int} (h : bigI i) : okI (.int i) = true := decide_eq_true h.2
theorem ck_bad {i : Int} (h : bigI i) (G : GS) : g_check_band [.d (.int i)] G = .er "InvalidBand" [.int i] G := by
  have k := okI_t h
  rcases h.1 with h1 | h1
  · have d1 : decide (i < 0) = true := decide_eq_true h1
    simp -implicitDefEqProofs only [bind_ok, bind_er, bindN_ok, ofE_ok, ofE_er, seqO_nx, seqO_rt, seqO_er, seqO_bk, seqO_ct, loopO_nx, loopO_ct, loopO_bk, loopO_rt, loopO_er, lift_s, retO_rt, retO_nx, retO_er, mkO_ok, mkO_er, toOpt_ok, eVar_z, eVar_s, oL_z, oL_s, frz_z, frz_s, wipe_n, wipe_c, datas_n, datas_c, map_s, bind_s, setA_n, setA_c, p2_d, p1_d, pN_d, fEq_i, fEq_s, fEq_b, fEq_ii, fNe_i, fNe_s, fNe_b, fSub_i, fAdd_i, fAnd_i, fOr_i, fXor_i, fLt_i, fLe_i, fGt_i, fGe_i, fIs_d, fIsNot_d, fIsB_b, isB_b, tru_b, tru_i, tru_l, tru_t, orE_s, orE_n, alt2_e, alt1_e, altN_e, fIx_l, fIx_t, at_0, at_1, at_2, at_3, at_4, at_5, for_n, for_c, lc_n, len_lst, len_tup, kfn_c, kix_c, sSeq_e, sNil_e, sSet_e, sSet2_e, sRet_e, sRetN_e, sDrop_e, sIf_e, sBk_e, sCt_e, sFrz_e, sOwn_e, sFor_e, sUnp_e, eC_e, eOp_e, eUn_e, aNil_e, aCons_e, aApp_e, eFN_e, eCall_e, eMake_e, eCMeth_e, eCallO_e, eLst_e, eTup_e, nLst_e, nLc_e, eLc_e, lSeq_e, lTup_e, eIf_e, eAnd_e, eOr_e, eNot_e, bOf_e, bAnd_e, bOr_e, bNot_e, eFld_e, runB_e, env0_e, oN_e, List.set_cons_zero, List.set_cons_succ, List.map_cons, List.map_nil, List.cons_append, List.nil_append, List.replicate_succ, List.replicate_zero, List.length_cons, List.length_nil, List.getElem?_cons_zero, List.getElem?_cons_succ, reduceIte, if_true, if_false, Bool.false_eq_true, arN_t, decide_true, decide_false, isNon, Bool.not_true, Bool.not_false, Bool.true_and, Bool.false_and, Bool.and_true, Bool.and_false, bYes_e, lstMax_e, Nat.reduceAdd, Nat.reduceSub, Nat.reduceLeDiff, Int.reduceLT, Int.reduceLE, Int.reduceEq, String.reduceEq, and_self, decide_eq_true_eq, and_true, true_and, cPos_e, cDiv_e, fMod_i, fDiv_i, Int.reduceMod, Int.reduceDiv, Int.reduceSub, Int.reduceAdd, Int.reducePow, kOf_i, fsOf_i, fOwn_k, fOwn1_k, gFld_k, methO_e, methK_s, methA_s, ownK_s, ownK_n, ownK_m, own1K_s, own1K_n, fldK_s, sApp_e, appK_s, sOSub_e, osubK_s, eOIx_e, oixK_s, eOLen_e, olenK_s, ixN_p, Int.reduceToNat, Nat.reduceLT, oS_e, eSl_e, eSlT_e, kSet_e, kSet2_e, kDrop_e, kIf_t, kIf_f, kOwn_e, kApp_e, kOsub1_e, kOsub2_e, osK_s, kOix_e, ixK_s, kFor_e, kUnp_e, unpK_s, kOp1_e, kOp2_e, kUn_e, kC1_e, kC2_e, kA1_e, kA2_e, kFN_e, kCall_e, kMake_e, kCM_e, kMeth_e, kLst_e, lstK_s, kTup_e, tupK_s, kNl_e, nlK_s, nList_e, kNli_e, nliK_s, lOf_l, lOf_t, kNc1_e, kNc2_e, kLc1_e, kLc2_e, kSeq_e, kTpl_e, kEIf_t, kEIf_f, kEAnd_t, kEAnd_f, kEOr_t, kEOr_f, kENot_e, kB_e, kBAnd_t, kBAnd_f, kBOr_t, kBOr_f, kBNot_e, kOS_e, kSl1_e, kSl2_e, kSl3_e, kSt1_e, kSt2_e, kSt3_e, eMeth_e, kMe_e, lc_c, kL1_e, kL2_e, kT_t, kT_f, Int.cast_ofNat_Int, Int.natCast_zero, Int.natCast_one, lRng1_e, kRng_1, kRng_2, kRng_3, kRng_4, kRng_5, kRng_6, List.length_map, arS_0, sEr_e, sTryAs_e, tryK_nx, tryK_rt, tryK_er, afterO_rt, afterO_nx, eXf_e, xfS_s, xfK_s, plain_n, plain_e, List.all_cons, List.all_nil, eq_self, sTryN_e, tryN_nx, tryN_rt, tryN_h, tryN_t, dflI_e, dflF_e, not_false_eq_true, eMethK_e, kMK_e, kMK2_e, eProp_e, kPr_e, eNotO_e, kNotO_e, notK_s, g_check_band, m_check_band, d1, kEr_e k]
  · have d1 : decide (i < 0) = false := decide_eq_false (by omega)
    have d2 : decide (6 ≤ i) = true := decide_eq_true h1
    simp -implicitDefEqProofs only [bind_ok, bind_er, bindN_ok, ofE_ok, ofE_er, seqO_nx, seqO_rt, seqO_er, seqO_bk, seqO_ct, loopO_nx, loopO_ct, loopO_bk, loopO_rt, loopO_er, lift_s, retO_rt, retO_nx, retO_er, mkO_ok, mkO_er, toOpt_ok, eVar_z, eVar_s, oL_z, oL_s, frz_z, frz_s, wipe_n, wipe_c, datas_n, datas_c, map_s, bind_s, setA_n, setA_c, p2_d, p1_d, pN_d, fEq_i, fEq_s, fEq_b, fEq_ii, fNe_i, fNe_s, fNe_b, fSub_i, fAdd_i, fAnd_i, fOr_i, fXor_i, fLt_i, fLe_i, fGt_i, fGe_i, fIs_d, fIsNot_d, fIsB_b, isB_b, tru_b, tru_i, tru_l, tru_t, orE_s, orE_n, alt2_e, alt1_e, altN_e, fIx_l, fIx_t, at_0, at_1, at_2, at_3, at_4, at_5, for_n, for_c, lc_n, len_lst, len_tup, kfn_c, kix_c, sSeq_e, sNil_e, sSet_e, sSet2_e, sRet_e, sRetN_e, sDrop_e, sIf_e, sBk_e, sCt_e, sFrz_e, sOwn_e, sFor_e, sUnp_e, eC_e, eOp_e, eUn_e, aNil_e, aCons_e, aApp_e, eFN_e, eCall_e, eMake_e, eCMeth_e, eCallO_e, eLst_e, eTup_e, nLst_e, nLc_e, eLc_e, lSeq_e, lTup_e, eIf_e, eAnd_e, eOr_e, eNot_e, bOf_e, bAnd_e, bOr_e, bNot_e, eFld_e, runB_e, env0_e, oN_e, List.set_cons_zero, List.set_cons_succ, List.map_cons, List.map_nil, List.cons_append, List.nil_append, List.replicate_succ, List.replicate_zero, List.length_cons, List.length_nil, List.getElem?_cons_zero, List.getElem?_cons_succ, reduceIte, if_true, if_false, Bool.false_eq_true, arN_t, decide_true, decide_false, isNon, Bool.not_true, Bool.not_false, Bool.true_and, Bool.false_and, Bool.and_true, Bool.and_false, bYes_e, lstMax_e, Nat.reduceAdd, Nat.reduceSub, Nat.reduceLeDiff, Int.reduceLT, Int.reduceLE, Int.reduceEq, String.reduceEq, and_self, decide_eq_true_eq, and_true, true_and, cPos_e, cDiv_e, fMod_i, fDiv_i, Int.reduceMod, Int.reduceDiv, Int.reduceSub, Int.reduceAdd, Int.reducePow, kOf_i, fsOf_i, fOwn_k, fOwn1_k, gFld_k, methO_e, methK_s, methA_s, ownK_s, ownK_n, ownK_m, own1K_s, own1K_n, fldK_s, sApp_e, appK_s, sOSub_e, osubK_s, eOIx_e, oixK_s, eOLen_e, olenK_s, ixN_p, Int.reduceToNat, Nat.reduceLT, oS_e, eSl_e, eSlT_e, kSet_e, kSet2_e, kDrop_e, kIf_t, kIf_f, kOwn_e, kApp_e, kOsub1_e, kOsub2_e, osK_s, kOix_e, ixK_s, kFor_e, kUnp_e, unpK_s, kOp1_e, kOp2_e, kUn_e, kC1_e, kC2_e, kA1_e, kA2_e, kFN_e, kCall_e, kMake_e, kCM_e, kMeth_e, kLst_e, lstK_s, kTup_e, tupK_s, kNl_e, nlK_s, nList_e, kNli_e, nliK_s, lOf_l, lOf_t, kNc1_e, kNc2_e, kLc1_e, kLc2_e, kSeq_e, kTpl_e, kEIf_t, kEIf_f, kEAnd_t, kEAnd_f, kEOr_t, kEOr_f, kENot_e, kB_e, kBAnd_t, kBAnd_f, kBOr_t, kBOr_f, kBNot_e, kOS_e, kSl1_e, kSl2_e, kSl3_e, kSt1_e, kSt2_e, kSt3_e, eMeth_e, kMe_e, lc_c, kL1_e, kL2_e, kT_t, kT_f, Int.cast_ofNat_Int, Int.natCast_zero, Int.natCast_one, lRng1_e, kRng_1, kRng_2, kRng_3, kRng_4, kRng_5, kRng_6, List.length_map, arS_0, sEr_e, sTryAs_e, tryK_nx, tryK_rt, tryK_er, afterO_rt, afterO_nx, eXf_e, xfS_s, xfK_s, plain_n, plain_e, List.all_cons, List.all_nil, eq_self, sTryN_e, tryN_nx, tryN_rt, tryN_h, tryN_t, dflI_e, dflF_e, not_false_eq_true, eMethK_e, kMK_e, kMK2_e, eProp_e, kPr_e, eNotO_e, kNotO_e, notK_s, g_check_band, m_check_band, d1, d2, kEr_e k]
theorem does_bad {f : FN} {i : Int} (h : bigI i) (w : Bool) (G : GS) : g_Film_does [.d f.D, .d (.int i), .d (.bl w)] G = .er "InvalidBand" [.int i] G := by
  have c := ck_bad h G
  simp -implicitDefEqProofs only [bind_ok, bind_er, bindN_ok, ofE_ok, ofE_er, seqO_nx, seqO_rt, seqO_er, seqO_bk, seqO_ct, loopO_nx, loopO_ct, loopO_bk, loopO_rt, loopO_er, lift_s, retO_rt, retO_nx, retO_er, mkO_ok, mkO_er, toOpt_ok, eVar_z, eVar_s, oL_z, oL_s, frz_z, frz_s, wipe_n, wipe_c, datas_n, datas_c, map_s, bind_s, setA_n, setA_c, p2_d, p1_d, pN_d, fEq_i, fEq_s, fEq_b, fEq_ii, fNe_i, fNe_s, fNe_b, fSub_i, fAdd_i, fAnd_i, fOr_i, fXor_i, fLt_i, fLe_i, fGt_i, fGe_i, fIs_d, fIsNot_d, fIsB_b, isB_b, tru_b, tru_i, tru_l, tru_t, orE_s, orE_n, alt2_e, alt1_e, altN_e, fIx_l, fIx_t, at_0, at_1, at_2, at_3, at_4, at_5, for_n, for_c, lc_n, len_lst, len_tup, kfn_c, kix_c, sSeq_e, sNil_e, sSet_e, sSet2_e, sRet_e, sRetN_e, sDrop_e, sIf_e, sBk_e, sCt_e, sFrz_e, sOwn_e, sFor_e, sUnp_e, eC_e, eOp_e, eUn_e, aNil_e, aCons_e, aApp_e, eFN_e, eCall_e, eMake_e, eCMeth_e, eCallO_e, eLst_e, eTup_e, nLst_e, nLc_e, eLc_e, lSeq_e, lTup_e, eIf_e, eAnd_e, eOr_e, eNot_e, bOf_e, bAnd_e, bOr_e, bNot_e, eFld_e, runB_e, env0_e, oN_e, List.set_cons_zero, List.set_cons_succ, List.map_cons, List.map_nil, List.cons_append, List.nil_append, List.replicate_succ, List.replicate_zero, List.length_cons, List.length_nil, List.getElem?_cons_zero, List.getElem?_cons_succ, reduceIte, if_true, if_false, Bool.false_eq_true, arN_t, decide_true, decide_false, isNon, Bool.not_true, Bool.not_false, Bool.true_and, Bool.false_and, Bool.and_true, Bool.and_false, bYes_e, lstMax_e, Nat.reduceAdd, Nat.reduceSub, Nat.reduceLeDiff, Int.reduceLT, Int.reduceLE, Int.reduceEq, String.reduceEq, and_self, decide_eq_true_eq, and_true, true_and, cPos_e, cDiv_e, fMod_i, fDiv_i, Int.reduceMod, Int.reduceDiv, Int.reduceSub, Int.reduceAdd, Int.reducePow, kOf_i, fsOf_i, fOwn_k, fOwn1_k, gFld_k, methO_e, methK_s, methA_s, ownK_s, ownK_n, ownK_m, own1K_s, own1K_n, fldK_s, sApp_e, appK_s, sOSub_e, osubK_s, eOIx_e, oixK_s, eOLen_e, olenK_s, ixN_p, Int.reduceToNat, Nat.reduceLT, oS_e, eSl_e, eSlT_e, kSet_e, kSet2_e, kDrop_e, kIf_t, kIf_f, kOwn_e, kApp_e, kOsub1_e, kOsub2_e, osK_s, kOix_e, ixK_s, kFor_e, kUnp_e, unpK_s, kOp1_e, kOp2_e, kUn_e, kC1_e, kC2_e, kA1_e, kA2_e, kFN_e, kCall_e, kMake_e, kCM_e, kMeth_e, kLst_e, lstK_s, kTup_e, tupK_s, kNl_e, nlK_s, nList_e, kNli_e, nliK_s, lOf_l, lOf_t, kNc1_e, kNc2_e, kLc1_e, kLc2_e, kSeq_e, kTpl_e, kEIf_t, kEIf_f, kEAnd_t, kEAnd_f, kEOr_t, kEOr_f, kENot_e, kB_e, kBAnd_t, kBAnd_f, kBOr_t, kBOr_f, kBNot_e, kOS_e, kSl1_e, kSl2_e, kSl3_e, kSt1_e, kSt2_e, kSt3_e, eMeth_e, kMe_e, lc_c, kL1_e, kL2_e, kT_t, kT_f, Int.cast_ofNat_Int, Int.natCast_zero, Int.natCast_one, lRng1_e, kRng_1, kRng_2, kRng_3, kRng_4, kRng_5, kRng_6, List.length_map, arS_0, sEr_e, sTryAs_e, tryK_nx, tryK_rt, tryK_er, afterO_rt, afterO_nx, eXf_e, xfS_s, xfK_s, plain_n, plain_e, List.all_cons, List.all_nil, eq_self, sTryN_e, tryN_nx, tryN_rt, tryN_h, tryN_t, dflI_e, dflF_e, not_false_eq_true, eMethK_e, kMK_e, kMK2_e, eProp_e, kPr_e, eNotO_e, kNotO_e, notK_s, g_Film_does, m_Film_does, c]
theorem int_ok (i : Int) (G : GS) : g__law_int [.d (.int i), .d (.int i)] G = .ok (.d (.bl true)) G := by
  have i1 : gIsi TB [.int i, .ty "int"] = some (.bl true) := by kernel_rfl
  have i2 : gIsi TB [.int i, .ty "bool"] = some (.bl false) := by kernel_rfl
  simp -implicitDefEqProofs only [bind_ok, bind_er, bindN_ok, ofE_ok, ofE_er, seqO_nx, seqO_rt, seqO_er, seqO_bk, seqO_ct, loopO_nx, loopO_ct, loopO_bk, loopO_rt, loopO_er, lift_s, retO_rt, retO_nx, retO_er, mkO_ok, mkO_er, toOpt_ok, eVar_z, eVar_s, oL_z, oL_s, frz_z, frz_s, wipe_n, wipe_c, datas_n, datas_c, map_s, bind_s, setA_n, setA_c, p2_d, p1_d, pN_d, fEq_i, fEq_s, fEq_b, fEq_ii, fNe_i, fNe_s, fNe_b, fSub_i, fAdd_i, fAnd_i, fOr_i, fXor_i, fLt_i, fLe_i, fGt_i, fGe_i, fIs_d, fIsNot_d, fIsB_b, isB_b, tru_b, tru_i, tru_l, tru_t, orE_s, orE_n, alt2_e, alt1_e, altN_e, fIx_l, fIx_t, at_0, at_1, at_2, at_3, at_4, at_5, for_n, for_c, lc_n, len_lst, len_tup, kfn_c, kix_c, sSeq_e, sNil_e, sSet_e, sSet2_e, sRet_e, sRetN_e, sDrop_e, sIf_e, sBk_e, sCt_e, sFrz_e, sOwn_e, sFor_e, sUnp_e, eC_e, eOp_e, eUn_e, aNil_e, aCons_e, aApp_e, eFN_e, eCall_e, eMake_e, eCMeth_e, eCallO_e, eLst_e, eTup_e, nLst_e, nLc_e, eLc_e, lSeq_e, lTup_e, eIf_e, eAnd_e, eOr_e, eNot_e, bOf_e, bAnd_e, bOr_e, bNot_e, eFld_e, runB_e, env0_e, oN_e, List.set_cons_zero, List.set_cons_succ, List.map_cons, List.map_nil, List.cons_append, List.nil_append, List.replicate_succ, List.replicate_zero, List.length_cons, List.length_nil, List.getElem?_cons_zero, List.getElem?_cons_succ, reduceIte, if_true, if_false, Bool.false_eq_true, arN_t, decide_true, decide_false, isNon, Bool.not_true, Bool.not_false, Bool.true_and, Bool.false_and, Bool.and_true, Bool.and_false, bYes_e, lstMax_e, Nat.reduceAdd, Nat.reduceSub, Nat.reduceLeDiff, Int.reduceLT, Int.reduceLE, Int.reduceEq, String.reduceEq, and_self, decide_eq_true_eq, and_true, true_and, cPos_e, cDiv_e, fMod_i, fDiv_i, Int.reduceMod, Int.reduceDiv, Int.reduceSub, Int.reduceAdd, Int.reducePow, kOf_i, fsOf_i, fOwn_k, fOwn1_k, gFld_k, methO_e, methK_s, methA_s, ownK_s, ownK_n, ownK_m, own1K_s, own1K_n, fldK_s, sApp_e, appK_s, sOSub_e, osubK_s, eOIx_e, oixK_s, eOLen_e, olenK_s, ixN_p, Int.reduceToNat, Nat.reduceLT, oS_e, eSl_e, eSlT_e, kSet_e, kSet2_e, kDrop_e, kIf_t, kIf_f, kOwn_e, kApp_e, kOsub1_e, kOsub2_e, osK_s, kOix_e, ixK_s, kFor_e, kUnp_e, unpK_s, kOp1_e, kOp2_e, kUn_e, kC1_e, kC2_e, kA1_e, kA2_e, kFN_e, kCall_e, kMake_e, kCM_e, kMeth_e, kLst_e, lstK_s, kTup_e, tupK_s, kNl_e, nlK_s, nList_e, kNli_e, nliK_s, lOf_l, lOf_t, kNc1_e, kNc2_e, kLc1_e, kLc2_e, kSeq_e, kTpl_e, kEIf_t, kEIf_f, kEAnd_t, kEAnd_f, kEOr_t, kEOr_f, kENot_e, kB_e, kBAnd_t, kBAnd_f, kBOr_t, kBOr_f, kBNot_e, kOS_e, kSl1_e, kSl2_e, kSl3_e, kSt1_e, kSt2_e, kSt3_e, eMeth_e, kMe_e, lc_c, kL1_e, kL2_e, kT_t, kT_f, Int.cast_ofNat_Int, Int.natCast_zero, Int.natCast_one, lRng1_e, kRng_1, kRng_2, kRng_3, kRng_4, kRng_5, kRng_6, List.length_map, arS_0, sEr_e, sTryAs_e, tryK_nx, tryK_rt, tryK_er, afterO_rt, afterO_nx, eXf_e, xfS_s, xfK_s, plain_n, plain_e, List.all_cons, List.all_nil, eq_self, sTryN_e, tryN_nx, tryN_rt, tryN_h, tryN_t, dflI_e, dflF_e, not_false_eq_true, eMethK_e, kMK_e, kMK2_e, eProp_e, kPr_e, eNotO_e, kNotO_e, notK_s, g__law_int, m__law_int, fIsi, i1, i2]
theorem is_bn (w : Bool) (G : GS) : fIs (.d (.bl w)) (.d .non) G = some (.d (.bl false), G) := rfl
theorem is_nn (G : GS) : fIs (.d .non) (.d .non) G = some (.d (.bl true), G) := rfl
theorem ref_w {f : FN} {i : Int} (h : bigI i) (w : Bool) (G : GS) : g__law_refused [.d f.D, .d (.int i), .d (.bl w)] G = .ok (.d (.bl true)) G := by
  have d := does_bad (f := f) h w G
  have e := int_ok i G
  simp -implicitDefEqProofs only [bind_ok, bind_er, bindN_ok, ofE_ok, ofE_er, seqO_nx, seqO_rt, seqO_er, seqO_bk, seqO_ct, loopO_nx, loopO_ct, loopO_bk, loopO_rt, loopO_er, lift_s, retO_rt, retO_nx, retO_er, mkO_ok, mkO_er, toOpt_ok, eVar_z, eVar_s, oL_z, oL_s, frz_z, frz_s, wipe_n, wipe_c, datas_n, datas_c, map_s, bind_s, setA_n, setA_c, p2_d, p1_d, pN_d, fEq_i, fEq_s, fEq_b, fEq_ii, fNe_i, fNe_s, fNe_b, fSub_i, fAdd_i, fAnd_i, fOr_i, fXor_i, fLt_i, fLe_i, fGt_i, fGe_i, fIs_d, fIsNot_d, fIsB_b, isB_b, tru_b, tru_i, tru_l, tru_t, orE_s, orE_n, alt2_e, alt1_e, altN_e, fIx_l, fIx_t, at_0, at_1, at_2, at_3, at_4, at_5, for_n, for_c, lc_n, len_lst, len_tup, kfn_c, kix_c, sSeq_e, sNil_e, sSet_e, sSet2_e, sRet_e, sRetN_e, sDrop_e, sIf_e, sBk_e, sCt_e, sFrz_e, sOwn_e, sFor_e, sUnp_e, eC_e, eOp_e, eUn_e, aNil_e, aCons_e, aApp_e, eFN_e, eCall_e, eMake_e, eCMeth_e, eCallO_e, eLst_e, eTup_e, nLst_e, nLc_e, eLc_e, lSeq_e, lTup_e, eIf_e, eAnd_e, eOr_e, eNot_e, bOf_e, bAnd_e, bOr_e, bNot_e, eFld_e, runB_e, env0_e, oN_e, List.set_cons_zero, List.set_cons_succ, List.map_cons, List.map_nil, List.cons_append, List.nil_append, List.replicate_succ, List.replicate_zero, List.length_cons, List.length_nil, List.getElem?_cons_zero, List.getElem?_cons_succ, reduceIte, if_true, if_false, Bool.false_eq_true, arN_t, decide_true, decide_false, isNon, Bool.not_true, Bool.not_false, Bool.true_and, Bool.false_and, Bool.and_true, Bool.and_false, bYes_e, lstMax_e, Nat.reduceAdd, Nat.reduceSub, Nat.reduceLeDiff, Int.reduceLT, Int.reduceLE, Int.reduceEq, String.reduceEq, and_self, decide_eq_true_eq, and_true, true_and, cPos_e, cDiv_e, fMod_i, fDiv_i, Int.reduceMod, Int.reduceDiv, Int.reduceSub, Int.reduceAdd, Int.reducePow, kOf_i, fsOf_i, fOwn_k, fOwn1_k, gFld_k, methO_e, methK_s, methA_s, ownK_s, ownK_n, ownK_m, own1K_s, own1K_n, fldK_s, sApp_e, appK_s, sOSub_e, osubK_s, eOIx_e, oixK_s, eOLen_e, olenK_s, ixN_p, Int.reduceToNat, Nat.reduceLT, oS_e, eSl_e, eSlT_e, kSet_e, kSet2_e, kDrop_e, kIf_t, kIf_f, kOwn_e, kApp_e, kOsub1_e, kOsub2_e, osK_s, kOix_e, ixK_s, kFor_e, kUnp_e, unpK_s, kOp1_e, kOp2_e, kUn_e, kC1_e, kC2_e, kA1_e, kA2_e, kFN_e, kCall_e, kMake_e, kCM_e, kMeth_e, kLst_e, lstK_s, kTup_e, tupK_s, kNl_e, nlK_s, nList_e, kNli_e, nliK_s, lOf_l, lOf_t, kNc1_e, kNc2_e, kLc1_e, kLc2_e, kSeq_e, kTpl_e, kEIf_t, kEIf_f, kEAnd_t, kEAnd_f, kEOr_t, kEOr_f, kENot_e, kB_e, kBAnd_t, kBAnd_f, kBOr_t, kBOr_f, kBNot_e, kOS_e, kSl1_e, kSl2_e, kSl3_e, kSt1_e, kSt2_e, kSt3_e, eMeth_e, kMe_e, lc_c, kL1_e, kL2_e, kT_t, kT_f, Int.cast_ofNat_Int, Int.natCast_zero, Int.natCast_one, lRng1_e, kRng_1, kRng_2, kRng_3, kRng_4, kRng_5, kRng_6, List.length_map, arS_0, sEr_e, sTryAs_e, tryK_nx, tryK_rt, tryK_er, afterO_rt, afterO_nx, eXf_e, xfS_s, xfK_s, plain_n, plain_e, List.all_cons, List.all_nil, eq_self, sTryN_e, tryN_nx, tryN_rt, tryN_h, tryN_t, dflI_e, dflF_e, not_false_eq_true, eMethK_e, kMK_e, kMK2_e, eProp_e, kPr_e, eNotO_e, kNotO_e, notK_s, g__law_refused, m__law_refused, is_bn, f_k, d, e]
theorem ref_n {f : FN} {i : Int} (h : bigI i) (G : GS) : g__law_refused [.d f.D, .d (.int i), .d .non] G = .ok (.d (.bl true)) G := by
  have d := does_bad (f := f) h false G
  have e := int_ok i G
  simp -implicitDefEqProofs only [bind_ok, bind_er, bindN_ok, ofE_ok, ofE_er, seqO_nx, seqO_rt, seqO_er, seqO_bk, seqO_ct, loopO_nx, loopO_ct, loopO_bk, loopO_rt, loopO_er, lift_s, retO_rt, retO_nx, retO_er, mkO_ok, mkO_er, toOpt_ok, eVar_z, eVar_s, oL_z, oL_s, frz_z, frz_s, wipe_n, wipe_c, datas_n, datas_c, map_s, bind_s, setA_n, setA_c, p2_d, p1_d, pN_d, fEq_i, fEq_s, fEq_b, fEq_ii, fNe_i, fNe_s, fNe_b, fSub_i, fAdd_i, fAnd_i, fOr_i, fXor_i, fLt_i, fLe_i, fGt_i, fGe_i, fIs_d, fIsNot_d, fIsB_b, isB_b, tru_b, tru_i, tru_l, tru_t, orE_s, orE_n, alt2_e, alt1_e, altN_e, fIx_l, fIx_t, at_0, at_1, at_2, at_3, at_4, at_5, for_n, for_c, lc_n, len_lst, len_tup, kfn_c, kix_c, sSeq_e, sNil_e, sSet_e, sSet2_e, sRet_e, sRetN_e, sDrop_e, sIf_e, sBk_e, sCt_e, sFrz_e, sOwn_e, sFor_e, sUnp_e, eC_e, eOp_e, eUn_e, aNil_e, aCons_e, aApp_e, eFN_e, eCall_e, eMake_e, eCMeth_e, eCallO_e, eLst_e, eTup_e, nLst_e, nLc_e, eLc_e, lSeq_e, lTup_e, eIf_e, eAnd_e, eOr_e, eNot_e, bOf_e, bAnd_e, bOr_e, bNot_e, eFld_e, runB_e, env0_e, oN_e, List.set_cons_zero, List.set_cons_succ, List.map_cons, List.map_nil, List.cons_append, List.nil_append, List.replicate_succ, List.replicate_zero, List.length_cons, List.length_nil, List.getElem?_cons_zero, List.getElem?_cons_succ, reduceIte, if_true, if_false, Bool.false_eq_true, arN_t, decide_true, decide_false, isNon, Bool.not_true, Bool.not_false, Bool.true_and, Bool.false_and, Bool.and_true, Bool.and_false, bYes_e, lstMax_e, Nat.reduceAdd, Nat.reduceSub, Nat.reduceLeDiff, Int.reduceLT, Int.reduceLE, Int.reduceEq, String.reduceEq, and_self, decide_eq_true_eq, and_true, true_and, cPos_e, cDiv_e, fMod_i, fDiv_i, Int.reduceMod, Int.reduceDiv, Int.reduceSub, Int.reduceAdd, Int.reducePow, kOf_i, fsOf_i, fOwn_k, fOwn1_k, gFld_k, methO_e, methK_s, methA_s, ownK_s, ownK_n, ownK_m, own1K_s, own1K_n, fldK_s, sApp_e, appK_s, sOSub_e, osubK_s, eOIx_e, oixK_s, eOLen_e, olenK_s, ixN_p, Int.reduceToNat, Nat.reduceLT, oS_e, eSl_e, eSlT_e, kSet_e, kSet2_e, kDrop_e, kIf_t, kIf_f, kOwn_e, kApp_e, kOsub1_e, kOsub2_e, osK_s, kOix_e, ixK_s, kFor_e, kUnp_e, unpK_s, kOp1_e, kOp2_e, kUn_e, kC1_e, kC2_e, kA1_e, kA2_e, kFN_e, kCall_e, kMake_e, kCM_e, kMeth_e, kLst_e, lstK_s, kTup_e, tupK_s, kNl_e, nlK_s, nList_e, kNli_e, nliK_s, lOf_l, lOf_t, kNc1_e, kNc2_e, kLc1_e, kLc2_e, kSeq_e, kTpl_e, kEIf_t, kEIf_f, kEAnd_t, kEAnd_f, kEOr_t, kEOr_f, kENot_e, kB_e, kBAnd_t, kBAnd_f, kBOr_t, kBOr_f, kBNot_e, kOS_e, kSl1_e, kSl2_e, kSl3_e, kSt1_e, kSt2_e, kSt3_e, eMeth_e, kMe_e, lc_c, kL1_e, kL2_e, kT_t, kT_f, Int.cast_ofNat_Int, Int.natCast_zero, Int.natCast_one, lRng1_e, kRng_1, kRng_2, kRng_3, kRng_4, kRng_5, kRng_6, List.length_map, arS_0, sEr_e, sTryAs_e, tryK_nx, tryK_rt, tryK_er, afterO_rt, afterO_nx, eXf_e, xfS_s, xfK_s, plain_n, plain_e, List.all_cons, List.all_nil, eq_self, sTryN_e, tryN_nx, tryN_rt, tryN_h, tryN_t, dflI_e, dflF_e, not_false_eq_true, eMethK_e, kMK_e, kMK2_e, eProp_e, kPr_e, eNotO_e, kNotO_e, notK_s, g__law_refused, m__law_refused, is_nn, f_k, d, e, dflF_e]
/-! ### the loop over the bands -/
def lBody : SM := sSeq (sIf (bNot (bOf truE (eCall (arN 2) g__law_same_text (aCons (eMeth [("Film", ((arN 2 : Ar), (dflF [.bl false] g_Film_does)))] (eVar 4) (aCons (eVar 10) (aNil))) (aCons (eCall (arN 2) g__law_does (aCons (eOp fIx (eVar 8) (eC (.int 0))) (aCons (eVar 10) (aNil)))) (aNil)))))) (sRet (eC (.bl false))) (sNil)) (sSeq (sIf (bNot (bOf truE (eCall (arN 2) g__law_same_text (aCons (eMethK "Film" (arN 3) g_Film_does (eVar 4) (aApp 1 1 (aCons (eVar 10) (aNil)) (aCons (eC (.bl true)) (aNil)))) (aCons (eCall (arN 2) g__law_does (aCons (eOp fIx (eVar 8) (eC (.int 1))) (aCons (eVar 10) (aNil)))) (aNil)))))) (sRet (eC (.bl false))) (sNil)) (sIf (bNot (bOf truE (eCall (arN 2) g__law_same_text (aCons (eMethK "Film" (arN 3) g_Film_does (eVar 4) (aApp 1 1 (aCons (eVar 10) (aNil)) (aCons (eC (.bl false)) (aNil)))) (aCons (eCall (arN 2) g__law_does (aCons (eOp fIx (eVar 8) (eC (.int 0))) (aCons (eVar 10) (aNil)))) (aNil)))))) (sRet (eC (.bl false))) (sNil)))
theorem body_ok {f : FN} (h : f.Ok) {b : Nat} (hb : b < 6) (s0 s1 s2 s3 s5 s6 s7 s9 s11 : Sl) (G : GS) :
    lBody [s0, s1, s2, s3, .ev (.d f.D), s5, s6, s7, .ev (.d (.lst [efD f.o f.n f.m, efD f.o2 f.n2 true])), s9, .ev (.d (.int (b : Nat))), s11] G = .nx [s0, s1, s2, s3, .ev (.d f.D), s5, s6, s7, .ev (.d (.lst [efD f.o f.n f.m, efD f.o2 f.n2 true])), s9, .ev (.d (.int (b : Nat))), s11] G := by
  have d1 := does_ok h hb false G
  have d2 := does_ok h hb true G
  have l1 := ldoes_ok (m := f.m) h.o h.n hb G
  have l2 := ldoes_ok (m := true) h.o2 h.n2 hb G
  rw [if_neg (by decide), if_neg (by decide)] at d1
  rw [if_pos rfl, if_pos rfl] at d2
  have t1 := text_ok (doS f.o f.n b) G
  have t2 := text_ok (doS f.o2 f.n2 b) G
  simp -implicitDefEqProofs only [bind_ok, bind_er, bindN_ok, ofE_ok, ofE_er, seqO_nx, seqO_rt, seqO_er, seqO_bk, seqO_ct, loopO_nx, loopO_ct, loopO_bk, loopO_rt, loopO_er, lift_s, retO_rt, retO_nx, retO_er, mkO_ok, mkO_er, toOpt_ok, eVar_z, eVar_s, oL_z, oL_s, frz_z, frz_s, wipe_n, wipe_c, datas_n, datas_c, map_s, bind_s, setA_n, setA_c, p2_d, p1_d, pN_d, fEq_i, fEq_s, fEq_b, fEq_ii, fNe_i, fNe_s, fNe_b, fSub_i, fAdd_i, fAnd_i, fOr_i, fXor_i, fLt_i, fLe_i, fGt_i, fGe_i, fIs_d, fIsNot_d, fIsB_b, isB_b, tru_b, tru_i, tru_l, tru_t, orE_s, orE_n, alt2_e, alt1_e, altN_e, fIx_l, fIx_t, at_0, at_1, at_2, at_3, at_4, at_5, for_n, for_c, lc_n, len_lst, len_tup, kfn_c, kix_c, sSeq_e, sNil_e, sSet_e, sSet2_e, sRet_e, sRetN_e, sDrop_e, sIf_e, sBk_e, sCt_e, sFrz_e, sOwn_e, sFor_e, sUnp_e, eC_e, eOp_e, eUn_e, aNil_e, aCons_e, aApp_e, eFN_e, eCall_e, eMake_e, eCMeth_e, eCallO_e, eLst_e, eTup_e, nLst_e, nLc_e, eLc_e, lSeq_e, lTup_e, eIf_e, eAnd_e, eOr_e, eNot_e, bOf_e, bAnd_e, bOr_e, bNot_e, eFld_e, runB_e, env0_e, oN_e, List.set_cons_zero, List.set_cons_succ, List.map_cons, List.map_nil, List.cons_append, List.nil_append, List.replicate_succ, List.replicate_zero, List.length_cons, List.length_nil, List.getElem?_cons_zero, List.getElem?_cons_succ, reduceIte, if_true, if_false, Bool.false_eq_true, arN_t, decide_true, decide_false, isNon, Bool.not_true, Bool.not_false, Bool.true_and, Bool.false_and, Bool.and_true, Bool.and_false, bYes_e, lstMax_e, Nat.reduceAdd, Nat.reduceSub, Nat.reduceLeDiff, Int.reduceLT, Int.reduceLE, Int.reduceEq, String.reduceEq, and_self, decide_eq_true_eq, and_true, true_and, cPos_e, cDiv_e, fMod_i, fDiv_i, Int.reduceMod, Int.reduceDiv, Int.reduceSub, Int.reduceAdd, Int.reducePow, kOf_i, fsOf_i, fOwn_k, fOwn1_k, gFld_k, methO_e, methK_s, methA_s, ownK_s, ownK_n, ownK_m, own1K_s, own1K_n, fldK_s, sApp_e, appK_s, sOSub_e, osubK_s, eOIx_e, oixK_s, eOLen_e, olenK_s, ixN_p, Int.reduceToNat, Nat.reduceLT, oS_e, eSl_e, eSlT_e, kSet_e, kSet2_e, kDrop_e, kIf_t, kIf_f, kOwn_e, kApp_e, kOsub1_e, kOsub2_e, osK_s, kOix_e, ixK_s, kFor_e, kUnp_e, unpK_s, kOp1_e, kOp2_e, kUn_e, kC1_e, kC2_e, kA1_e, kA2_e, kFN_e, kCall_e, kMake_e, kCM_e, kMeth_e, kLst_e, lstK_s, kTup_e, tupK_s, kNl_e, nlK_s, nList_e, kNli_e, nliK_s, lOf_l, lOf_t, kNc1_e, kNc2_e, kLc1_e, kLc2_e, kSeq_e, kTpl_e, kEIf_t, kEIf_f, kEAnd_t, kEAnd_f, kEOr_t, kEOr_f, kENot_e, kB_e, kBAnd_t, kBAnd_f, kBOr_t, kBOr_f, kBNot_e, kOS_e, kSl1_e, kSl2_e, kSl3_e, kSt1_e, kSt2_e, kSt3_e, eMeth_e, kMe_e, lc_c, kL1_e, kL2_e, kT_t, kT_f, Int.cast_ofNat_Int, Int.natCast_zero, Int.natCast_one, lRng1_e, kRng_1, kRng_2, kRng_3, kRng_4, kRng_5, kRng_6, List.length_map, arS_0, sEr_e, sTryAs_e, tryK_nx, tryK_rt, tryK_er, afterO_rt, afterO_nx, eXf_e, xfS_s, xfK_s, plain_n, plain_e, List.all_cons, List.all_nil, eq_self, sTryN_e, tryN_nx, tryN_rt, tryN_h, tryN_t, dflI_e, dflF_e, not_false_eq_true, eMethK_e, kMK_e, kMK2_e, eProp_e, kPr_e, eNotO_e, kNotO_e, notK_s, lBody, f_k, d1, d2, l1, l2, t1, t2]
theorem loop_ok {f : FN} (h : f.Ok) (s0 s1 s2 s3 s5 s6 s7 s9 s11 : Sl) (G : GS) : ∀ (bs : List Nat) (s10 : Sl), (∀ b ∈ bs, b < 6) → ∃ s10', forL 10 lBody (bs.map fun b : Nat => DL.D.int (b : Nat)) [s0, s1, s2, s3, .ev (.d f.D), s5, s6, s7, .ev (.d (.lst [efD f.o f.n f.m, efD f.o2 f.n2 true])), s9, s10, s11] G = .nx [s0, s1, s2, s3, .ev (.d f.D), s5, s6, s7, .ev (.d (.lst [efD f.o f.n f.m, efD f.o2 f.n2 true])), s9, s10', s11] G
  | [], s10, _ => ⟨s10, rfl⟩
  | b :: bs, s10, hb => by
    obtain ⟨s10', e⟩ := loop_ok h s0 s1 s2 s3 s5 s6 s7 s9 s11 G bs (.ev (.d (.int (b : Nat)))) fun c hc => hb c (List.mem_cons_of_mem _ hc)
    refine ⟨s10', Eq.trans ?_ e⟩
    show loopO (lBody ([s0, s1, s2, s3, .ev (.d f.D), s5, s6, s7, .ev (.d (.lst [efD f.o f.n f.m, efD f.o2 f.n2 true])), s9, .ev (.d (.int (b : Nat))), s11] : En) G) (forL 10 lBody (bs.map fun b : Nat => DL.D.int (b : Nat))) = _
    rw [body_ok h (hb b (List.mem_cons_self ..))]
    rfl
/-! ### the law -/
noncomputable def lTail : SM := sSeq (sSet 4 (eCall (arN 1) g__law_sum (aCons (eVar 2) (aNil)))) (sSeq (sSet 5 (eCall (arN 1) g__law_sum (aCons (eVar 3) (aNil)))) (sSeq (sSet 6 (eCall (arN 2) g__law_film (aCons (eVar 2) (aCons (eLst (aNil)) (aNil))))) (sSeq (sSet 7 (eOp (alt2 (fEq) (fEqO NT_Film "Film" (arN 2) g_Film___eq__)) (eVar 6) (eCall (arN 2) g__law_film (aCons (eVar 3) (aCons (eLst (aNil)) (aNil)))))) (sSeq (sIf (bOr (bNot (bOf truE (eCall (arN 2) g__law_is (aCons (eOp (alt2 (fEq) (fEqO NT_Film "Film" (arN 2) g_Film___eq__)) (eVar 4) (eVar 5)) (aCons (eVar 7) (aNil)))))) (bOr (bNot (bOf truE (eCall (arN 2) g__law_is (aCons (eOp (alt2 (fEq) (fEqO NT_Film "Film" (arN 2) g_Film___eq__)) (eVar 5) (eVar 4)) (aCons (eVar 7) (aNil)))))) (bNot (bOf truE (eCall (arN 2) g__law_is (aCons (eOp (alt2 (fEq) (fEqO NT_Film "Film" (arN 2) g_Film___eq__)) (eVar 4) (eVar 6)) (aCons (eC (.bl false)) (aNil)))))))) (sRet (eC (.bl false))) (sNil)) (sSeq (sSet 8 (eLst (aCons (eCall (arN 2) g__law_effect (aCons (eVar 6) (aCons (eC (.int 0)) (aNil)))) (aCons (eCall (arN 2) g__law_effect (aCons (eVar 6) (aCons (eC (.int 2)) (aNil)))) (aNil))))) (sSeq (sSet 9 (eAnd (eOp (alt2 (fEq) (fEqO NT_Film "Film" (arN 2) g_Film___eq__)) (eOp fIx (eVar 8) (eC (.int 0))) (eTup (aCons (eC (.int 0)) (aCons (eC (.int 0)) (aCons (eC (.bl false)) (aNil)))))) (eOp (alt2 (fEq) (fEqO NT_Film "Film" (arN 2) g_Film___eq__)) (eOp fIx (eVar 8) (eC (.int 1))) (eTup (aCons (eC (.int 0)) (aCons (eC (.int 0)) (aCons (eC (.bl true)) (aNil)))))))) (sSeq (sIf (bNot (bOf truE (eCall (arN 2) g__law_is (aCons (eProp "Film" (arN 1) g_Film_idle (eVar 4)) (aCons (eVar 9) (aNil)))))) (sRet (eC (.bl false))) (sNil)) (sSeq (sIf (bOr (bNot (bOf truE (eCall (arN 2) g__law_same_effect (aCons (eFld [("Film", 0)] (eVar 4)) (aCons (eOp fIx (eVar 8) (eC (.int 0))) (aNil)))))) (bNot (bOf truE (eCall (arN 2) g__law_same_effect (aCons (eFld [("Film", 1)] (eVar 4)) (aCons (eOp fIx (eVar 8) (eC (.int 1))) (aNil))))))) (sRet (eC (.bl false))) (sNil)) (sSeq (sFor 10 (lRng1 (aCons (eC (.int 6)) (aNil))) (sSeq (sIf (bNot (bOf truE (eCall (arN 2) g__law_same_text (aCons (eMeth [("Film", ((arN 2 : Ar), (dflF [.bl false] g_Film_does)))] (eVar 4) (aCons (eVar 10) (aNil))) (aCons (eCall (arN 2) g__law_does (aCons (eOp fIx (eVar 8) (eC (.int 0))) (aCons (eVar 10) (aNil)))) (aNil)))))) (sRet (eC (.bl false))) (sNil)) (sSeq (sIf (bNot (bOf truE (eCall (arN 2) g__law_same_text (aCons (eMethK "Film" (arN 3) g_Film_does (eVar 4) (aApp 1 1 (aCons (eVar 10) (aNil)) (aCons (eC (.bl true)) (aNil)))) (aCons (eCall (arN 2) g__law_does (aCons (eOp fIx (eVar 8) (eC (.int 1))) (aCons (eVar 10) (aNil)))) (aNil)))))) (sRet (eC (.bl false))) (sNil)) (sIf (bNot (bOf truE (eCall (arN 2) g__law_same_text (aCons (eMethK "Film" (arN 3) g_Film_does (eVar 4) (aApp 1 1 (aCons (eVar 10) (aNil)) (aCons (eC (.bl false)) (aNil)))) (aCons (eCall (arN 2) g__law_does (aCons (eOp fIx (eVar 8) (eC (.int 0))) (aCons (eVar 10) (aNil)))) (aNil)))))) (sRet (eC (.bl false))) (sNil))))) (sSeq (sSet 11 (eOp fIx (eLst (aCons (eUn fNeg (eC (.int 1))) (aCons (eC (.int 6)) (aCons (eOp (fSub) (eUn fNeg (eC (.int 2))) (eCall (arN 2) g__law_draw (aCons (eVar 1) (aCons (eOp (fPow) (eC (.int 10)) (eC (.int 20))) (aNil))))) (aCons (eOp (fAdd) (eC (.int 7)) (eCall (arN 2) g__law_draw (aCons (eVar 1) (aCons (eOp (fPow) (eC (.int 10)) (eC (.int 20))) (aNil))))) (aNil)))))) (eCall (arN 2) g__law_draw (aCons (eVar 1) (aCons (eC (.int 4)) (aNil)))))) (sRet (eAnd (eCall (arN 3) g__law_refused (aCons (eVar 4) (aCons (eVar 11) (aCons (eC (.bl false)) (aNil))))) (eAnd (eCall (arN 3) g__law_refused (aCons (eVar 5) (aCons (eVar 11) (aCons (eC (.bl true)) (aNil))))) (eCall (arN 3) g__law_refused (aCons (eVar 4) (aCons (eVar 11) (aCons (eC .non) (aNil))))))))))))))))))
theorem log_small {n : Nat} (h : n < 2 ^ 200) : n.log2 < 1920 := by
  by_cases h0 : n = 0
  · subst h0; decide
  · have := (Nat.log2_lt h0 (k := 200)).mpr h
    omega
theorem tail_ok (xs ys : List One) (hx : ∀ x ∈ xs, x.Ok) (hy : ∀ y ∈ ys, y.Ok) (mx : ∀ x ∈ xs, x.mask = none) (my : ∀ y ∈ ys, y.mask = none) (s0 : EV) (b : Bx) :
    ∃ G', lTail [.ev s0, .ev (.o 1), .ev (.d (.lst (xs.map One.D))), .ev (.d (.lst (ys.map One.D))), .no, .no, .no, .no, .no, .no, .no, .no] (bS b) = .rt (.d (.bl true)) G' := by
  have fo := fold_ok xs FN.zero zero_ok hx
  have go := fold_ok ys FN.zero zero_ok hy
  have e1 := fun G => sum_gen xs hx G
  have e2 := fun G => sum_gen ys hy G
  have e3 := fun G => film_x xs hx mx G
  have e4 := fun G => film_x ys hy my G
  change FN.Ok (foldF xs) at fo
  change FN.Ok (foldF ys) at go
  generalize foldF xs = f at fo e1 e3
  generalize foldF ys = g at go e2 e4
  have q1 := feq_gen f g
  have q2 := feq_gen g f
  have q3 := feq_l f f
  have n1 := feq_none f g
  have n2 := feq_none g f
  have n3 := feq_nl f f
  have sq := seq_gen fo go
  rw [eqB_comm] at q2
  have is1 := is_ok (eqB f g)
  have is2 := is_ok false
  have f0 := ef0 fo
  have f2 := ef2 fo
  have b1 := eq_bare f.o f.n f.m false
  have b2 := eq_bare f.o2 f.n2 true true
  rw [beq0, beq0] at b1 b2
  have id := idle_ok fo
  have is3 := is_ok (idB f)
  have ei : ((decide (f.o = 0) && (decide (f.n = 0) && ((f.m == false) && true))) && (decide (f.o2 = 0) && (decide (f.n2 = 0) && ((true == true) && true)))) = idB f := by
    unfold idB
    cases f.m <;> cases decide (f.o = 0) <;> cases decide (f.n = 0) <;> cases decide (f.o2 = 0) <;> cases decide (f.n2 = 0) <;> rfl
  have s1 := fun G => se_ok (m := f.m) fo.o fo.n G
  have s2 := fun G => se_ok (m := true) fo.o2 fo.n2 G
  obtain ⟨v1, c1, d1, h1⟩ := draw_b b 100000000000000000000 (by decide) (by decide)
  obtain ⟨v2, c2, d2, h2⟩ := draw_b c1 100000000000000000000 (by decide) (by decide)
  obtain ⟨v3, c3, d3, h3⟩ := draw_s c2 4 (by decide) (by decide)
  obtain ⟨i, hi, ai⟩ : ∃ i : Int, bigI i ∧ L2.atI [DL.D.int (-1), .int 6, .int (-2 - (v1 : Nat)), .int (7 + (v2 : Nat))] ((v3 : Nat) : Int) = some (.int i) := by
    have hb : (2 : Nat) ^ 200 = 1606938044258990275541962092341162602522202993782792835301376 := by decide
    have c : v3 = 0 ∨ v3 = 1 ∨ v3 = 2 ∨ v3 = 3 := by omega
    rcases c with rfl | rfl | rfl | rfl
    · exact ⟨_, ⟨.inl (by decide), by decide⟩, rfl⟩
    · exact ⟨_, ⟨.inr (by decide), by decide⟩, rfl⟩
    · exact ⟨_, ⟨.inl (by omega), log_small (by omega)⟩, rfl⟩
    · exact ⟨_, ⟨.inr (by omega), log_small (by omega)⟩, rfl⟩
  have r1 := fun G => ref_w (f := f) hi false G
  have r2 := fun G => ref_w (f := g) hi true G
  have r3 := fun G => ref_n (f := f) hi G
  have ng : ∀ (i : Int) (G : GS), fNeg (.d (.int i)) G = some (.d (.int (-i)), G) := fun _ _ => rfl
  have pw : ∀ G : GS, fPow (.d (.int 10)) (.d (.int 20)) G = some (.d (.int 100000000000000000000), G) := fun _ => by kernel_rfl
  generalize (decide (f.o = 0) && (decide (f.n = 0) && ((f.m == false) && true))) = p at b1 ei
  generalize (decide (f.o2 = 0) && (decide (f.n2 = 0) && ((true == true) && true))) = q at b2 ei
  obtain ⟨s10, lp⟩ := loop_ok fo (.ev s0) (.ev (.o 1)) (.ev (.d (.lst (xs.map One.D)))) (.ev (.d (.lst (ys.map One.D)))) (.ev (.d g.D)) (.ev (.d (sD f))) (.ev (.d (.bl (eqB f g)))) (.ev (.d (.bl (idB f)))) .no (bS b) [0, 1, 2, 3, 4, 5] .no (by decide)
  unfold lBody at lp
  rw [← ei] at id is3 lp
  change forL 10 _ [DL.D.int 0, .int 1, .int 2, .int 3, .int 4, .int 5] _ _ = _ at lp
  refine ⟨bS c3, ?_⟩
  cases p <;> cases q <;> simp only [Bool.true_and, Bool.false_and, Bool.and_true, Bool.and_false] at id is3 lp <;>
    simp -implicitDefEqProofs only [bind_ok, bind_er, bindN_ok, ofE_ok, ofE_er, seqO_nx, seqO_rt, seqO_er, seqO_bk, seqO_ct, loopO_nx, loopO_ct, loopO_bk, loopO_rt, loopO_er, lift_s, retO_rt, retO_nx, retO_er, mkO_ok, mkO_er, toOpt_ok, eVar_z, eVar_s, oL_z, oL_s, frz_z, frz_s, wipe_n, wipe_c, datas_n, datas_c, map_s, bind_s, setA_n, setA_c, p2_d, p1_d, pN_d, fEq_i, fEq_s, fEq_b, fEq_ii, fNe_i, fNe_s, fNe_b, fSub_i, fAdd_i, fAnd_i, fOr_i, fXor_i, fLt_i, fLe_i, fGt_i, fGe_i, fIs_d, fIsNot_d, fIsB_b, isB_b, tru_b, tru_i, tru_l, tru_t, orE_s, orE_n, alt2_e, alt1_e, altN_e, fIx_l, fIx_t, at_0, at_1, at_2, at_3, at_4, at_5, for_n, for_c, lc_n, len_lst, len_tup, kfn_c, kix_c, sSeq_e, sNil_e, sSet_e, sSet2_e, sRet_e, sRetN_e, sDrop_e, sIf_e, sBk_e, sCt_e, sFrz_e, sOwn_e, sFor_e, sUnp_e, eC_e, eOp_e, eUn_e, aNil_e, aCons_e, aApp_e, eFN_e, eCall_e, eMake_e, eCMeth_e, eCallO_e, eLst_e, eTup_e, nLst_e, nLc_e, eLc_e, lSeq_e, lTup_e, eIf_e, eAnd_e, eOr_e, eNot_e, bOf_e, bAnd_e, bOr_e, bNot_e, eFld_e, runB_e, env0_e, oN_e, List.set_cons_zero, List.set_cons_succ, List.map_cons, List.map_nil, List.cons_append, List.nil_append, List.replicate_succ, List.replicate_zero, List.length_cons, List.length_nil, List.getElem?_cons_zero, List.getElem?_cons_succ, reduceIte, if_true, if_false, Bool.false_eq_true, arN_t, decide_true, decide_false, isNon, Bool.not_true, Bool.not_false, Bool.true_and, Bool.false_and, Bool.and_true, Bool.and_false, bYes_e, lstMax_e, Nat.reduceAdd, Nat.reduceSub, Nat.reduceLeDiff, Int.reduceLT, Int.reduceLE, Int.reduceEq, String.reduceEq, and_self, decide_eq_true_eq, and_true, true_and, cPos_e, cDiv_e, fMod_i, fDiv_i, Int.reduceMod, Int.reduceDiv, Int.reduceSub, Int.reduceAdd, Int.reducePow, kOf_i, fsOf_i, fOwn_k, fOwn1_k, gFld_k, methO_e, methK_s, methA_s, ownK_s, ownK_n, ownK_m, own1K_s, own1K_n, fldK_s, sApp_e, appK_s, sOSub_e, osubK_s, eOIx_e, oixK_s, eOLen_e, olenK_s, ixN_p, Int.reduceToNat, Nat.reduceLT, oS_e, eSl_e, eSlT_e, kSet_e, kSet2_e, kDrop_e, kIf_t, kIf_f, kOwn_e, kApp_e, kOsub1_e, kOsub2_e, osK_s, kOix_e, ixK_s, kFor_e, kUnp_e, unpK_s, kOp1_e, kOp2_e, kUn_e, kC1_e, kC2_e, kA1_e, kA2_e, kFN_e, kCall_e, kMake_e, kCM_e, kMeth_e, kLst_e, lstK_s, kTup_e, tupK_s, kNl_e, nlK_s, nList_e, kNli_e, nliK_s, lOf_l, lOf_t, kNc1_e, kNc2_e, kLc1_e, kLc2_e, kSeq_e, kTpl_e, kEIf_t, kEIf_f, kEAnd_t, kEAnd_f, kEOr_t, kEOr_f, kENot_e, kB_e, kBAnd_t, kBAnd_f, kBOr_t, kBOr_f, kBNot_e, kOS_e, kSl1_e, kSl2_e, kSl3_e, kSt1_e, kSt2_e, kSt3_e, eMeth_e, kMe_e, lc_c, kL1_e, kL2_e, kT_t, kT_f, Int.cast_ofNat_Int, Int.natCast_zero, Int.natCast_one, lRng1_e, kRng_1, kRng_2, kRng_3, kRng_4, kRng_5, kRng_6, List.length_map, arS_0, sEr_e, sTryAs_e, tryK_nx, tryK_rt, tryK_er, afterO_rt, afterO_nx, eXf_e, xfS_s, xfK_s, plain_n, plain_e, List.all_cons, List.all_nil, eq_self, sTryN_e, tryN_nx, tryN_rt, tryN_h, tryN_t, dflI_e, dflF_e, not_false_eq_true, eMethK_e, kMK_e, kMK2_e, eProp_e, kPr_e, eNotO_e, kNotO_e, notK_s, lTail, e1, e2, e3, e4, n1, n2, n3, q1, q2, q3, sq, is1, is2, f0, f2, b1, b2, id, is3, f_k, f_fs, s1, s2, ↓lp, ng, pw, d1, d2, d3, ai, r1, r2, r3]
theorem math (ns : List Int) (h : ns.length ≤ 63) : ∃ G', g_law [scr ns] [] = .ok (.d (.bl true)) G' := by
  have hbox := box_ok ns h
  have e0 : bS (ns, 0, 1) = bx ns 0 1 := rfl
  obtain ⟨xs, b1, xl, xo, e1⟩ := drawn_gen [] (by decide) 3 (by decide) true false (ns, 0, 1)
  rw [e0, List.map_nil] at e1
  obtain ⟨ys, b2, yl, yo, e2⟩ := near_gen [] (by decide) true xs xo (by omega) b1
  rw [List.map_nil] at e2
  have nm : ∀ y : One, y.Of [] true false → y.mask = none := fun y hy => by
    cases e : y.mask with
    | none => rfl
    | some s => exact absurd (hy.m s e) (by simp)
  obtain ⟨G', t⟩ := tail_ok xs ys (fun x hx => (xo x hx).ok) (fun y hy => (yo y hy).ok) (fun x hx => nm x (xo x hx)) (fun y hy => nm y (yo y hy)) (scr ns) b2
  unfold lTail at t
  change g__law_drawn [.o 1, .d (.lst []), .d (.int 3), .d (.bl true), .d (.bl false)] _ = _ at e1
  exact ⟨G', by simp -implicitDefEqProofs only [bind_ok, bind_er, bindN_ok, ofE_ok, ofE_er, seqO_nx, seqO_rt, seqO_er, seqO_bk, seqO_ct, loopO_nx, loopO_ct, loopO_bk, loopO_rt, loopO_er, lift_s, retO_rt, retO_nx, retO_er, mkO_ok, mkO_er, toOpt_ok, eVar_z, eVar_s, oL_z, oL_s, frz_z, frz_s, wipe_n, wipe_c, datas_n, datas_c, map_s, bind_s, setA_n, setA_c, p2_d, p1_d, pN_d, fEq_i, fEq_s, fEq_b, fEq_ii, fNe_i, fNe_s, fNe_b, fSub_i, fAdd_i, fAnd_i, fOr_i, fXor_i, fLt_i, fLe_i, fGt_i, fGe_i, fIs_d, fIsNot_d, fIsB_b, isB_b, tru_b, tru_i, tru_l, tru_t, orE_s, orE_n, alt2_e, alt1_e, altN_e, fIx_l, fIx_t, at_0, at_1, at_2, at_3, at_4, at_5, for_n, for_c, lc_n, len_lst, len_tup, kfn_c, kix_c, sSeq_e, sNil_e, sSet_e, sSet2_e, sRet_e, sRetN_e, sDrop_e, sIf_e, sBk_e, sCt_e, sFrz_e, sOwn_e, sFor_e, sUnp_e, eC_e, eOp_e, eUn_e, aNil_e, aCons_e, aApp_e, eFN_e, eCall_e, eMake_e, eCMeth_e, eCallO_e, eLst_e, eTup_e, nLst_e, nLc_e, eLc_e, lSeq_e, lTup_e, eIf_e, eAnd_e, eOr_e, eNot_e, bOf_e, bAnd_e, bOr_e, bNot_e, eFld_e, runB_e, env0_e, oN_e, List.set_cons_zero, List.set_cons_succ, List.map_cons, List.map_nil, List.cons_append, List.nil_append, List.replicate_succ, List.replicate_zero, List.length_cons, List.length_nil, List.getElem?_cons_zero, List.getElem?_cons_succ, reduceIte, if_true, if_false, Bool.false_eq_true, arN_t, decide_true, decide_false, isNon, Bool.not_true, Bool.not_false, Bool.true_and, Bool.false_and, Bool.and_true, Bool.and_false, bYes_e, lstMax_e, Nat.reduceAdd, Nat.reduceSub, Nat.reduceLeDiff, Int.reduceLT, Int.reduceLE, Int.reduceEq, String.reduceEq, and_self, decide_eq_true_eq, and_true, true_and, cPos_e, cDiv_e, fMod_i, fDiv_i, Int.reduceMod, Int.reduceDiv, Int.reduceSub, Int.reduceAdd, Int.reducePow, kOf_i, fsOf_i, fOwn_k, fOwn1_k, gFld_k, methO_e, methK_s, methA_s, ownK_s, ownK_n, ownK_m, own1K_s, own1K_n, fldK_s, sApp_e, appK_s, sOSub_e, osubK_s, eOIx_e, oixK_s, eOLen_e, olenK_s, ixN_p, Int.reduceToNat, Nat.reduceLT, oS_e, eSl_e, eSlT_e, kSet_e, kSet2_e, kDrop_e, kIf_t, kIf_f, kOwn_e, kApp_e, kOsub1_e, kOsub2_e, osK_s, kOix_e, ixK_s, kFor_e, kUnp_e, unpK_s, kOp1_e, kOp2_e, kUn_e, kC1_e, kC2_e, kA1_e, kA2_e, kFN_e, kCall_e, kMake_e, kCM_e, kMeth_e, kLst_e, lstK_s, kTup_e, tupK_s, kNl_e, nlK_s, nList_e, kNli_e, nliK_s, lOf_l, lOf_t, kNc1_e, kNc2_e, kLc1_e, kLc2_e, kSeq_e, kTpl_e, kEIf_t, kEIf_f, kEAnd_t, kEAnd_f, kEOr_t, kEOr_f, kENot_e, kB_e, kBAnd_t, kBAnd_f, kBOr_t, kBOr_f, kBNot_e, kOS_e, kSl1_e, kSl2_e, kSl3_e, kSt1_e, kSt2_e, kSt3_e, eMeth_e, kMe_e, lc_c, kL1_e, kL2_e, kT_t, kT_f, Int.cast_ofNat_Int, Int.natCast_zero, Int.natCast_one, lRng1_e, kRng_1, kRng_2, kRng_3, kRng_4, kRng_5, kRng_6, List.length_map, arS_0, sEr_e, sTryAs_e, tryK_nx, tryK_rt, tryK_er, afterO_rt, afterO_nx, eXf_e, xfS_s, xfK_s, plain_n, plain_e, List.all_cons, List.all_nil, eq_self, sTryN_e, tryN_nx, tryN_rt, tryN_h, tryN_t, dflI_e, dflF_e, not_false_eq_true, eMethK_e, kMK_e, kMK2_e, eProp_e, kPr_e, eNotO_e, kNotO_e, notK_s, g_law, m_law, hbox, e1, e2, ↓t]⟩
end K07

open PySem PySem.W PyProof.Rows
set_option maxRecDepth 100000 in
set_option maxHeartbeats 0 in
theorem PySem.Challenge.cw_laidink_k07_film_questions_holds : PySem.Challenge.rw_laidink_k07_film_questions.Holds := by
  w_on; o_law; k_head; (case hw => w_witness2)
  k_fill
  refine DL.walk (k := 13) (x := "_law_script") (l := PySem.Challenge.rw_laidink_k07_film_questions) rfl rfl ⟨rfl, by decide, by decide⟩ (fun w h Y => PySem.W.kIn_of Y) ?F
  case F =>
    intro w mg fa h KX G hmg
    refine' K07.all_mk KX G hmg ?aC_Bleach ?aC_Film ?aC_Filter ?aC_Ink ?aC_InvalidBand ?aC_Light ?aC_Opaque ?a__law_box ?l__law_box ?c__law_box ?k__law_box ?a__law_draw ?l__law_draw ?c__law_draw ?k__law_draw ?a__law_light ?l__law_light ?c__law_light ?k__law_light ?a__law_one ?l__law_one ?c__law_one ?k__law_one ?a__law_drawn ?l__law_drawn ?c__law_drawn ?k__law_drawn ?a__law_near ?l__law_near ?c__law_near ?k__law_near ?a_check_band ?l_check_band ?c_check_band ?k_check_band ?a__bands_of ?l__bands_of ?c__bands_of ?k__bands_of ?a_Light___init__ ?i_Light___init__ ?l_Light___init__ ?c_Light___init__ ?k_Light___init__ ?a_Film___init__ ?i_Film___init__ ?l_Film___init__ ?c_Film___init__ ?k_Film___init__ ?a_Film_nothing ?r1_Film_nothing ?i_Film_nothing ?l_Film_nothing ?c_Film_nothing ?k_Film_nothing ?a__effect_for ?l__effect_for ?c__effect_for ?k__effect_for ?a__light ?l__light ?c__light ?k__light ?a_Light___or__ ?i_Light___or__ ?l_Light___or__ ?c_Light___or__ ?k_Light___or__ ?a_Light___sub__ ?i_Light___sub__ ?l_Light___sub__ ?c_Light___sub__ ?k_Light___sub__ ?a__followed ?l__followed ?c__followed ?k__followed ?a_Film___add__ ?i_Film___add__ ?l_Film___add__ ?c_Film___add__ ?k_Film___add__ ?a_Ink_film ?i_Ink_film ?l_Ink_film ?c_Ink_film ?k_Ink_film ?a_Light___and__ ?i_Light___and__ ?l_Light___and__ ?c_Light___and__ ?k_Light___and__ ?a_Light___bool__ ?i_Light___bool__ ?l_Light___bool__ ?c_Light___bool__ ?k_Light___bool__ ?a_Ink___init__ ?i_Ink___init__ ?l_Ink___init__ ?c_Ink___init__ ?k_Ink___init__ ?a_Light_numbered ?r1_Light_numbered ?i_Light_numbered ?l_Light_numbered ?c_Light_numbered ?k_Light_numbered ?a_Light___invert__ ?i_Light___invert__ ?l_Light___invert__ ?c_Light___invert__ ?k_Light___invert__ ?a__law_ink ?l__law_ink ?c__law_ink ?k__law_ink ?a__law_sum ?l__law_sum ?c__law_sum ?k__law_sum ?a__law_active ?l__law_active ?c__law_active ?k__law_active ?a__law_step ?l__law_step ?c__law_step ?k__law_step ?a__law_print ?l__law_print ?c__law_print ?k__law_print ?a__law_film ?l__law_film ?c__law_film ?k__law_film ?a_Light___eq__ ?i_Light___eq__ ?l_Light___eq__ ?c_Light___eq__ ?k_Light___eq__ ?a_Film___eq__ ?i_Film___eq__ ?l_Film___eq__ ?c_Film___eq__ ?k_Film___eq__ ?a__law_is ?l__law_is ?c__law_is ?k__law_is ?a__law_effect ?l__law_effect ?c__law_effect ?k__law_effect ?a__writes_nothing ?l__writes_nothing ?c__writes_nothing ?k__writes_nothing ?a_Film_idle ?pg_Film_idle ?pt_Film_idle ?r1_Film_idle ?l_Film_idle ?c_Film_idle ?k_Film_idle ?a__law_bands ?l__law_bands ?c__law_bands ?k__law_bands ?a__law_int ?l__law_int ?c__law_int ?k__law_int ?a__law_same_light ?l__law_same_light ?c__law_same_light ?k__law_same_light ?a__law_same_effect ?l__law_same_effect ?c__law_same_effect ?k__law_same_effect ?a__law_same_text ?l__law_same_text ?c__law_same_text ?k__law_same_text ?a__law_does ?l__law_does ?c__law_does ?k__law_does ?a_Light___contains__ ?i_Light___contains__ ?l_Light___contains__ ?c_Light___contains__ ?k_Light___contains__ ?a_Film_does ?i_Film_does ?l_Film_does ?kd_Film_does_inked ?c_Film_does ?k_Film_does ?a__law_refused ?l__law_refused ?c__law_refused ?k__law_refused ?a_law ?l_law ?c_law ?k_law ?pg_Bleach ?hd_Bleach ?po_Bleach ?sa_Bleach ?pg_Film ?hd_Film ?po_Film ?sa_Film ?pg_Filter ?hd_Filter ?po_Filter ?sa_Filter ?pg_Ink ?hd_Ink ?po_Ink ?sa_Ink ?pg_Light ?hd_Light ?po_Light ?sa_Light ?pg_Opaque ?hd_Opaque ?po_Opaque ?sa_Opaque ?n_Bleach_off ?n_Bleach_on ?n_Bleach_takes ?n_Film_bare ?n_Film_inked ?n_Filter_off ?n_Filter_on ?n_Filter_takes ?n_Ink_off ?n_Ink_on ?n_Ink_takes ?n_Light_bands ?n_Light_number ?n_Opaque_off ?n_Opaque_on ?n_Opaque_takes ?a_Filter___init__ ?i_Filter___init__ ?a_Bleach___init__ ?i_Bleach___init__ ?a_Opaque___init__ ?i_Opaque___init__ ?mk_Bleach ?kc_Bleach ?mk_Film ?kc_Film ?mk_Filter ?kc_Filter ?mk_Ink ?kc_Ink ?mk_Light ?kc_Light ?mk_Opaque ?kc_Opaque ?am_Bleach_film ?am_Filter_film ?am_Opaque_film ?rd_Film ?ga_Film ?rd_Ink ?ga_Ink ?rd_Light ?ga_Light ?v_Light_BANDS ?v_Ink_TAKES ?lt_Ink_TAKES ?co_LIGHTS ?sf_Film ?sf_Light ?nf_Film_own_Film ?nf_Film_ty_list ?ica_Film ?icm_Film ?ica_Light ?icm_Light ?ikn ?ikt ?it_own_Light_own_Light ?it_own_Film_own_Film ?it_ty_list_own_Film ?it_ty_tuple_ty_tuple ?it_ty_int_ty_int ?it_ty_int_ty_bool ?it_ty_bool_ty_bool ?it_ty_str_ty_str ?no_all ?no_bool ?no_int ?no_isinstance ?no_len ?no_list ?no_range ?no_str ?no_super ?no_tuple ?a_InvalidBand___init__ ?l_InvalidBand___init__ ?c_InvalidBand___init__ ?lc_InvalidBand___init__ ?vf_InvalidBand___init__ ?pf_InvalidBand___init__ ?ce_InvalidBand___init__ ?topS ?hst ?ex_InvalidBand___init__ ?rv_InvalidBand___init__ ?sa_InvalidBand___init__ ?xc_InvalidBand___init__ ?tc_InvalidBand___init__ ?kc_InvalidBand___init__ ?tf_InvalidBand___init__ ?si_InvalidBand___init__ ?su_InvalidBand___init__ ?hn_InvalidBand___init__ ?xg_InvalidBand___init__ ?xh_InvalidBand___init__ ?xd_InvalidBand___init__ ?l_Filter___init__ ?c_Filter___init__ ?lc_Filter___init__ ?vf_Filter___init__ ?pf_Filter___init__ ?ce_Filter___init__ ?si_Filter___init__ ?su_Filter___init__ ?t2_Ink___init__ ?fi_Ink___init__ ?ik_Filter___init__ ?l_Bleach___init__ ?c_Bleach___init__ ?lc_Bleach___init__ ?vf_Bleach___init__ ?pf_Bleach___init__ ?ce_Bleach___init__ ?si_Bleach___init__ ?su_Bleach___init__ ?ik_Bleach___init__ ?l_Opaque___init__ ?c_Opaque___init__ ?lc_Opaque___init__ ?vf_Opaque___init__ ?pf_Opaque___init__ ?ce_Opaque___init__ ?si_Opaque___init__ ?su_Opaque___init__ ?ik_Opaque___init__ ?xm_InvalidBand_InvalidBand K07.math
    case aC_Bleach => k_is
    case aC_Film => k_is
    case aC_Filter => k_is
    case aC_Ink => k_is
    case aC_InvalidBand => k_is
    case aC_Light => k_is
    case aC_Opaque => k_is
    case a__law_box => k_is
    case l__law_box => k_is
    case c__law_box => k_is
    case k__law_box => k_is
    case a__law_draw => k_is
    case l__law_draw => k_is
    case c__law_draw => k_is
    case k__law_draw => k_is
    case a__law_light => k_is
    case l__law_light => k_is
    case c__law_light => k_is
    case k__law_light => k_is
    case a__law_one => k_is
    case l__law_one => k_is
    case c__law_one => k_is
    case k__law_one => k_is
    case a__law_drawn => k_is
    case l__law_drawn => k_is
    case c__law_drawn => k_is
    case k__law_drawn => k_is
    case a__law_near => k_is
    case l__law_near => k_is
    case c__law_near => k_is
    case k__law_near => k_is
    case a_check_band => k_is
    case l_check_band => k_is
    case c_check_band => k_is
    case k_check_band => k_is
    case a__bands_of => k_is
    case l__bands_of => k_is
    case c__bands_of => k_is
    case k__bands_of => k_is
    case a_Light___init__ => k_is
    case i_Light___init__ => k_is
    case l_Light___init__ => k_is
    case c_Light___init__ => k_is
    case k_Light___init__ => k_is
    case a_Film___init__ => k_is
    case i_Film___init__ => k_is
    case l_Film___init__ => k_is
    case c_Film___init__ => k_is
    case k_Film___init__ => k_is
    case a_Film_nothing => k_is
    case r1_Film_nothing => k_is
    case i_Film_nothing => k_is
    case l_Film_nothing => k_is
    case c_Film_nothing => k_is
    case k_Film_nothing => k_is
    case a__effect_for => k_is
    case l__effect_for => k_is
    case c__effect_for => k_is
    case k__effect_for => k_is
    case a__light => k_is
    case l__light => k_is
    case c__light => k_is
    case k__light => k_is
    case a_Light___or__ => k_is
    case i_Light___or__ => k_is
    case l_Light___or__ => k_is
    case c_Light___or__ => k_is
    case k_Light___or__ => k_is
    case a_Light___sub__ => k_is
    case i_Light___sub__ => k_is
    case l_Light___sub__ => k_is
    case c_Light___sub__ => k_is
    case k_Light___sub__ => k_is
    case a__followed => k_is
    case l__followed => k_is
    case c__followed => k_is
    case k__followed => k_is
    case a_Film___add__ => k_is
    case i_Film___add__ => k_is
    case l_Film___add__ => k_is
    case c_Film___add__ => k_is
    case k_Film___add__ => k_is
    case a_Ink_film => k_is
    case i_Ink_film => k_is
    case l_Ink_film => k_is
    case c_Ink_film => k_is
    case k_Ink_film => k_is
    case a_Light___and__ => k_is
    case i_Light___and__ => k_is
    case l_Light___and__ => k_is
    case c_Light___and__ => k_is
    case k_Light___and__ => k_is
    case a_Light___bool__ => k_is
    case i_Light___bool__ => k_is
    case l_Light___bool__ => k_is
    case c_Light___bool__ => k_is
    case k_Light___bool__ => k_is
    case a_Ink___init__ => k_is
    case i_Ink___init__ => k_is
    case l_Ink___init__ => k_is
    case c_Ink___init__ => k_is
    case k_Ink___init__ => k_is
    case a_Light_numbered => k_is
    case r1_Light_numbered => k_is
    case i_Light_numbered => k_is
    case l_Light_numbered => k_is
    case c_Light_numbered => k_is
    case k_Light_numbered => k_is
    case a_Light___invert__ => k_is
    case i_Light___invert__ => k_is
    case l_Light___invert__ => k_is
    case c_Light___invert__ => k_is
    case k_Light___invert__ => k_is
    case a__law_ink => k_is
    case l__law_ink => k_is
    case c__law_ink => k_is
    case k__law_ink => k_is
    case a__law_sum => k_is
    case l__law_sum => k_is
    case c__law_sum => k_is
    case k__law_sum => k_is
    case a__law_active => k_is
    case l__law_active => k_is
    case c__law_active => k_is
    case k__law_active => k_is
    case a__law_step => k_is
    case l__law_step => k_is
    case c__law_step => k_is
    case k__law_step => k_is
    case a__law_print => k_is
    case l__law_print => k_is
    case c__law_print => k_is
    case k__law_print => k_is
    case a__law_film => k_is
    case l__law_film => k_is
    case c__law_film => k_is
    case k__law_film => k_is
    case a_Light___eq__ => k_is
    case i_Light___eq__ => k_is
    case l_Light___eq__ => k_is
    case c_Light___eq__ => k_is
    case k_Light___eq__ => k_is
    case a_Film___eq__ => k_is
    case i_Film___eq__ => k_is
    case l_Film___eq__ => k_is
    case c_Film___eq__ => k_is
    case k_Film___eq__ => k_is
    case a__law_is => k_is
    case l__law_is => k_is
    case c__law_is => k_is
    case k__law_is => k_is
    case a__law_effect => k_is
    case l__law_effect => k_is
    case c__law_effect => k_is
    case k__law_effect => k_is
    case a__writes_nothing => k_is
    case l__writes_nothing => k_is
    case c__writes_nothing => k_is
    case k__writes_nothing => k_is
    case a_Film_idle => k_is
    case pg_Film_idle => k_is
    case pt_Film_idle => k_is
    case r1_Film_idle => k_is
    case l_Film_idle => k_is
    case c_Film_idle => k_is
    case k_Film_idle => k_is
    case a__law_bands => k_is
    case l__law_bands => k_is
    case c__law_bands => k_is
    case k__law_bands => k_is
    case a__law_int => k_is
    case l__law_int => k_is
    case c__law_int => k_is
    case k__law_int => k_is
    case a__law_same_light => k_is
    case l__law_same_light => k_is
    case c__law_same_light => k_is
    case k__law_same_light => k_is
    case a__law_same_effect => k_is
    case l__law_same_effect => k_is
    case c__law_same_effect => k_is
    case k__law_same_effect => k_is
    case a__law_same_text => k_is
    case l__law_same_text => k_is
    case c__law_same_text => k_is
    case k__law_same_text => k_is
    case a__law_does => k_is
    case l__law_does => k_is
    case c__law_does => k_is
    case k__law_does => k_is
    case a_Light___contains__ => k_is
    case i_Light___contains__ => k_is
    case l_Light___contains__ => k_is
    case c_Light___contains__ => k_is
    case k_Light___contains__ => k_is
    case a_Film_does => k_is
    case i_Film_does => k_is
    case l_Film_does => k_is
    case kd_Film_does_inked => k_is
    case c_Film_does => k_is
    case k_Film_does => k_is
    case a__law_refused => k_is
    case l__law_refused => k_is
    case c__law_refused => k_is
    case k__law_refused => k_is
    case a_law => k_is
    case l_law => k_is
    case c_law => k_is
    case k_law => k_is
    case pg_Bleach => k_is
    case hd_Bleach => k_is
    case po_Bleach => k_is
    case sa_Bleach => k_is
    case pg_Film => k_is
    case hd_Film => k_is
    case po_Film => k_is
    case sa_Film => k_is
    case pg_Filter => k_is
    case hd_Filter => k_is
    case po_Filter => k_is
    case sa_Filter => k_is
    case pg_Ink => k_is
    case hd_Ink => k_is
    case po_Ink => k_is
    case sa_Ink => k_is
    case pg_Light => k_is
    case hd_Light => k_is
    case po_Light => k_is
    case sa_Light => k_is
    case pg_Opaque => k_is
    case hd_Opaque => k_is
    case po_Opaque => k_is
    case sa_Opaque => k_is
    case n_Bleach_off => k_is
    case n_Bleach_on => k_is
    case n_Bleach_takes => k_is
    case n_Film_bare => k_is
    case n_Film_inked => k_is
    case n_Filter_off => k_is
    case n_Filter_on => k_is
    case n_Filter_takes => k_is
    case n_Ink_off => k_is
    case n_Ink_on => k_is
    case n_Ink_takes => k_is
    case n_Light_bands => k_is
    case n_Light_number => k_is
    case n_Opaque_off => k_is
    case n_Opaque_on => k_is
    case n_Opaque_takes => k_is
    case a_Filter___init__ => k_is
    case i_Filter___init__ => k_is
    case a_Bleach___init__ => k_is
    case i_Bleach___init__ => k_is
    case a_Opaque___init__ => k_is
    case i_Opaque___init__ => k_is
    case mk_Bleach => k_is
    case kc_Bleach => k_is
    case mk_Film => k_is
    case kc_Film => k_is
    case mk_Filter => k_is
    case kc_Filter => k_is
    case mk_Ink => k_is
    case kc_Ink => k_is
    case mk_Light => k_is
    case kc_Light => k_is
    case mk_Opaque => k_is
    case kc_Opaque => k_is
    case am_Bleach_film => k_is
    case am_Filter_film => k_is
    case am_Opaque_film => k_is
    case rd_Film => k_is
    case ga_Film => k_is
    case rd_Ink => k_is
    case ga_Ink => k_is
    case rd_Light => k_is
    case ga_Light => k_is
    case v_Light_BANDS => k_is
    case v_Ink_TAKES => k_is
    case lt_Ink_TAKES => k_is
    case co_LIGHTS => k_is
    case sf_Film => k_is
    case sf_Light => k_is
    case nf_Film_own_Film => k_is
    case nf_Film_ty_list => k_is
    case ica_Film => k_is
    case icm_Film => k_is
    case ica_Light => k_is
    case icm_Light => k_is
    case ikn => k_is
    case ikt => k_is
    case it_own_Light_own_Light => kit_is
    case it_own_Film_own_Film => kit_is
    case it_ty_list_own_Film => kit_is
    case it_ty_tuple_ty_tuple => kit_is
    case it_ty_int_ty_int => kit_is
    case it_ty_int_ty_bool => kit_is
    case it_ty_bool_ty_bool => kit_is
    case it_ty_str_ty_str => kit_is
    case no_all => k_is
    case no_bool => k_is
    case no_int => k_is
    case no_isinstance => k_is
    case no_len => k_is
    case no_list => k_is
    case no_range => k_is
    case no_str => k_is
    case no_super => k_is
    case no_tuple => k_is
    case a_InvalidBand___init__ => k_is
    case l_InvalidBand___init__ => k_is
    case c_InvalidBand___init__ => k_is
    case lc_InvalidBand___init__ => k_is
    case vf_InvalidBand___init__ => first | rfl | kernel_rfl
    case pf_InvalidBand___init__ => first | rfl | kernel_rfl
    case ce_InvalidBand___init__ => k_is
    case topS => first | rfl | kernel_rfl
    case hst => k_is
    case ex_InvalidBand___init__ => k_is
    case rv_InvalidBand___init__ => first | rfl | kernel_rfl
    case sa_InvalidBand___init__ => k_is
    case xc_InvalidBand___init__ => k_is
    case tc_InvalidBand___init__ => k_is
    case kc_InvalidBand___init__ => k_is
    case tf_InvalidBand___init__ => k_is
    case si_InvalidBand___init__ => ks_is
    case su_InvalidBand___init__ => k_is
    case hn_InvalidBand___init__ => k_is
    case xg_InvalidBand___init__ => k_is
    case xh_InvalidBand___init__ => k_is
    case xd_InvalidBand___init__ => k_is
    case l_Filter___init__ => k_is
    case c_Filter___init__ => k_is
    case lc_Filter___init__ => k_is
    case vf_Filter___init__ => first | rfl | kernel_rfl
    case pf_Filter___init__ => first | rfl | kernel_rfl
    case ce_Filter___init__ => k_is
    case si_Filter___init__ => ks_is
    case su_Filter___init__ => k_is
    case t2_Ink___init__ => k_is
    case fi_Ink___init__ => k_is
    case ik_Filter___init__ => k_is
    case l_Bleach___init__ => k_is
    case c_Bleach___init__ => k_is
    case lc_Bleach___init__ => k_is
    case vf_Bleach___init__ => first | rfl | kernel_rfl
    case pf_Bleach___init__ => first | rfl | kernel_rfl
    case ce_Bleach___init__ => k_is
    case si_Bleach___init__ => ks_is
    case su_Bleach___init__ => k_is
    case ik_Bleach___init__ => k_is
    case l_Opaque___init__ => k_is
    case c_Opaque___init__ => k_is
    case lc_Opaque___init__ => k_is
    case vf_Opaque___init__ => first | rfl | kernel_rfl
    case pf_Opaque___init__ => first | rfl | kernel_rfl
    case ce_Opaque___init__ => k_is
    case si_Opaque___init__ => ks_is
    case su_Opaque___init__ => k_is
    case ik_Opaque___init__ => k_is
    case xm_InvalidBand_InvalidBand => kts_exm

