import PyProof.Rows.All
import Wide.All
import OpenK.AllK
import Wide.FinOn
import HandS.ForMost
import HandS.ForExc
import HandS.Lambda
import HandS.HotCalls
import HandS.Star
import HandS.CallSlots
import HandS.Wide
import HandS.IsInst
import HandS.RaiseMore
import HandS.ClsMeth
import HandS.SlotsOwn
import HandS.TupLe
import HandS.FStr
import HandS.Text
import KE.KExcSuper
import HandS.Nested
import HandS.ExcInit
import HandS.ExcCtx
import HandS.ExcField
import KE.KExcIs
import HandS.Flow
import HandS.MakeKwOnly
import HandS.TupAny
import KE.KEqNest
import HandS.BoundList
import KE.KFmtOwn
import PyProof.StrLawsRepr
import HandS.Property
import HandS.Defaults
import HandS.TryMany
import PyProof.Rows.SeqMore
import HandS.Iter
import PyProof.Rows.SortShellAny
import PyProof.Rows.StrMeet
import HandS.SetBool
import HandS.SetKeys
import HandS.SetFor
import KE.GoesEnum
import HandS.TupMul
import PyProof.Rows.StrRev
import HandS.Style
import HandS.Zip
import KE.GoesZip
import KE.RegKSuper
import KE.RegKTryMore
import PySem.Challenge.RW_laidink_k58_shape_made
import PyProof.Rows.StrCountLaw
import PyProof.Rows.StrFoldSign
set_option Elab.async false
set_option linter.all false
set_option maxRecDepth 100000
set_option maxHeartbeats 4000000
/-! Data without addresses over the hand layer: D (trees of plain data), EV (data or a store object), the relation to the abstract heap, and its growth. -/
namespace DL
open PySem L2
inductive D where
  | non | bl (b : Bool) | int (i : Int) | str (x : Str)
  | tup (xs : List D) | lst (xs : List D)
  | ins (c : String) (fs : List D)
  | cls (c : String)
  | ty (n : String)
/-- data, or an object of the store -/
inductive EV where
  | d (x : D) | o (i : Nat)
/-- an object of the store: a list that is written -/
inductive GO where
  | lst (xs : List EV)
  /-- the table of a def's lambdas -/
  | tb (k : String)
abbrev GS := List GO
/-- what a frame alone holds and may still change -/
inductive OW where
  | lst (xs : List D) | ins (c : String) (fs : List D)
inductive Sl where
  | no | ev (e : EV) | own (o : OW) | exn (c : String) (fs : List D)
abbrev En := List Sl
inductive Out (α : Type) where
  | ok (a : α) (g : GS) | er (c : String) (fs : List D) (g : GS) | st
def Out.bind {α β : Type} (o : Out α) (f : α → GS → Out β) : Out β := match o with
  | .ok a g => f a g
  | .er c fs g => .er c fs g
  | .st => .st
abbrev EM := En → GS → Out EV
/-- the frame's constants: the written part, where the classes stand, what the callers may still change -/
structure RC where
  K : PySem.W.Frag
  C : String → Addr
  /-- the fields of a class, in the order in which __init__ stores them -/
  N : String → List Str
  B : Addr → Prop
  /-- the instance that __init__ fills -/
  s : Addr := 0
  /-- the dict of the error that an except suite handles (the error at s) -/
  x : Addr := 0
/-- may be read for ever -/
def Zz (c : RC) (M : Addr → Prop) (ρ : List Addr) (a : Addr) : Prop := ¬ c.B a ∧ ¬ M a ∧ a ∉ ρ
/-- a list, a tuple of the module's own top: what is a sequence though the heap tracks nothing -/
def KL (K : PySem.W.Frag) (a : Addr) (xs : List V) : Prop := SqL K (fun _ => Option.none) a xs
def KT (K : PySem.W.Frag) (a : Addr) (xs : List V) : Prop := SqT K (fun _ => Option.none) a xs
theorem KL.up {K : PySem.W.Frag} {a : Addr} {xs : List V} {H : Hp} (h : KL K a xs) : SqL K H a xs := by
  rcases h with h | h
  · rcases h with h | ⟨_, h⟩ <;> cases h
  · exact .inr h
theorem KT.up {K : PySem.W.Frag} {a : Addr} {xs : List V} {H : Hp} (h : KT K a xs) : SqT K H a xs := by
  rcases h with h | h
  · rcases h with h | ⟨_, h⟩ <;> cases h
  · exact .inr h
def ZL (c : RC) (M : Addr → Prop) (ρ : List Addr) (H : Hp) (a : Addr) (xs : List V) : Prop := (Zz c M ρ a ∧ Rd H a (.lst xs)) ∨ KL c.K a xs
def ZT (c : RC) (M : Addr → Prop) (ρ : List Addr) (H : Hp) (a : Addr) (xs : List V) : Prop := (Zz c M ρ a ∧ Rd H a (.tup xs)) ∨ KT c.K a xs
theorem ZL.sq {c : RC} {M : Addr → Prop} {ρ : List Addr} {H : Hp} {a : Addr} {xs : List V} (h : ZL c M ρ H a xs) : SqL c.K H a xs := h.elim (fun z => .inl z.2) KL.up
theorem ZT.sq {c : RC} {M : Addr → Prop} {ρ : List Addr} {H : Hp} {a : Addr} {xs : List V} (h : ZT c M ρ H a xs) : SqT c.K H a xs := h.elim (fun z => .inl z.2) KT.up
inductive All2 {α β : Type} (R : α → β → Prop) : List α → List β → Prop
  | nil : All2 R [] []
  | cons {a b as bs} : R a b → All2 R as bs → All2 R (a :: as) (b :: bs)
theorem All2.imp {α β : Type} {R S : α → β → Prop} (h : ∀ a b, R a b → S a b) : ∀ {as : List α} {bs : List β}, All2 R as bs → All2 S as bs
  | _, _, .nil => .nil
  | _, _, .cons r t => .cons (h _ _ r) (All2.imp h t)
theorem All2.length {α β : Type} {R : α → β → Prop} : ∀ {as : List α} {bs : List β}, All2 R as bs → as.length = bs.length
  | _, _, .nil => rfl
  | _, _, .cons _ t => by simp [All2.length t]
theorem All2.append {α β : Type} {R : α → β → Prop} : ∀ {as as' : List α} {bs bs' : List β}, All2 R as bs → All2 R as' bs' → All2 R (as ++ as') (bs ++ bs')
  | _, _, _, _, .nil, s => s
  | _, _, _, _, .cons r t, s => .cons r (All2.append t s)
theorem All2.get {α β : Type} {R : α → β → Prop} : ∀ {as : List α} {bs : List β} {i : Nat} {a : α}, All2 R as bs → as[i]? = some a → ∃ b, bs[i]? = some b ∧ R a b
  | _, _, _, _, .nil, e => by simp at e
  | _, _, 0, _, .cons r _, e => by simp at e; subst e; exact ⟨_, rfl, r⟩
  | _, _, i + 1, a, .cons _ t, e => by
    obtain ⟨b, h1, h2⟩ := All2.get (i := i) (a := a) t (by simpa using e)
    exact ⟨b, by simpa using h1, h2⟩
theorem All2.set {α β : Type} {R : α → β → Prop} {a : α} {b : β} (r : R a b) : ∀ {as : List α} {bs : List β} (i : Nat), All2 R as bs → All2 R (as.set i a) (bs.set i b)
  | _, _, _, .nil => .nil
  | _, _, 0, .cons _ t => .cons r t
  | _, _, i + 1, .cons q t => .cons q (All2.set r i t)
/-- d stands for v, to the depth n -/
def RepN (c : RC) (M : Addr → Prop) (ρ : List Addr) (H : Hp) : Nat → D → V → Prop
  | _, .non, v => v = .non
  | _, .bl b, v => v = .bl b
  | _, .int i, v => v = .int i
  | _, .str x, v => v = .str x
  | _, .cls k, v => v = .ref (c.C k)
  | _, .ty k, v => v = .ty k
  | n + 1, .tup xs, v => ∃ a vs, v = .ref a ∧ ZT c M ρ H a vs ∧ All2 (RepN c M ρ H n) xs vs
  | n + 1, .lst xs, v => ∃ a vs, v = .ref a ∧ ZL c M ρ H a vs ∧ All2 (RepN c M ρ H n) xs vs
  | n + 1, .ins k fs, v => ∃ a dx gs, v = .ref a ∧ Zz c M ρ a ∧ H a = some (.ins (c.C k) dx gs) ∧ gs.map (·.1) = (c.N k).take gs.length ∧ All2 (fun (p : D) (q : Str × V) => RepN c M ρ H n p q.2) fs gs
  | 0, _, _ => False
theorem RepN.up {c : RC} {M : Addr → Prop} {ρ : List Addr} {H : Hp} : ∀ {n : Nat} {d : D} {v : V}, RepN c M ρ H n d v → RepN c M ρ H (n + 1) d v := by
  intro n
  induction n with
  | zero =>
    intro d v h
    cases d <;> first | exact h | (exact absurd h (by simp [RepN]))
  | succ n ih =>
    intro d v h
    cases d with
    | tup xs => obtain ⟨a, vs, e, z, r⟩ := h; exact ⟨a, vs, e, z, r.imp fun _ _ q => ih q⟩
    | lst xs => obtain ⟨a, vs, e, z, r⟩ := h; exact ⟨a, vs, e, z, r.imp fun _ _ q => ih q⟩
    | ins k fs => obtain ⟨a, dx, gs, e, z, e2, nm, r⟩ := h; exact ⟨a, dx, gs, e, z, e2, nm, r.imp fun _ _ q => ih q⟩
    | _ => exact h
theorem RepN.mono {c : RC} {M : Addr → Prop} {ρ : List Addr} {H : Hp} {n m : Nat} {d : D} {v : V} (h : RepN c M ρ H n d v) (hn : n ≤ m) : RepN c M ρ H m d v := by
  induction hn with
  | refl => exact h
  | step _ ih => exact ih.up
def Rep (c : RC) (M : Addr → Prop) (ρ : List Addr) (H : Hp) (d : D) (v : V) : Prop := ∃ n, RepN c M ρ H n d v
theorem reps_n {c : RC} {M : Addr → Prop} {ρ : List Addr} {H : Hp} : ∀ {xs : List D} {vs : List V}, All2 (Rep c M ρ H) xs vs → ∃ n, All2 (RepN c M ρ H n) xs vs
  | _, _, .nil => ⟨0, .nil⟩
  | _, _, .cons ⟨n, r⟩ t => by
    obtain ⟨m, q⟩ := reps_n t
    exact ⟨max n m, .cons (r.mono (Nat.le_max_left n m)) (q.imp fun _ _ z => z.mono (Nat.le_max_right n m))⟩
structure Flds (c : RC) (M : Addr → Prop) (ρ : List Addr) (H : Hp) (k : String) (fs : List D) (gs : List (Str × V)) : Prop where
  nm : gs.map (·.1) = (c.N k).take gs.length
  r : All2 (fun (p : D) (q : Str × V) => Rep c M ρ H p q.2) fs gs
theorem flds_n {c : RC} {M : Addr → Prop} {ρ : List Addr} {H : Hp} : ∀ {fs : List D} {gs : List (Str × V)}, All2 (fun (p : D) (q : Str × V) => Rep c M ρ H p q.2) fs gs → ∃ n, All2 (fun (p : D) (q : Str × V) => RepN c M ρ H n p q.2) fs gs
  | _, _, .nil => ⟨0, .nil⟩
  | _, _, .cons ⟨n, r⟩ t => by
    obtain ⟨m, q⟩ := flds_n t
    exact ⟨max n m, .cons (r.mono (Nat.le_max_left n m)) (q.imp fun _ _ z => z.mono (Nat.le_max_right n m))⟩
section
variable {c : RC} {M : Addr → Prop} {ρ : List Addr} {H : Hp} {v : V}
theorem Rep.non : Rep c M ρ H .non .non := ⟨0, rfl⟩
theorem Rep.bl {b} : Rep c M ρ H (.bl b) (.bl b) := ⟨0, rfl⟩
theorem Rep.int {b} : Rep c M ρ H (.int b) (.int b) := ⟨0, rfl⟩
theorem Rep.str {b} : Rep c M ρ H (.str b) (.str b) := ⟨0, rfl⟩
theorem Rep.ty {k} : Rep c M ρ H (.ty k) (.ty k) := ⟨0, rfl⟩
theorem Rep.of_ty {b} (h : Rep c M ρ H (.ty b) v) : v = .ty b := by obtain ⟨n, h⟩ := h; cases n <;> exact h
theorem Rep.cls {k} : Rep c M ρ H (.cls k) (.ref (c.C k)) := ⟨0, rfl⟩
theorem Rep.tup {xs a vs} (z : ZT c M ρ H a vs) (r : All2 (Rep c M ρ H) xs vs) : Rep c M ρ H (.tup xs) (.ref a) := let ⟨n, q⟩ := reps_n r; ⟨n + 1, a, vs, rfl, z, q⟩
theorem Rep.lst {xs a vs} (z : ZL c M ρ H a vs) (r : All2 (Rep c M ρ H) xs vs) : Rep c M ρ H (.lst xs) (.ref a) := let ⟨n, q⟩ := reps_n r; ⟨n + 1, a, vs, rfl, z, q⟩
theorem Rep.ins {k fs a dx gs} (z : Zz c M ρ a) (e : H a = some (.ins (c.C k) dx gs)) (r : Flds c M ρ H k fs gs) : Rep c M ρ H (.ins k fs) (.ref a) := let ⟨n, q⟩ := flds_n r.r; ⟨n + 1, a, dx, gs, rfl, z, e, r.nm, q⟩
theorem Rep.of_non (h : Rep c M ρ H .non v) : v = .non := by obtain ⟨n, h⟩ := h; cases n <;> exact h
theorem Rep.of_bl {b} (h : Rep c M ρ H (.bl b) v) : v = .bl b := by obtain ⟨n, h⟩ := h; cases n <;> exact h
theorem Rep.of_int {b} (h : Rep c M ρ H (.int b) v) : v = .int b := by obtain ⟨n, h⟩ := h; cases n <;> exact h
theorem Rep.of_str {b} (h : Rep c M ρ H (.str b) v) : v = .str b := by obtain ⟨n, h⟩ := h; cases n <;> exact h
theorem Rep.of_cls {b} (h : Rep c M ρ H (.cls b) v) : v = .ref (c.C b) := by obtain ⟨n, h⟩ := h; cases n <;> exact h
theorem Rep.of_tup {xs} (h : Rep c M ρ H (.tup xs) v) : ∃ a vs, v = .ref a ∧ ZT c M ρ H a vs ∧ All2 (Rep c M ρ H) xs vs := by
  obtain ⟨n, h⟩ := h
  cases n with
  | zero => exact h.elim
  | succ n => obtain ⟨a, vs, e, z, r⟩ := h; exact ⟨a, vs, e, z, r.imp fun _ _ q => ⟨n, q⟩⟩
theorem Rep.of_lst {xs} (h : Rep c M ρ H (.lst xs) v) : ∃ a vs, v = .ref a ∧ ZL c M ρ H a vs ∧ All2 (Rep c M ρ H) xs vs := by
  obtain ⟨n, h⟩ := h
  cases n with
  | zero => exact h.elim
  | succ n => obtain ⟨a, vs, e, z, r⟩ := h; exact ⟨a, vs, e, z, r.imp fun _ _ q => ⟨n, q⟩⟩
theorem Rep.of_ins {k fs} (h : Rep c M ρ H (.ins k fs) v) : ∃ a dx gs, v = .ref a ∧ Zz c M ρ a ∧ H a = some (.ins (c.C k) dx gs) ∧ Flds c M ρ H k fs gs := by
  obtain ⟨n, h⟩ := h
  cases n with
  | zero => exact h.elim
  | succ n => obtain ⟨a, dx, gs, e, z, e2, nm, r⟩ := h; exact ⟨a, dx, gs, e, z, e2, nm, r.imp fun _ _ q => ⟨n, q⟩⟩
end
/-- what an evaluation leaves: all that was tracked stands, but the store's objects and the frame's own -/
structure Gr (M : Addr → Prop) (ρ : List Addr) (H : Hp) (M' : Addr → Prop) (ρ' : List Addr) (H' : Hp) : Prop where
  keep : ∀ a o, H a = some o → a ∉ ρ → ¬ M a → H' a = some o
  there : ∀ a o, H a = some o → ∃ o', H' a = some o'
  grow : ∃ ext, ρ' = ρ ++ ext ∧ ∀ a ∈ ext, H a = none
  mine : ∀ a, M' a → M a ∨ H a = none
section
variable {M M1 M' : Addr → Prop} {ρ ρ1 ρ' : List Addr} {H H1 H' : Hp}
theorem Gr.refl : Gr M ρ H M ρ H := ⟨fun _ _ e _ _ => e, fun _ o e => ⟨o, e⟩, ⟨[], by simp, by simp⟩, fun _ h => .inl h⟩
theorem Gr.free (g : Gr M ρ H M' ρ' H') {a : Addr} (h : H' a = none) : H a = none := by
  cases e : H a with
  | none => rfl
  | some o => obtain ⟨o', q⟩ := g.there a o e; rw [h] at q; cases q
theorem Gr.trans (g : Gr M ρ H M1 ρ1 H1) (k : Gr M1 ρ1 H1 M' ρ' H') : Gr M ρ H M' ρ' H' := by
  obtain ⟨e1, h1, f1⟩ := g.grow
  obtain ⟨e2, h2, f2⟩ := k.grow
  refine ⟨fun a o e n m => ?_, fun a o e => ?_, ⟨e1 ++ e2, by rw [h2, h1, List.append_assoc], fun a ha => ?_⟩, fun a h => ?_⟩
  · refine k.keep a o (g.keep a o e n m) ?_ fun q => ?_
    · rw [h1]; intro z
      rcases List.mem_append.mp z with z | z
      · exact n z
      · rw [f1 a z] at e; cases e
    · rcases g.mine a q with q | q
      · exact m q
      · rw [q] at e; cases e
  · obtain ⟨o', q⟩ := g.there a o e
    exact k.there a o' q
  · rcases List.mem_append.mp ha with z | z
    · exact f1 a z
    · exact g.free (f2 a z)
  · rcases k.mine a h with q | q
    · exact g.mine a q
    · exact .inr (g.free q)
theorem Gr.same (s : Same H H') : Gr M ρ H M ρ H' := ⟨fun a o e _ _ => s a o e, fun a o e => ⟨o, s a o e⟩, ⟨[], by simp, by simp⟩, fun _ h => .inl h⟩
variable {c : RC} {a : Addr} {xs : List V} {u : HO}
theorem Zz.grow (h : Zz c M ρ a) (g : Gr M ρ H M' ρ' H') (e : H a ≠ none) : Zz c M' ρ' a := by
  obtain ⟨e1, h1, f1⟩ := g.grow
  refine ⟨h.1, fun q => ?_, ?_⟩
  · rcases g.mine a q with q | q
    · exact h.2.1 q
    · exact e q
  · rw [h1]; intro z
    rcases List.mem_append.mp z with z | z
    · exact h.2.2 z
    · exact e (f1 a z)
theorem rd_keep (r : Rd H a u) (g : Gr M ρ H M' ρ' H') (h : Zz c M ρ a) : Rd H' a u := by
  rcases r with r | ⟨o, r⟩
  · exact .inl (g.keep a _ r h.2.2 h.2.1)
  · exact .inr ⟨o, g.keep a _ r h.2.2 h.2.1⟩
theorem rd_ne {H : Hp} {a : Addr} {u : HO} (r : Rd H a u) : H a ≠ none := by
  rcases r with r | ⟨o, r⟩ <;> rw [r] <;> simp
theorem ZL.grow (h : ZL c M ρ H a xs) (g : Gr M ρ H M' ρ' H') : ZL c M' ρ' H' a xs := h.elim (fun z => .inl ⟨z.1.grow g (rd_ne z.2), rd_keep z.2 g z.1⟩) .inr
theorem ZT.grow (h : ZT c M ρ H a xs) (g : Gr M ρ H M' ρ' H') : ZT c M' ρ' H' a xs := h.elim (fun z => .inl ⟨z.1.grow g (rd_ne z.2), rd_keep z.2 g z.1⟩) .inr
theorem RepN.grow (g : Gr M ρ H M' ρ' H') : ∀ {n : Nat} {d : D} {v : V}, RepN c M ρ H n d v → RepN c M' ρ' H' n d v := by
  intro n
  induction n with
  | zero => intro d v h; cases d <;> exact h
  | succ n ih =>
    intro d v h
    cases d with
    | tup xs => obtain ⟨a, vs, e, z, r⟩ := h; exact ⟨a, vs, e, z.grow g, r.imp fun _ _ q => ih q⟩
    | lst xs => obtain ⟨a, vs, e, z, r⟩ := h; exact ⟨a, vs, e, z.grow g, r.imp fun _ _ q => ih q⟩
    | ins k fs => obtain ⟨a, dx, gs, e, z, e2, nm, r⟩ := h; exact ⟨a, dx, gs, e, z.grow g (by rw [e2]; simp), g.keep a _ e2 z.2.2 z.2.1, nm, r.imp fun _ _ q => ih q⟩
    | _ => exact h
theorem Rep.grow {d : D} {v : V} (h : Rep c M ρ H d v) (g : Gr M ρ H M' ρ' H') : Rep c M' ρ' H' d v := let ⟨n, q⟩ := h; ⟨n, q.grow g⟩
theorem reps_grow {ds : List D} {vs : List V} (h : All2 (Rep c M ρ H) ds vs) (g : Gr M ρ H M' ρ' H') : All2 (Rep c M' ρ' H') ds vs := h.imp fun _ _ r => r.grow g
theorem flds_grow {k : String} {fs : List D} {gs : List (Str × V)} (h : Flds c M ρ H k fs gs) (g : Gr M ρ H M' ρ' H') : Flds c M' ρ' H' k fs gs := ⟨h.nm, h.r.imp fun _ _ r => r.grow g⟩
end
/-! ### values of an evaluation, the store, the frame -/
def RepE (c : RC) (M : Addr → Prop) (ρ : List Addr) (H : Hp) : EV → V → Prop
  | .d x, v => Rep c M ρ H x v
  | .o i, v => ∃ a, ρ[i]? = some a ∧ v = .ref a
section
variable {c : RC} {M M1 M' : Addr → Prop} {ρ ρ1 ρ' : List Addr} {H H1 H' : Hp}
theorem RepE.grow {e : EV} {v : V} (h : RepE c M ρ H e v) (g : Gr M ρ H M' ρ' H') : RepE c M' ρ' H' e v := by
  cases e with
  | d x => exact Rep.grow h g
  | o i =>
    obtain ⟨a, h1, h2⟩ := h
    obtain ⟨ex, e1, _⟩ := g.grow
    exact ⟨a, by rw [e1, List.getElem?_append_left (List.getElem?_eq_some_iff.mp h1).1]; exact h1, h2⟩
theorem repEs_grow {es : List EV} {vs : List V} (h : All2 (RepE c M ρ H) es vs) (g : Gr M ρ H M' ρ' H') : All2 (RepE c M' ρ' H') es vs := h.imp fun _ _ r => r.grow g
end
/-- a table of code objects, where what it tells of is kept -/
theorem tabs_keep {P : Addr} {q : Str} {H H' : Hp} (t : LamX.TabS H P q) (e1 : ∀ ps, H P = some (.tbl ps) → H' P = some (.tbl ps)) (e2 : ∀ b, H b = some (LamX.CodeO b q) → H' b = some (LamX.CodeO b q)) : LamX.TabS H' P q := by
  obtain ⟨ps, h1, h2, h3⟩ := t
  refine ⟨ps, e1 ps h1, h2, fun pos cv hc => ?_⟩
  obtain ⟨b, f1, f2⟩ := h3 pos cv hc
  exact ⟨b, f1, e2 b f2⟩
/-- .. where one object that is no code and no table is written -/
theorem tabs_upd {P a : Addr} {q : Str} {H : Hp} {o u : HO} (t : LamX.TabS H P q) (h : H a = some o) (n1 : ∀ ps, o ≠ .tbl ps) (n2 : ∀ b, o ≠ LamX.CodeO b q) : LamX.TabS (upd H a u) P q :=
  tabs_keep t (fun ps e => by rw [upd_ne (fun z => n1 ps (by rw [z, h] at e; exact Option.some.inj e))]; exact e) fun b e => by rw [upd_ne (fun z => n2 b (Option.some.inj (h.symm.trans ((congrArg H z).symm.trans e))))]; exact e
theorem lst_code {xs : List V} {b : Addr} {q : Str} : HO.lst xs ≠ LamX.CodeO b q := fun z => by unfold LamX.CodeO at z; cases z
theorem ins_code {k y : Addr} {gs : List (Str × V)} {b : Addr} {q : Str} : HO.ins k y gs ≠ LamX.CodeO b q := fun z => by unfold LamX.CodeO at z; cases z
/-- the store stands at ρ -/
structure SR (c : RC) (M : Addr → Prop) (ρ : List Addr) (G : GS) (H : Hp) : Prop where
  len : ρ.length = G.length
  nd : ρ.Nodup
  sep : ∀ a ∈ ρ, ¬ c.B a ∧ ¬ M a
  at_ : ∀ (i : Nat) (xs : List EV), G[i]? = some (GO.lst xs) → ∃ a vs, ρ[i]? = some a ∧ H a = some (.lst vs) ∧ All2 (RepE c M ρ H) xs vs
  /-- the classes are written, what is the callers' or the frame's own is tracked -/
  mt : ∀ a, M a → H a ≠ none
  bt : ∀ a, c.B a → H a ≠ none
  tb : ∀ (i : Nat) (k : String), G[i]? = some (GO.tb k) → ρ[i]? = some (c.C k) ∧ LamX.TabS H (c.C k) (k : Str)
/-- the error that is handled -/
def XnR (c : RC) (M : Addr → Prop) (ρ : List Addr) (H : Hp) (k : String) (fs : List D) : Prop := (¬ M c.x ∧ c.x ∉ ρ) ∧ ∃ gs, H c.x = some (.xd gs) ∧ Flds c M ρ H k fs gs
theorem XnR.grow {c : RC} {M M' : Addr → Prop} {ρ ρ' : List Addr} {H H' : Hp} {k : String} {fs : List D} (h : XnR c M ρ H k fs) (g : Gr M ρ H M' ρ' H') : XnR c M' ρ' H' k fs := by
  obtain ⟨⟨hm, hr⟩, gs, e, f⟩ := h
  obtain ⟨e1, h1, f1⟩ := g.grow
  refine ⟨⟨fun q => ?_, ?_⟩, gs, g.keep _ _ e hr hm, flds_grow f g⟩
  · rcases g.mine _ q with q | q
    · exact hm q
    · rw [e] at q; cases q
  · rw [h1]; intro z
    rcases List.mem_append.mp z with z | z
    · exact hr z
    · rw [f1 _ z] at e; cases e
/-- a slot -/
def SlR (c : RC) (M : Addr → Prop) (ρ : List Addr) (H : Hp) (oa : Nat → Addr) (σ : L2.St) (i : Nat) : Sl → Prop
  | .no => True
  | .ev e => ∃ v, σ[i]? = some (some v) ∧ RepE c M ρ H e v
  | .own (.lst xs) => σ[i]? = some (some (.ref (oa i))) ∧ (M (oa i) ∧ ¬ c.B (oa i)) ∧ ∃ vs, H (oa i) = some (.lst vs) ∧ All2 (Rep c M ρ H) xs vs
  | .own (.ins k fs) => σ[i]? = some (some (.ref c.s)) ∧ oa i = c.s ∧ M c.s ∧ ∃ dx gs, H c.s = some (.ins (c.C k) dx gs) ∧ Flds c M ρ H k fs gs
  | .exn k fs => σ[i]? = some (some (.ref c.s)) ∧ XnR c M ρ H k fs
structure Rl (c : RC) (M : Addr → Prop) (ρ : List Addr) (G : GS) (env : En) (σ : L2.St) (H : Hp) : Prop where
  s : SR c M ρ G H
  len : env.length ≤ σ.length
  e : ∃ oa : Nat → Addr, (∀ (i : Nat) (sl : Sl), env[i]? = some sl → SlR c M ρ H oa σ i sl) ∧ ∀ (i j : Nat) (o u : OW), env[i]? = some (.own o) → env[j]? = some (.own u) → oa i = oa j → i = j
section
variable {c : RC} {M M1 M' : Addr → Prop} {ρ ρ1 ρ' : List Addr} {H H1 H' : Hp} {G G' : GS} {env : En} {σ : L2.St}
/-- behind an evaluation that touches nothing of the frame's own -/
structure Ge (M : Addr → Prop) (ρ : List Addr) (H : Hp) (ρ' : List Addr) (H' : Hp) : Prop where
  keep : ∀ a o, H a = some o → a ∉ ρ → H' a = some o
  there : ∀ a o, H a = some o → ∃ o', H' a = some o'
  grow : ∃ ext, ρ' = ρ ++ ext ∧ ∀ a ∈ ext, H a = none
theorem Ge.gr (g : Ge M ρ H ρ' H') : Gr M ρ H M ρ' H' := ⟨fun a o e n _ => g.keep a o e n, g.there, g.grow, fun _ h => .inl h⟩
theorem Ge.refl : Ge M ρ H ρ H := ⟨fun _ _ e _ => e, fun _ o e => ⟨o, e⟩, ⟨[], by simp, by simp⟩⟩
theorem Ge.same (s : Same H H') : Ge M ρ H ρ H' := ⟨fun a o e _ => s a o e, fun a o e => ⟨o, s a o e⟩, ⟨[], by simp, by simp⟩⟩
theorem Ge.trans (g : Ge M ρ H ρ1 H1) (k : Ge M ρ1 H1 ρ' H') : Ge M ρ H ρ' H' := by
  have z := g.gr.trans k.gr
  obtain ⟨e1, h1, f1⟩ := g.grow
  refine ⟨fun a o e n => k.keep a o (g.keep a o e n) ?_, z.there, z.grow⟩
  rw [h1]; intro q
  rcases List.mem_append.mp q with q | q
  · exact n q
  · rw [f1 a q] at e; cases e
theorem Rl.ge (r : Rl c M ρ G env σ H) (g : Ge M ρ H ρ' H') (s : SR c M ρ' G' H') : Rl c M ρ' G' env σ H' := by
  obtain ⟨oa, h1, h2⟩ := r.e
  refine ⟨s, r.len, oa, fun i sl e => ?_, h2⟩
  have h := h1 i sl e
  have nr : ∀ a, M a → a ∉ ρ := fun a hm hr => (r.s.sep a hr).2 hm
  match sl, h with
  | .no, _ => trivial
  | .ev e, ⟨v, a, b⟩ => exact ⟨v, a, b.grow g.gr⟩
  | .own (.lst xs), ⟨a, b, vs, d, f⟩ => exact ⟨a, b, vs, g.keep _ _ d (nr _ b.1), reps_grow f g.gr⟩
  | .own (.ins k fs), ⟨a, o, b, dx, gs, d, f⟩ => exact ⟨a, o, b, dx, gs, g.keep _ _ d (nr _ b), flds_grow f g.gr⟩
  | .exn k fs, ⟨a, b⟩ => exact ⟨a, b.grow g.gr⟩
/-- the store behind what leaves it alone -/
theorem same_ne (h : Same H H') {a : Addr} (m : H a ≠ none) : H' a ≠ none := fun z => by
  cases e : H a with
  | none => exact m e
  | some o => rw [h a o e] at z; cases z
theorem SR.same (s : SR c M ρ G H) (h : Same H H') : SR c M ρ G H' :=
  ⟨s.len, s.nd, s.sep, fun i xs e => let ⟨a, vs, p, q, r⟩ := s.at_ i xs e; ⟨a, vs, p, h _ _ q, repEs_grow r (Gr.same h)⟩, fun a m => same_ne h (s.mt a m), fun a m => same_ne h (s.bt a m), fun i k e => let ⟨p, t⟩ := s.tb i k e; ⟨p, t.ext h⟩⟩
theorem Rl.same (r : Rl c M ρ G env σ H) (h : Same H H') : Rl c M ρ G env σ H' := r.ge (Ge.same h) (r.s.same h)
/-- a new address may be read for ever -/
theorem SR.fresh (s : SR c M ρ G H) {a : Addr} (h : H a = none) : Zz c M ρ a := by
  refine ⟨fun z => s.bt a z h, fun z => s.mt a z h, fun z => ?_⟩
  obtain ⟨i, e⟩ := List.getElem?_of_mem z
  have hi : i < G.length := by rw [← s.len]; exact (List.getElem?_eq_some_iff.mp e).1
  have hg : G[i]? = some G[i] := List.getElem?_eq_getElem hi
  cases q : G[i] with
  | lst xs =>
    rw [q] at hg
    obtain ⟨b, vs, p, hb, _⟩ := s.at_ i xs hg
    rw [e] at p; cases p
    rw [h] at hb; cases hb
  | tb k =>
    rw [q] at hg
    obtain ⟨p, ps, hb, _⟩ := s.tb i k hg
    rw [e] at p; cases p
    rw [h] at hb; cases hb
theorem same_upd {H : Hp} {p : Addr} {o : HO} (h : H p = none) : Same H (upd H p o) := fun b u e => by rw [upd_ne (ne_of_none e h)]; exact e
end
end DL
set_option Elab.async false
set_option linter.all false
set_option maxRecDepth 100000
set_option maxHeartbeats 4000000
namespace DL
open PySem L2 PyProof.Rows
/-- what is wanted of an outcome, at ρ and H -/
def TQ {α β : Type} (R : (Addr → Prop) → List Addr → Hp → α → β → Prop) (c : RC) (W : WX) (M : Addr → Prop) (ρ : List Addr) (σ : L2.St) (H : Hp) (o : Out α) (Q : β → Hp → Prop) : Prop := match o with
  | .ok e G' => ∀ v ρ' H', Ge M ρ H ρ' H' → SR c M ρ' G' H' → R M ρ' H' e v → Q v H'
  | .er cl fs G' => ∀ dd gs ρ' H', Ge M ρ H ρ' H' → SR c M ρ' G' H' → H' dd = some (.xd gs) → Flds c M ρ' H' cl fs gs → W (.ref (c.C cl)) (some dd) σ H'
  | .st => False
section
variable {α α' β β' : Type} {R : (Addr → Prop) → List Addr → Hp → α → β → Prop} {R' : (Addr → Prop) → List Addr → Hp → α' → β' → Prop} {c : RC} {W : WX} {M : Addr → Prop} {ρ ρ' : List Addr} {σ : L2.St} {H H' : Hp} {o : Out α} {Q Q2 : β → Hp → Prop}
theorem TQ.grow (h : TQ R c W M ρ σ H o Q) (g : Ge M ρ H ρ' H') : TQ R c W M ρ' σ H' o Q := by
  cases o with
  | ok e G => exact fun v ρ2 H2 g2 s r => h v ρ2 H2 (g.trans g2) s r
  | er cl fs G => exact fun dd gs ρ2 H2 g2 s r z => h dd gs ρ2 H2 (g.trans g2) s r z
  | st => exact h
theorem TQ.imp (h : TQ R c W M ρ σ H o Q) (k : ∀ v H', Q v H' → Q2 v H') : TQ R c W M ρ σ H o Q2 := by
  cases o with
  | ok e G => exact fun v ρ2 H2 g2 s r => k _ _ (h v ρ2 H2 g2 s r)
  | er cl fs G => exact h
  | st => exact h
theorem TQ.bind {f : α → GS → Out α'} {Q' : β' → Hp → Prop} (h : TQ R' c W M ρ σ H (o.bind f) Q') :
    TQ R c W M ρ σ H o (fun v H1 => ∃ ρ1 G1 e, Ge M ρ H ρ1 H1 ∧ SR c M ρ1 G1 H1 ∧ R M ρ1 H1 e v ∧ TQ R' c W M ρ1 σ H1 (f e G1) Q') := by
  cases o with
  | ok e G => exact fun v ρ1 H1 g s r => ⟨ρ1, G, e, g, s, r, TQ.grow h g⟩
  | er cl fs G => exact h
  | st => exact h
theorem TQ.ok {e : α} {G : GS} {v : β} (h : TQ R c W M ρ σ H (.ok e G) Q) (s : SR c M ρ G H) (r : R M ρ H e v) : Q v H := h v ρ H Ge.refl s r
theorem TQ.okS {e : α} {G : GS} {v : β} (h : TQ R c W M ρ σ H (.ok e G) Q) (s : SR c M ρ G H) (g : Same H H') (r : R M ρ H' e v) : Q v H' := h v ρ H' (Ge.same g) (s.same g) r
end
abbrev RE (c : RC) : (Addr → Prop) → List Addr → Hp → EV → V → Prop := RepE c
abbrev RA (c : RC) : (Addr → Prop) → List Addr → Hp → List EV → List V → Prop := fun M ρ H es vs => All2 (RepE c M ρ H) es vs
abbrev RB : (Addr → Prop) → List Addr → Hp → Bool → Bool → Prop := fun _ _ _ a b => a = b
abbrev BM := En → GS → Out Bool
abbrev AM := En → GS → Out (List EV)
def tD (c : RC) (W : WX) (m : EM) : TE := fun σ H Q => ∃ M ρ G env, Rl c M ρ G env σ H ∧ TQ (RE c) c W M ρ σ H (m env G) Q
def tDA (c : RC) (W : WX) (m : AM) : TA := fun σ H Q => ∃ M ρ G env, Rl c M ρ G env σ H ∧ TQ (RA c) c W M ρ σ H (m env G) Q
def tDB (c : RC) (W : WX) (m : BM) : TT := fun σ H Q => ∃ M ρ G env, Rl c M ρ G env σ H ∧ TQ RB c W M ρ σ H (m env G) Q
def DE (X : Cx) (c : RC) (W : WX) (e : Expr) (m : EM) : Prop := PE X e (tD c W m)
def DA (X : Cx) (c : RC) (W : WX) (es : List Expr) (m : AM) : Prop := PA X es (tDA c W m)
def DB (X : Cx) (c : RC) (W : WX) (e : Expr) (m : BM) : Prop := PT X e (tDB c W m)
def DW (X : Cx) (c : RC) (W : WX) (e : Expr) (m : BM) : Prop := PW X e (tDB c W m)
theorem pe_imp {X : Cx} {e : Expr} {t t' : TE} (h : PE X e t) (k : ∀ σ H Q, t' σ H Q → t σ H Q) : PE X e t' := ⟨fun pins s σ H Q I q => h.run pins s σ H Q I (k σ H Q q)⟩
theorem pa_imp {X : Cx} {e : List Expr} {t t' : TA} (h : PA X e t) (k : ∀ σ H Q, t' σ H Q → t σ H Q) : PA X e t' := ⟨fun pos pins s σ H Q I q => h.run pos pins s σ H Q I (k σ H Q q)⟩
theorem pt_imp {X : Cx} {e : Expr} {t t' : TT} (h : PT X e t) (k : ∀ σ H Q, t' σ H Q → t σ H Q) : PT X e t' := ⟨fun pins s σ H Q I q => h.run pins s σ H Q I (k σ H Q q)⟩
theorem pw_imp {X : Cx} {e : Expr} {t t' : TT} (h : PW X e t) (k : ∀ σ H Q, t' σ H Q → t σ H Q) : PW X e t' := ⟨fun wh pins s σ H Q I q => h.run wh pins s σ H Q I (k σ H Q q)⟩
/-! ### the meanings -/
def eVar (i : Nat) : EM := fun env G => match env[i]? with
  | some (.ev e) => .ok e G
  | _ => .st
def eC (x : D) : EM := fun _ G => .ok (.d x) G
/-- two values and a rule that raises nothing -/
abbrev F2 := EV → EV → GS → Option (EV × GS)
abbrev F1 := EV → GS → Option (EV × GS)
abbrev FN := List EV → GS → Option (EV × GS)
def lift {α : Type} : Option (α × GS) → Out α
  | some (e, G) => .ok e G
  | none => .st
def eOp (f : F2) (a b : EM) : EM := fun env G => (a env G).bind fun x G1 => (b env G1).bind fun y G2 => lift (f x y G2)
def eUn (f : F1) (a : EM) : EM := fun env G => (a env G).bind fun x G1 => lift (f x G1)
def aNil : AM := fun _ G => .ok [] G
def aCons (a : EM) (r : AM) : AM := fun env G => (a env G).bind fun x G1 => (r env G1).bind fun xs G2 => .ok (x :: xs) G2
def eFN (f : FN) (r : AM) : EM := fun env G => (r env G).bind fun xs G1 => lift (f xs G1)
/-- on plain data alone -/
def pure2 (g : D → D → Option D) : F2 := fun x y G => match x, y with
  | .d a, .d b => (g a b).map fun z => (.d z, G)
  | _, _ => none
def pure1 (g : D → Option D) : F1 := fun x G => match x with
  | .d a => (g a).map fun z => (.d z, G)
  | _ => none
def datas : List EV → Option (List D)
  | [] => some []
  | .d x :: r => (datas r).map (x :: ·)
  | _ :: _ => none
def pureN (g : List D → Option D) : FN := fun xs G => (datas xs).bind fun ds => (g ds).map fun z => (.d z, G)
/-! ### rules by values -/
/-- what a rule that raises nothing asks -/
def VQ (c : RC) (M : Addr → Prop) (ρ : List Addr) (H : Hp) (o : Option (EV × GS)) (Q : VK) : Prop := match o with
  | some (e, G') => ∀ v ρ' H', Ge M ρ H ρ' H' → SR c M ρ' G' H' → RepE c M ρ' H' e v → Q v H'
  | none => False
def V2 (c : RC) (f : F2) : R2 := fun x y H Q => ∃ M ρ G a b, SR c M ρ G H ∧ RepE c M ρ H a x ∧ RepE c M ρ H b y ∧ VQ c M ρ H (f a b G) Q
def V1 (c : RC) (f : F1) : V → Hp → VK → Prop := fun x H Q => ∃ M ρ G a, SR c M ρ G H ∧ RepE c M ρ H a x ∧ VQ c M ρ H (f a G) Q
def VN (c : RC) (f : FN) : List V → Hp → VK → Prop := fun xs H Q => ∃ M ρ G es, SR c M ρ G H ∧ All2 (RepE c M ρ H) es xs ∧ VQ c M ρ H (f es G) Q
section
variable {X : Cx} {c : RC} {W : WX} {e a b : Expr} {es : List Expr} {ma mb : EM} {mr : AM} {pos : Pos} {M : Addr → Prop} {ρ : List Addr} {σ : L2.St} {H : Hp}
theorem VQ.of {o : Option (EV × GS)} {Q : VK} (h : TQ (RE c) c W M ρ σ H (lift o) Q) : VQ c M ρ H o Q := by
  cases o with
  | none => exact h
  | some p => exact h
theorem de_var {i : Nat} {x : Str} (h : PE X (.Name x pos) (tVar i)) : DE X c W (.Name x pos) (eVar i) := by
  refine pe_imp h fun σ H Q q => ?_
  obtain ⟨M, ρ, G, env, R, q⟩ := q
  unfold eVar at q
  obtain ⟨oa, h1, _⟩ := R.e
  split at q
  · rename_i e he
    obtain ⟨v, hv, r⟩ := h1 i _ he
    exact ⟨v, hv, q.ok R.s r⟩
  · exact q.elim
theorem de_c {x : D} {v : V} (h : PE X e (tC v)) (r : ∀ M ρ H, Rep c M ρ H x v) : DE X c W e (eC x) := by
  refine pe_imp h fun σ H Q q => ?_
  obtain ⟨M, ρ, G, env, R, q⟩ := q
  exact q.ok R.s (r M ρ H)
theorem de_int {i j} : DE X c W (.Constant (.int i) j pos) (eC (.int i)) := de_c pe_int fun _ _ _ => .int
theorem de_bl {i j} : DE X c W (.Constant (.bool i) j pos) (eC (.bl i)) := de_c pe_bl fun _ _ _ => .bl
theorem de_non {j} : DE X c W (.Constant .none j pos) (eC .non) := de_c pe_non fun _ _ _ => .non
theorem de_str {i j} : DE X c W (.Constant (.str i) j pos) (eC (.str i)) := de_c pe_str fun _ _ _ => .str
theorem de_op {op : Operator} {f : F2} (ho : OpR X (binaryOp op) (V2 c f)) (ha : DE X c W a ma) (hb : DE X c W b mb) : DE X c W (.BinOp a op b pos) (eOp f ma mb) := by
  refine pe_imp (pe_op ho ha hb) fun σ H Q q => ?_
  obtain ⟨M, ρ, G, env, R, q⟩ := q
  refine ⟨M, ρ, G, env, R, (TQ.bind (R := RE c) q).imp fun v H1 ⟨ρ1, G1, e1, g1, s1, r1, q1⟩ => ?_⟩
  refine ⟨M, ρ1, G1, env, R.ge g1 s1, (TQ.bind (R := RE c) q1).imp fun u H2 ⟨ρ2, G2, e2, g2, s2, r2, q2⟩ => ?_⟩
  exact ⟨M, ρ2, G2, e1, e2, s2, r1.grow g2.gr, r2, VQ.of q2⟩
theorem de_cmp {op : CmpOp} {f : F2} (ho : OpR X (compareOp op) (V2 c f)) (ha : DE X c W a ma) (hb : DE X c W b mb) (hm : behindInMarks op b = false) : DE X c W (.Compare a [op] [b] pos) (eOp f ma mb) := by
  refine pe_imp (pe_cmpR ho ha hb hm) fun σ H Q q => ?_
  obtain ⟨M, ρ, G, env, R, q⟩ := q
  refine ⟨M, ρ, G, env, R, (TQ.bind (R := RE c) q).imp fun v H1 ⟨ρ1, G1, e1, g1, s1, r1, q1⟩ => ?_⟩
  refine ⟨M, ρ1, G1, env, R.ge g1 s1, (TQ.bind (R := RE c) q1).imp fun u H2 ⟨ρ2, G2, e2, g2, s2, r2, q2⟩ => ?_⟩
  exact ⟨M, ρ2, G2, e1, e2, s2, r1.grow g2.gr, r2, VQ.of q2⟩
theorem de_un {op : UnaryOp} {f : F1} (ho : UnR X (unaryOp op) (V1 c f)) (ha : DE X c W a ma) : DE X c W (.UnaryOp op a pos) (eUn f ma) := by
  refine pe_imp (pe_un ho ha) fun σ H Q q => ?_
  obtain ⟨M, ρ, G, env, R, q⟩ := q
  refine ⟨M, ρ, G, env, R, (TQ.bind (R := RE c) q).imp fun v H1 ⟨ρ1, G1, e1, g1, s1, r1, q1⟩ => ?_⟩
  exact ⟨M, ρ1, G1, e1, s1, r1, VQ.of q1⟩
theorem da_nil : DA X c W [] aNil := pa_imp pa_nil fun σ H Q ⟨M, ρ, G, env, R, q⟩ => q.ok R.s .nil
theorem da_cons (ha : DE X c W e ma) (hr : DA X c W es mr) (hs : starEach (e :: es) X.env = (false, eval e X.env) :: starEach es X.env := by rfl) : DA X c W (e :: es) (aCons ma mr) := by
  refine pa_imp (pa_cons ha hr hs) fun σ H Q q => ?_
  obtain ⟨M, ρ, G, env, R, q⟩ := q
  refine ⟨M, ρ, G, env, R, (TQ.bind (R := RE c) q).imp fun v H1 ⟨ρ1, G1, e1, g1, s1, r1, q1⟩ => ?_⟩
  refine ⟨M, ρ1, G1, env, R.ge g1 s1, (TQ.bind (R := RA c) q1).imp fun u H2 ⟨ρ2, G2, e2, g2, s2, r2, q2⟩ => ?_⟩
  exact q2.ok s2 (.cons (r1.grow g2.gr) r2)
/-- a call of a built-in by its name -/
theorem de_callB {x : Str} {p : Pos} {id : String} {f : FN} (hc : CallR X (.builtin id) (VN c f)) (hg : Gl X x) (hm : X.mg x = none) (hv : bootBuiltins x = some (.builtin id)) (ha : DA X c W (e :: es) mr) (hn : x ≠ "__name__" := by decide) (hdb : (x == ("__debug__" : Str)) = false := by decide)
    (he : starEach (e :: es) X.env = (false, eval e X.env) :: starEach es X.env := by rfl) (hpl : (backTo pos (starEach es X.env)).any (·.1) = false := by rfl) : DE X c W (.Call (.Name x p) (e :: es) [] pos) (eFN f mr) := by
  refine pe_imp (pe_callB hc hg hm hv ha hn hdb he hpl) fun σ H Q q => ?_
  obtain ⟨M, ρ, G, env, R, q⟩ := q
  refine ⟨M, ρ, G, env, R, (TQ.bind (R := RA c) q).imp fun v H1 ⟨ρ1, G1, e1, g1, s1, r1, q1⟩ => ?_⟩
  exact ⟨M, ρ1, G1, e1, s1, r1, VQ.of q1⟩
theorem de_callT {x : Str} {p : Pos} {T : String} {f : FN} (hc : CallR X (.type T) (VN c f)) (hg : Gl X x) (hm : X.mg x = none) (hv : bootBuiltins x = some (.type T)) (ha : DA X c W (e :: es) mr) (hn : x ≠ "__name__" := by decide) (hdb : (x == ("__debug__" : Str)) = false := by decide)
    (he : starEach (e :: es) X.env = (false, eval e X.env) :: starEach es X.env := by rfl) (hpl : (backTo pos (starEach es X.env)).any (·.1) = false := by rfl) : DE X c W (.Call (.Name x p) (e :: es) [] pos) (eFN f mr) := by
  refine pe_imp (pe_callTy hc hg hm hv ha hn hdb he hpl) fun σ H Q q => ?_
  obtain ⟨M, ρ, G, env, R, q⟩ := q
  refine ⟨M, ρ, G, env, R, (TQ.bind (R := RA c) q).imp fun v H1 ⟨ρ1, G1, e1, g1, s1, r1, q1⟩ => ?_⟩
  exact ⟨M, ρ1, G1, e1, s1, r1, VQ.of q1⟩
end
end DL
set_option Elab.async false
set_option linter.all false
set_option maxRecDepth 100000
set_option maxHeartbeats 4000000
namespace DL
open PySem L2 PyProof.Rows
/-! ### tests -/
/-- truth of plain data -/
def tru : D → Option Bool
  | .non => some false
  | .bl b => some b
  | .int i => some (i != 0)
  | .str x => if x.length ≤ 1000000 then some (x.length != 0) else none
  | .lst xs => some (!xs.isEmpty)
  | .tup xs => some (!xs.isEmpty)
  | _ => none
def bOf (f : EV → GS → Option (Bool × GS)) (m : EM) : BM := fun env G => (m env G).bind fun e G1 => lift (f e G1)
def truE : EV → GS → Option (Bool × GS) := fun e G => match e with
  | .d x => (tru x).map (·, G)
  | _ => none
def isB : EV → GS → Option (Bool × GS) := fun e G => match e with
  | .d (.bl b) => some (b, G)
  | _ => none
def bAnd (a b : BM) : BM := fun env G => (a env G).bind fun k G1 => if k = true then b env G1 else .ok false G1
def bOr (a b : BM) : BM := fun env G => (a env G).bind fun k G1 => if k = true then .ok true G1 else b env G1
def bNot (a : BM) : BM := fun env G => (a env G).bind fun k G1 => .ok (!k) G1
def eAnd (a b : EM) : EM := fun env G => (a env G).bind fun x G1 => match x with
  | .d (.bl true) => b env G1
  | .d (.bl false) => .ok (.d (.bl false)) G1
  | _ => .st
def eOr (a b : EM) : EM := fun env G => (a env G).bind fun x G1 => match x with
  | .d (.bl true) => .ok (.d (.bl true)) G1
  | .d (.bl false) => b env G1
  | _ => .st
def eNot (a : EM) : EM := fun env G => (a env G).bind fun x G1 => match x with
  | .d (.bl k) => .ok (.d (.bl (!k))) G1
  | _ => .st
def eIf (t : BM) (a b : EM) : EM := fun env G => (t env G).bind fun k G1 => if k = true then a env G1 else b env G1
section
variable {X : Cx} {c : RC} {W : WX} {e a b t : Expr} {rest : List Expr} {ma mb : EM} {ta tb : BM} {pos : Pos} {M : Addr → Prop} {ρ : List Addr} {σ : L2.St} {H : Hp}
theorem all2_isEmpty {α β : Type} {R : α → β → Prop} {xs : List α} {ys : List β} (h : All2 R xs ys) : xs.isEmpty = ys.isEmpty := by cases h <;> rfl
theorem tru_of {K : PySem.W.Frag} {x : D} {v : V} {k : Bool} (r : Rep c M ρ H x v) (h : tru x = some k) (hK : c.K = K) : TruV K v H k := by
  cases x with
  | non => cases r.of_non; injection h with h; exact h.symm
  | bl b => cases r.of_bl; injection h with h; exact h.symm
  | int i => cases r.of_int; injection h with h; exact h.symm
  | str z =>
    cases r.of_str
    dsimp only [tru] at h
    split at h
    · rename_i hz
      injection h with h
      refine ⟨Nat.le_trans hz (by decide), ?_⟩
      rw [← h]
      generalize z.length = n
      rcases n with _ | n
      · rfl
      · rfl
    · cases h
  | tup xs => obtain ⟨a, vs, rfl, z, q⟩ := r.of_tup; injection h with h; subst hK; exact .inr (.inl ⟨vs, z.sq, by rw [← h, all2_isEmpty q]⟩)
  | lst xs => obtain ⟨a, vs, rfl, z, q⟩ := r.of_lst; injection h with h; subst hK; exact .inl ⟨vs, z.sq, by rw [← h, all2_isEmpty q]⟩
  | ins k fs => cases h
  | cls k => cases h
  | ty k => cases h
theorem db_tru (hK : c.K = X.K) (ha : DE X c W a ma) (he : ∀ whole, isTrue a X.env whole = (do let v ← whole; standAt a.pos; holding [v] (truthy v)) := by intro _; rfl) : DB X c W a (bOf truE ma) := by
  refine pt_imp (pt_truth ha he) fun σ H Q q => ?_
  obtain ⟨M, ρ, G, env, R, q⟩ := q
  refine ⟨M, ρ, G, env, R, (TQ.bind (R := RE c) q).imp fun v H1 ⟨ρ1, G1, e1, g1, s1, r1, q1⟩ => ?_⟩
  cases e1 with
  | o i => exact q1.elim
  | d x =>
    dsimp only [truE] at q1
    cases hx : tru x with
    | none => rw [hx] at q1; exact q1.elim
    | some k => rw [hx] at q1; exact ⟨k, tru_of r1 hx hK, q1.ok s1 rfl⟩
theorem bl_of {e1 : EV} {v : V} {G1 : GS} {Q : Bool → Hp → Prop} (s1 : SR c M ρ G1 H) (r1 : RepE c M ρ H e1 v) (q1 : TQ RB c W M ρ σ H (lift (isB e1 G1)) Q) : ∃ k, v = .bl k ∧ Q k H := by
  unfold isB at q1
  split at q1
  · rename_i b
    exact ⟨b, Rep.of_bl r1, q1.ok s1 rfl⟩
  · exact q1.elim
theorem db_cmp {op : CmpOp} {f : F2} (ho : OpR X (compareOp op) (V2 c f)) (ha : DE X c W a ma) (hb : DE X c W b mb) (hm : behindInMarks op b = false) : DB X c W (.Compare a [op] [b] pos) (bOf isB (eOp f ma mb)) := by
  refine pt_imp (pt_cmpR ho ha hb hm) fun σ H Q q => ?_
  obtain ⟨M, ρ, G, env, R, q⟩ := q
  refine ⟨M, ρ, G, env, R, ?_⟩
  have q' := TQ.bind (R := RE c) q
  refine (TQ.bind (R := RE c) q').imp fun v H1 ⟨ρ1, G1, e1, g1, s1, r1, q1⟩ => ?_
  refine ⟨M, ρ1, G1, env, R.ge g1 s1, (TQ.bind (R := RE c) q1).imp fun u H2 ⟨ρ2, G2, e2, g2, s2, r2, q2⟩ => ?_⟩
  refine ⟨M, ρ2, G2, e1, e2, s2, r1.grow g2.gr, r2, ?_⟩
  cases hf : f e1 e2 G2 with
  | none => rw [hf] at q2; exact q2.elim
  | some p =>
    rw [hf] at q2
    intro z ρ3 H3 g3 s3 r3
    obtain ⟨ρ4, G4, e4, g4, s4, r4, q4⟩ := q2 z ρ3 H3 g3 s3 r3
    exact bl_of s4 r4 q4
theorem dw_and1 (h : DB X c W a ta) : DW X c W (.BoolOp .And [a] pos) ta := pw_and1 h
theorem dw_or1 (h : DB X c W a ta) : DW X c W (.BoolOp .Or [a] pos) ta := pw_or1 h
theorem DW.db (h : DW X c W e ta) : DB X c W e ta := PW.pt h
theorem dw_and (h : DB X c W a ta) (k : DW X c W (.BoolOp .And (b :: rest) pos) tb) : DW X c W (.BoolOp .And (a :: b :: rest) pos) (bAnd ta tb) := by
  refine pw_imp (pw_and h k) fun σ H Q q => ?_
  obtain ⟨M, ρ, G, env, R, q⟩ := q
  refine ⟨M, ρ, G, env, R, (TQ.bind (R := RB) q).imp fun v H1 ⟨ρ1, G1, e1, g1, s1, r1, q1⟩ => ?_⟩
  obtain rfl : v = e1 := Eq.symm r1
  cases v with
  | true => exact ⟨M, ρ1, G1, env, R.ge g1 s1, q1⟩
  | false => exact q1.ok s1 rfl
theorem dw_or (h : DB X c W a ta) (k : DW X c W (.BoolOp .Or (b :: rest) pos) tb) : DW X c W (.BoolOp .Or (a :: b :: rest) pos) (bOr ta tb) := by
  refine pw_imp (pw_or h k) fun σ H Q q => ?_
  obtain ⟨M, ρ, G, env, R, q⟩ := q
  refine ⟨M, ρ, G, env, R, (TQ.bind (R := RB) q).imp fun v H1 ⟨ρ1, G1, e1, g1, s1, r1, q1⟩ => ?_⟩
  obtain rfl : v = e1 := Eq.symm r1
  cases v with
  | true => exact q1.ok s1 rfl
  | false => exact ⟨M, ρ1, G1, env, R.ge g1 s1, q1⟩
theorem db_not (h : DB X c W a ta) : DB X c W (.UnaryOp .Not a pos) (bNot ta) := by
  refine pt_imp (pt_not h) fun σ H Q q => ?_
  obtain ⟨M, ρ, G, env, R, q⟩ := q
  refine ⟨M, ρ, G, env, R, (TQ.bind (R := RB) q).imp fun v H1 ⟨ρ1, G1, e1, g1, s1, r1, q1⟩ => ?_⟩
  obtain rfl : v = e1 := Eq.symm r1
  exact q1.ok s1 rfl
theorem de_one {op} (h : DE X c W a ma) : DE X c W (.BoolOp op [a] pos) ma := pe_one h
theorem de_and (h : DE X c W a ma) (k : DE X c W (.BoolOp .And (b :: rest) pos) mb) : DE X c W (.BoolOp .And (a :: b :: rest) pos) (eAnd ma mb) := by
  refine pe_imp (pe_and h k) fun σ H Q q => ?_
  obtain ⟨M, ρ, G, env, R, q⟩ := q
  refine ⟨M, ρ, G, env, R, (TQ.bind (R := RE c) q).imp fun v H1 ⟨ρ1, G1, e1, g1, s1, r1, q1⟩ => ?_⟩
  split at q1
  · exact ⟨true, Rep.of_bl r1, M, ρ1, G1, env, R.ge g1 s1, q1⟩
  · exact ⟨false, Rep.of_bl r1, q1.ok s1 Rep.bl⟩
  · exact q1.elim
theorem de_not (h : DE X c W a ma) : DE X c W (.UnaryOp .Not a pos) (eNot ma) := by
  refine pe_imp (pe_not h) fun σ H Q q => ?_
  obtain ⟨M, ρ, G, env, R, q⟩ := q
  refine ⟨M, ρ, G, env, R, (TQ.bind (R := RE c) q).imp fun v H1 ⟨ρ1, G1, e1, g1, s1, r1, q1⟩ => ?_⟩
  split at q1
  · exact ⟨_, Rep.of_bl r1, q1.ok s1 Rep.bl⟩
  · exact q1.elim
end
/-! ### statements -/
inductive OutS where
  | nx (env : En) (G : GS) | rt (e : EV) (G : GS) | bk (env : En) (G : GS) | ct (env : En) (G : GS)
  | er (c : String) (fs : List D) (env : En) (G : GS) | st
abbrev SM := En → GS → OutS
def SQ (c : RC) (W : WX) (M : Addr → Prop) (ρ : List Addr) (H : Hp) (o : OutS) (Dn : Ends) : Prop := match o with
  | .nx env' G' => ∀ M' ρ' σ' H', Gr M ρ H M' ρ' H' → Rl c M' ρ' G' env' σ' H' → Dn.nx σ' H'
  | .bk env' G' => ∀ M' ρ' σ' H', Gr M ρ H M' ρ' H' → Rl c M' ρ' G' env' σ' H' → Dn.bk σ' H'
  | .ct env' G' => ∀ M' ρ' σ' H', Gr M ρ H M' ρ' H' → Rl c M' ρ' G' env' σ' H' → Dn.ct σ' H'
  | .rt e G' => ∀ M' ρ' v H', Gr M ρ H M' ρ' H' → SR c M' ρ' G' H' → RepE c M' ρ' H' e v → Dn.rt v H'
  | .er cl fs env' G' => ∀ M' ρ' σ' H' dd gs, Gr M ρ H M' ρ' H' → Rl c M' ρ' G' env' σ' H' → H' dd = some (.xd gs) → Flds c M' ρ' H' cl fs gs → W (.ref (c.C cl)) (some dd) σ' H'
  | .st => False
def tDS (c : RC) (W : WX) (m : SM) : TS := fun Dn σ H => ∃ M ρ G env, Rl c M ρ G env σ H ∧ SQ c W M ρ H (m env G) Dn
def DS (X : Cx) (c : RC) (W : WX) (s : Stmt) (m : SM) : Prop := PS X s (tDS c W m)
def DSs (X : Cx) (c : RC) (W : WX) (s : List Stmt) (m : SM) : Prop := PSs X s (tDS c W m)
theorem ps_imp {X : Cx} {e : Stmt} {t t' : TS} (h : PS X e t) (k : ∀ D σ H, t' D σ H → t D σ H) : PS X e t' := ⟨fun pins s σ H D I q => h.run pins s σ H D I (k D σ H q)⟩
theorem pss_imp {X : Cx} {e : List Stmt} {t t' : TS} (h : PSs X e t) (k : ∀ D σ H, t' D σ H → t D σ H) : PSs X e t' := ⟨fun pins s σ H D I q => h.run pins s σ H D I (k D σ H q)⟩
section
variable {c : RC} {W : WX} {M M' : Addr → Prop} {ρ ρ' : List Addr} {H H' : Hp} {o : OutS} {Dn Dn' : Ends} {σ : L2.St} {G : GS} {env : En}
theorem SQ.grow (h : SQ c W M ρ H o Dn) (g : Gr M ρ H M' ρ' H') : SQ c W M' ρ' H' o Dn := by
  cases o with
  | nx e G => exact fun a b d f g2 r => h a b d f (g.trans g2) r
  | bk e G => exact fun a b d f g2 r => h a b d f (g.trans g2) r
  | ct e G => exact fun a b d f g2 r => h a b d f (g.trans g2) r
  | rt e G => exact fun a b d f g2 r => h a b d f (g.trans g2) r
  | er cl fs e G => exact fun a b d f dd gs g2 r => h a b d f dd gs (g.trans g2) r
  | st => exact h
/-- an expression ahead of the rest of a statement -/
def ofE {α : Type} (o : Out α) (env : En) (k : α → GS → OutS) : OutS := match o with
  | .ok e G => k e G
  | .er c fs G => .er c fs env G
  | .st => .st
theorem SQ.ofE {α β : Type} {R : (Addr → Prop) → List Addr → Hp → α → β → Prop} {m : Out α} {k : α → GS → OutS} (Rr : Rl c M ρ G env σ H) (h : SQ c W M ρ H (ofE m env k) Dn) :
    TQ R c W M ρ σ H m (fun v H1 => ∃ ρ1 G1 e, Ge M ρ H ρ1 H1 ∧ Rl c M ρ1 G1 env σ H1 ∧ R M ρ1 H1 e v ∧ SQ c W M ρ1 H1 (k e G1) Dn) := by
  cases m with
  | ok e G => exact fun v ρ1 H1 g s r => ⟨ρ1, G, e, g, Rr.ge g s, r, SQ.grow h g.gr⟩
  | er cl fs G => exact fun dd gs ρ1 H1 g s e f => h M ρ1 σ H1 dd gs g.gr (Rr.ge g s) e f
  | st => exact h
end
def seqO (o : OutS) (k : En → GS → OutS) : OutS := match o with
  | .nx env G => k env G
  | o => o
def sSeq (a b : SM) : SM := fun env G => seqO (a env G) b
def sNil : SM := fun env G => .nx env G
def sSet (i : Nat) (m : EM) : SM := fun env G => ofE (m env G) env fun e G1 => .nx (env.set i (.ev e)) G1
def sRet (m : EM) : SM := fun env G => ofE (m env G) env fun e G1 => .rt e G1
def sRetN : SM := fun _ G => .rt (.d .non) G
def sDrop (m : EM) : SM := fun env G => ofE (m env G) env fun _ G1 => .nx env G1
def sIf (t : BM) (a b : SM) : SM := fun env G => ofE (t env G) env fun k G1 => if k = true then a env G1 else b env G1
def sBk : SM := fun env G => .bk env G
def sCt : SM := fun env G => .ct env G
section
variable {X : Cx} {c : RC} {W : WX} {e t : Expr} {st : Stmt} {sts as bs : List Stmt} {me : EM} {mt : BM} {ms mr ma mb : SM} {pos : Pos}
theorem dss_nil : DSs X c W [] sNil := by
  refine pss_imp pss_nil fun Dn σ H q => ?_
  obtain ⟨M, ρ, G, env, R, q⟩ := q
  exact q M ρ σ H Gr.refl R
theorem SQ.seq {M : Addr → Prop} {ρ : List Addr} {H : Hp} {o : OutS} {k : SM} {Dn : Ends} (h : SQ c W M ρ H (seqO o k) Dn) : SQ c W M ρ H o { Dn with nx := tDS c W k Dn } := by
  cases o with
  | nx env G => exact fun M' ρ' σ' H' g R => ⟨M', ρ', G, env, R, SQ.grow h g⟩
  | bk e G => exact h
  | ct e G => exact h
  | rt e G => exact h
  | er cl fs e G => exact h
  | st => exact h
theorem dss_cons (h : DS X c W st ms) (k : DSs X c W sts mr) : DSs X c W (st :: sts) (sSeq ms mr) := by
  refine pss_imp (pss_cons h k) fun Dn σ H q => ?_
  obtain ⟨M, ρ, G, env, R, q⟩ := q
  exact ⟨M, ρ, G, env, R, SQ.seq q⟩
theorem dss_one (h : DS X c W st ms) : DSs X c W [st] ms := pss_one h
theorem Rl.set {M : Addr → Prop} {ρ : List Addr} {G : GS} {env : En} {σ : L2.St} {H : Hp} {i : Nat} {x : EV} {v : V} (R : Rl c M ρ G env σ H) (r : RepE c M ρ H x v) : Rl c M ρ G (env.set i (.ev x)) (σ.set i (some v)) H := by
  obtain ⟨oa, h1, h2⟩ := R.e
  have ne : ∀ (j : Nat) (sl : Sl), (env.set i (.ev x))[j]? = some sl → (j = i ∧ sl = .ev x) ∨ (j ≠ i ∧ env[j]? = some sl) := fun j sl e => by
    by_cases hj : j = i
    · subst hj
      have hl : j < env.length := by
        have := (List.getElem?_eq_some_iff.mp e).1
        rwa [List.length_set] at this
      rw [List.getElem?_set_self hl] at e
      exact .inl ⟨rfl, (Option.some.inj e).symm⟩
    · rw [List.getElem?_set_ne (Ne.symm hj)] at e
      exact .inr ⟨hj, e⟩
  refine ⟨R.s, by simpa using R.len, oa, fun j sl e => ?_, fun j k o u e1 e2 e3 => ?_⟩
  · rcases ne j sl e with ⟨rfl, rfl⟩ | ⟨hj, e'⟩
    · exact ⟨v, List.getElem?_set_self (Nat.lt_of_lt_of_le (by simpa using (List.getElem?_eq_some_iff.mp e).1) R.len), r⟩
    · have h := h1 j sl e'
      have sg : (σ.set i (some v))[j]? = σ[j]? := List.getElem?_set_ne (Ne.symm hj)
      match sl, h with
      | .no, _ => trivial
      | .ev e, ⟨v, a, b⟩ => exact ⟨v, by rw [sg]; exact a, b⟩
      | .own (.lst xs), ⟨a, b⟩ => exact ⟨by rw [sg]; exact a, b⟩
      | .own (.ins k fs), ⟨a, b⟩ => exact ⟨by rw [sg]; exact a, b⟩
      | .exn k fs, ⟨a, b⟩ => exact ⟨by rw [sg]; exact a, b⟩
  · rcases ne j _ e1 with ⟨_, z⟩ | ⟨_, e1⟩
    · cases z
    · rcases ne k _ e2 with ⟨_, z⟩ | ⟨_, e2⟩
      · cases z
      · exact h2 j k o u e1 e2 e3
theorem ds_set {i : Nat} {x : Str} {pos' : Pos} (hN : X.N.Nodup) (hi : X.N[i]? = some x) (hx : Loc X.env.scope x) (he : DE X c W e me) (hs : swapsWith e (some (.Name x pos')) pos.line X.env = pure false := by rfl)
    (hf : X.fn x = true ∨ X.env.scope.names.lookup x = some .local := by first | exact .inl rfl | exact .inr rfl | assumption) : DS X c W (.Assign [.Name x pos'] e pos) (sSet i me) := by
  refine ⟨fun pins s σ H D I q => (ps_set hN hi hx he hs hf).run pins s σ H D I ?_⟩
  obtain ⟨M, ρ, G, env, R, q⟩ := q
  refine ⟨M, ρ, G, env, R, (SQ.ofE (R := RE c) R q).imp fun v H1 ⟨ρ1, G1, e1, g1, R1, r1, q1⟩ => ?_⟩
  exact q1 M ρ1 _ H1 Gr.refl (R1.set r1)
theorem ds_ret (he : DE X c W e me) : DS X c W (.Return (some e) pos) (sRet me) := by
  refine ps_imp (ps_ret he) fun Dn σ H q => ?_
  obtain ⟨M, ρ, G, env, R, q⟩ := q
  refine ⟨M, ρ, G, env, R, (SQ.ofE (R := RE c) R q).imp fun v H1 ⟨ρ1, G1, e1, g1, R1, r1, q1⟩ => ?_⟩
  exact q1 M ρ1 _ H1 Gr.refl R1.s r1
theorem ds_if (ht : DB X c W t mt) (ha : DSs X c W as ma) (hb : DSs X c W bs mb) : DS X c W (.If t as bs pos) (sIf mt ma mb) := by
  refine ps_imp (ps_if ht ha hb) fun Dn σ H q => ?_
  obtain ⟨M, ρ, G, env, R, q⟩ := q
  refine ⟨M, ρ, G, env, R, (SQ.ofE (R := RB) R q).imp fun v H1 ⟨ρ1, G1, e1, g1, R1, r1, q1⟩ => ?_⟩
  obtain rfl : v = e1 := Eq.symm r1
  cases v with
  | true => rw [if_pos rfl] at q1 ⊢; exact ⟨M, ρ1, G1, env, R1, q1⟩
  | false => exact ⟨M, ρ1, G1, env, R1, q1⟩
end
end DL
set_option Elab.async false
set_option linter.all false
set_option maxRecDepth 100000
set_option maxHeartbeats 4000000
namespace DL
open PySem L2 PyProof.Rows
abbrev nM : Addr → Prop := fun _ => False
section
variable {c c' : RC} {M M' : Addr → Prop} {ρ ρ' : List Addr} {H H' : Hp} {G : GS}
/-- the same data under other protections -/
structure Cv (c : RC) (M : Addr → Prop) (c' : RC) (M' : Addr → Prop) (ρ : List Addr) : Prop where
  K : c'.K = c.K
  C : c'.C = c.C
  N : c'.N = c.N
  z : ∀ a, Zz c M ρ a → Zz c' M' ρ a
theorem ZL.cv {a : Addr} {xs : List V} (v : Cv c M c' M' ρ) (h : ZL c M ρ H a xs) : ZL c' M' ρ H a xs := h.elim (fun q => .inl ⟨v.z a q.1, q.2⟩) fun q => .inr (by rw [v.K]; exact q)
theorem ZT.cv {a : Addr} {xs : List V} (v : Cv c M c' M' ρ) (h : ZT c M ρ H a xs) : ZT c' M' ρ H a xs := h.elim (fun q => .inl ⟨v.z a q.1, q.2⟩) fun q => .inr (by rw [v.K]; exact q)
theorem RepN.cv (v : Cv c M c' M' ρ) : ∀ {n : Nat} {d : D} {u : V}, RepN c M ρ H n d u → RepN c' M' ρ H n d u := by
  intro n
  induction n with
  | zero =>
    intro d u h
    cases d with
    | cls k => show u = _; rw [v.C]; exact h
    | _ => exact h
  | succ n ih =>
    intro d u h
    cases d with
    | tup xs => obtain ⟨a, vs, e, z, r⟩ := h; exact ⟨a, vs, e, z.cv v, r.imp fun _ _ q => ih q⟩
    | lst xs => obtain ⟨a, vs, e, z, r⟩ := h; exact ⟨a, vs, e, z.cv v, r.imp fun _ _ q => ih q⟩
    | ins k fs => obtain ⟨a, dx, gs, e, z, e2, nm, r⟩ := h; exact ⟨a, dx, gs, e, v.z a z, by rw [v.C]; exact e2, by rw [v.N]; exact nm, r.imp fun _ _ q => ih q⟩
    | cls k => show u = _; rw [v.C]; exact h
    | _ => exact h
theorem Rep.cv (v : Cv c M c' M' ρ) {d : D} {u : V} (h : Rep c M ρ H d u) : Rep c' M' ρ H d u := let ⟨n, q⟩ := h; ⟨n, q.cv v⟩
theorem RepE.cv (v : Cv c M c' M' ρ) {d : EV} {u : V} (h : RepE c M ρ H d u) : RepE c' M' ρ H d u := by
  cases d with
  | d x => exact Rep.cv v h
  | o i => exact h
theorem repEs_cv (v : Cv c M c' M' ρ) {d : List EV} {u : List V} (h : All2 (RepE c M ρ H) d u) : All2 (RepE c' M' ρ H) d u := h.imp fun _ _ q => q.cv v
theorem flds_cv (v : Cv c M c' M' ρ) {k : String} {fs : List D} {gs : List (Str × V)} (h : Flds c M ρ H k fs gs) : Flds c' M' ρ H k fs gs := ⟨by rw [v.N]; exact h.nm, h.r.imp fun _ _ q => q.cv v⟩
theorem SR.cv (v : Cv c M c' M' ρ) (s : SR c M ρ G H) (h1 : ∀ a ∈ ρ, ¬ c'.B a ∧ ¬ M' a) (h2 : ∀ a, M' a → H a ≠ none) (h3 : ∀ a, c'.B a → H a ≠ none) : SR c' M' ρ G H :=
  ⟨s.len, s.nd, h1, fun i xs e => let ⟨a, vs, p, q, r⟩ := s.at_ i xs e; ⟨a, vs, p, q, repEs_cv v r⟩, h2, h3, fun i k e => by rw [v.C]; exact s.tb i k e⟩
/-- the frame forgets what is its own -/
theorem cv_drop : Cv c M c nM ρ := ⟨rfl, rfl, rfl, fun a h => ⟨h.1, fun z => z, h.2.2⟩⟩
theorem SR.drop (s : SR c M ρ G H) : SR c nM ρ G H := s.cv cv_drop (fun a h => ⟨(s.sep a h).1, fun z => z⟩) (fun _ z => z.elim) s.bt
/-- the callee's frame: what is ours is the callers' there -/
def sub (c : RC) (M : Addr → Prop) : RC := ⟨c.K, c.C, c.N, fun a => c.B a ∨ M a, 0, 0⟩
theorem cv_in : Cv c M (sub c M) nM ρ := ⟨rfl, rfl, rfl, fun a h => ⟨fun z => z.elim h.1 h.2.1, fun z => z, h.2.2⟩⟩
theorem cv_out : Cv (sub c M) nM c M ρ := ⟨rfl, rfl, rfl, fun a h => ⟨fun z => h.1 (.inl z), fun z => h.1 (.inr z), h.2.2⟩⟩
theorem SR.in_ (s : SR c M ρ G H) : SR (sub c M) nM ρ G H := s.cv cv_in (fun a h => ⟨fun z => z.elim (s.sep a h).1 (s.sep a h).2, fun z => z⟩) (fun _ z => z.elim) fun a z => z.elim (s.bt a) (s.mt a)
theorem SR.out (s : SR (sub c M) nM ρ G H) : SR c M ρ G H := s.cv cv_out (fun a h => ⟨fun z => (s.sep a h).1 (.inl z), fun z => (s.sep a h).1 (.inr z)⟩) (fun a z => s.bt a (.inr z)) fun a z => s.bt a (.inl z)
theorem TQ.in_ {W : WX} {σ : L2.St} {o : Out EV} {Q : VK} (h : TQ (RE c) c W M ρ σ H o Q) : TQ (RE (sub c M)) (sub c M) W nM ρ σ H o Q := by
  cases o with
  | ok e G => exact fun v ρ' H' g s r => h v ρ' H' ⟨g.keep, g.there, g.grow⟩ s.out (r.cv cv_out)
  | er cl fs G => exact fun dd gs ρ' H' g s e r => h dd gs ρ' H' ⟨g.keep, g.there, g.grow⟩ s.out e (flds_cv cv_out r)
  | st => exact h
end
/-! ### the promise of a def: its meaning g on n values -/
abbrev FM := List EV → GS → Out EV
/-- which numbers of arguments are taken -/
abbrev Ar := Nat → Bool
def arN (n : Nat) : Ar := fun m => m == n
def Spd (K : PySem.W.Frag) (C : String → Addr) (N : String → List Str) (n : Ar) (g : FM) : Sp := fun vs H Q E => n vs.length = true ∧ ∃ (B : Addr → Prop) (ρ : List Addr) (G : GS) (es : List EV), SR ⟨K, C, N, B, 0, 0⟩ nM ρ G H ∧ All2 (RepE ⟨K, C, N, B, 0, 0⟩ nM ρ H) es vs ∧
  TQ (RE ⟨K, C, N, B, 0, 0⟩) ⟨K, C, N, B, 0, 0⟩ (fun cls d _ H => E cls d H) nM ρ [] H (g es G) Q
abbrev FnG (P : Program) (w : World) (K : PySem.W.Frag) (mg : Str → Option Value) (base : Heap) (C : String → Addr) (N : String → List Str) (k : Nat) (f : Addr) (n : Ar) (g : FM) : Prop := FnR P w K mg base (L2N.CX P w) k f (Spd K C N n g)
theorem Spd.imp {K : PySem.W.Frag} {C : String → Addr} {N : String → List Str} {n : Ar} {g g' : FM} (h : ∀ es G, n es.length = true → g' es G ≠ .st → g es G = g' es G) : ∀ vs H Q E, Spd K C N n g' vs H Q E → Spd K C N n g vs H Q E := fun vs H Q E ⟨hl, B, ρ, G, es, s, r, q⟩ => by
  refine ⟨hl, B, ρ, G, es, s, r, ?_⟩
  rw [h es G (by rw [r.length]; exact hl) (fun z => by rw [z] at q; exact q)]
  exact q
/-- another meaning, equal where it is one -/
theorem FnG.imp {P : Program} {w : World} {K : PySem.W.Frag} {mg : Str → Option Value} {base : Heap} {C : String → Addr} {N : String → List Str} {k : Nat} {f : Addr} {n : Ar} {g g' : FM} (F : FnG P w K mg base C N k f n g) (h : ∀ es G, n es.length = true → g' es G ≠ .st → g es G = g' es G) :
    FnG P w K mg base C N k f n g' := FnR.imp F (Spd.imp h)
/-- a body's meaning on its arguments -/
def env0 (n : Nat) (es : List EV) : En := es.map .ev ++ List.replicate (n - es.length) .no
def retO (o : OutS) : Out EV := match o with
  | .nx _ G => .ok (.d .non) G
  | .rt e G => .ok e G
  | .er c fs _ G => .er c fs G
  | _ => .st
def runB (n : Nat) (m : SM) : FM := fun es G => retO (m (env0 n es) G)
theorem rl_start {c : RC} {ρ : List Addr} {G : GS} {es : List EV} {vs : List V} {H : Hp} {N : List Str} (s : SR c nM ρ G H) (r : All2 (RepE c nM ρ H) es vs) (hl : vs.length ≤ N.length) : Rl c nM ρ G (env0 N.length es) (L2.start N vs) H := by
  have hll := r.length
  refine ⟨s, by unfold env0 L2.start; simp; omega, fun _ => 0, fun i sl e => ?_, fun i j o u e1 => ?_⟩
  · unfold env0 at e
    by_cases hi : i < es.length
    · rw [List.getElem?_append_left (by simpa using hi), List.getElem?_map] at e
      cases q : es[i]? with
      | none => rw [q] at e; cases e
      | some x =>
        rw [q] at e
        cases e
        obtain ⟨v, hv, rv⟩ := r.get q
        refine ⟨v, ?_, rv⟩
        unfold L2.start
        rw [List.getElem?_append_left (by simpa using (List.getElem?_eq_some_iff.mp hv).1), List.getElem?_map, hv]
        rfl
    · rw [List.getElem?_append_right (by simpa using hi)] at e
      have := List.mem_of_getElem? e
      rw [List.eq_of_mem_replicate this]
      trivial
  · unfold env0 at e1
    have := List.mem_of_getElem? e1
    rcases List.mem_append.mp this with h | h
    · obtain ⟨_, _, z⟩ := List.mem_map.mp h; cases z
    · cases List.eq_of_mem_replicate h
theorem Gr.ge {M' : Addr → Prop} {ρ ρ' : List Addr} {H H' : Hp} (g : Gr nM ρ H M' ρ' H') : Ge nM ρ H ρ' H' := ⟨fun a o e n => g.keep a o e n fun z => z, g.there, g.grow⟩
theorem sq_of {c : RC} {E : XK} {ρ : List Addr} {H : Hp} {o : OutS} {Q : VK} (h : TQ (RE c) c (fun cls d _ H => E cls d H) nM ρ [] H (retO o) Q) : SQ c (fun cls d _ H => E cls d H) nM ρ H o { nx := fun _ H' => Q .non H', rt := Q } := by
  cases o with
  | nx env G => exact fun M' ρ' σ' H' g R => h .non ρ' H' g.ge R.s.drop Rep.non
  | rt e G => exact fun M' ρ' v H' g s r => h v ρ' H' g.ge s.drop (r.cv cv_drop)
  | er cl fs e G => exact fun M' ρ' σ' H' dd gs g R e f => h dd gs ρ' H' g.ge R.s.drop e (flds_cv cv_drop f)
  | bk e G => exact (show False from h).elim
  | ct e G => exact (show False from h).elim
  | st => exact h
section
variable {P : Program} {w : World} {K : PySem.W.Frag} {mg : Str → Option Value} {base : Heap} {C : String → Addr} {N : String → List Str}
/-- THE RULE for a def without defaults -/
theorem fng_of {x qual : Str} {st : Stmt} {f : Addr} {fd : FuncData} {Nm ps : List Str} {k : Nat} {m : SM} (F : Fun K x qual st f fd) (S : FnScope Nm ps (defScope st)) (bd : Binds K fd ps [])
    (hb : ∀ (cdv : Value) (A : Around) (outer : List Env) (s : Shared) (H : Hp) (E : XK) (B : Addr → Prop), Room k (A.deeper (envOfC qual (defScope st) s.heap.objs.size f cdv)) →
      DSs (cxOf (L2N.CX P w) P w K mg base Nm qual (defScope st) f cdv A outer s H E) ⟨K, C, N, B, 0, 0⟩ (fun cls d _ H => E cls d H) (defBody st) m) : FnG P w K mg base C N (k + 1) f (arN ps.length) (runB Nm.length m) := by
  have hlN : ps.length ≤ Nm.length := by have := congrArg List.length S.pre; rw [List.length_take] at this; omega
  have G : FnOk P w K mg base (L2N.CX P w) (k + 1) f fd ps (Spd K C N (arN ps.length) (runB Nm.length m)) := by
    obtain ⟨oc, od, kV, doc, pm, an, cdv, ct, osl, rfl, lk, hcd⟩ := F.ex
    refine fn_of lk hcd S (fun vs H Q E h => by simpa [arN] using h.1) fun A outer s H vs Q E hr hsp => ?_
    obtain ⟨hl, B, ρ, G, es, s0, r, q⟩ := hsp
    exact ⟨_, hb cdv A outer s H E B hr, nM, ρ, G, _, rl_start s0 r (by rw [show vs.length = ps.length by simpa [arN] using hl]; exact hlN), sq_of q⟩
  exact FnR.imp (G.raw bd .nil) fun vs H Q E h => by rw [List.append_nil]; exact h
end
/-! ### calls -/
def eCall (n : Ar) (g : FM) (r : AM) : EM := fun env G => (r env G).bind fun xs G1 => if n xs.length = true then g xs G1 else .st
section
variable {X : Cx} {c : RC} {W : WX} {e a b : Expr} {es : List Expr} {ma mb : EM} {mr : AM} {pos p : Pos} {M : Addr → Prop} {ρ : List Addr} {σ : L2.St} {H : Hp}
/-- a call of a def, where what it lets out passes at this very state -/
theorem run_fnA {CX : CXT} {k : Nat} {f : Addr} {sp : Sp} {E : XK} {Q : VK} {s : Shared} {pins : List (Addr × Obj)} {vs : List V} {us : List Value}
    (F : FnR X.prog X.w X.K X.mg X.base CX k f sp) (hr : Room k X.A) (hx : PassesAt CX X σ E) (I : Inv X pins σ H s) (r : Vals vs us) (h : sp vs H Q E) :
    codeAny (model X.prog X.w) X.A (.call (.ref f) ⟨us, []⟩)
      (fun res s' => match res with
        | .ok (.ret v) => EP X pins σ Q v s'
        | .ok _ => False
        | .error e => X.xe e s') s :=
  codeAny_mono (F X.A X.stack s H us vs Q E hr I.env0 r h) fun res s' z => match res, z with
    | .error e, z => hx pins H s e s' I z
    | .ok (.ret _), z => I.after z
    | .ok .next, z => z.elim
    | .ok .brk, z => z.elim
    | .ok .cont, z => z.elim
theorem spd_of {n : Ar} {g : FM} {es1 : List EV} {vs : List V} {G1 : GS} {Q : VK} (s1 : SR c M ρ G1 H) (r1 : All2 (RepE c M ρ H) es1 vs) (q1 : TQ (RE c) c W M ρ σ H (if n es1.length = true then g es1 G1 else .st) Q) : Spd c.K c.C c.N n g vs H Q (WE W σ) := by
  split at q1
  · rename_i hl
    have z := q1.in_
    refine ⟨by rw [← r1.length]; exact hl, _, ρ, G1, es1, s1.in_, repEs_cv cv_in r1, ?_⟩
    cases hg : g es1 G1 with
    | ok e G => rw [hg] at z; exact z
    | er cl fs G => rw [hg] at z; exact z
    | st => rw [hg] at z; exact z
  · exact q1.elim
theorem de_call {x : Str} {k : Nat} {n : Ar} {f : Addr} {g : FM} (F : FnG X.prog X.w X.K X.mg X.base c.C c.N k f n g) (hK : c.K = X.K) (hr : Room k X.A) (hg : Gl X x) (hm : X.mg x = some (.ref f)) (hk : PySem.W.keepIn X.K (.ref f) = true) (tk : L2N.Takes X W) (ha : DA X c W (e :: es) mr)
    (hdb : (x == ("__debug__" : Str)) = false := by decide) (he : starEach (e :: es) X.env = (false, eval e X.env) :: starEach es X.env := by rfl) (hpl : (backTo pos (starEach es X.env)).any (·.1) = false := by rfl) :
    DE X c W (.Call (.Name x p) (e :: es) [] pos) (eCall n g mr) := by
  refine ⟨fun pins s σ H Q I h => ?_⟩
  obtain ⟨M, ρ, G, env, R, q⟩ := h
  refine wpAny_Call_Name_kw (ld_glob I hg hm ?_ hdb)
  have h' : tDA c W mr σ H fun vs H1 => Spd c.K c.C c.N n g vs H1 Q (WE W σ) := ⟨M, ρ, G, env, R, (TQ.bind (R := RA c) q).imp fun v H1 ⟨ρ1, G1, e1, g1, s1, r1, q1⟩ => spd_of s1 r1 q1⟩
  refine PySem.W.callWith_K (h₀ := X.base) I.ok.mod.kin hk (thn (PA.run ha pos pins s σ H _ I h') fun us s1 ⟨vs, H1, I1, r, q⟩ => ⟨I1.kIn, ?_⟩) he hpl
  rw [hK] at q
  exact wpAny_call (run_fnA F hr (L2N.passAt tk σ) I1 r q)
end
end DL
set_option Elab.async false
set_option linter.all false
set_option maxRecDepth 100000
set_option maxHeartbeats 4000000
namespace DL
open PySem L2 PyProof.Rows
/-! ### values: arithmetic, comparisons, built-ins -/
def gII (f : Int → Int → D) : D → D → Option D
  | .int i, .int j => some (f i j)
  | _, _ => none
def gIC (p : Int → Int → Bool) (f : Int → Int → D) : D → D → Option D
  | .int i, .int j => if p i j = true then some (f i j) else none
  | _, _ => none
def strMax : Nat := 1000000
def gAdd : D → D → Option D
  | .int i, .int j => some (.int (i + j))
  | .str i, .str j => if i.length + j.length ≤ strMax then some (.str (i ++ j)) else none
  | _, _ => none
def cMul (i j : Int) : Bool := decide (-(2 ^ 64) < i ∧ i < 2 ^ 64) || decide (-(2 ^ 64) < j ∧ j < 2 ^ 64)
def cDiv (i j : Int) : Bool := decide (0 < j) && decide (j < 2 ^ 200)
def cPos (i j : Int) : Bool := decide (0 < j)
def cPow (i j : Int) : Bool := decide (0 ≤ j) && decide (j ≤ 1000000) && decide (i.natAbs < 2 ^ 64)
def fAdd : F2 := pure2 gAdd
def fSub : F2 := pure2 (gII fun i j => .int (i - j))
def fMul : F2 := pure2 (gIC cMul fun i j => .int (i * j))
def fDiv : F2 := pure2 (gIC cDiv fun i j => .int (i / j))
def fMod : F2 := pure2 (gIC cPos fun i j => .int (i % j))
def fPow : F2 := pure2 (gIC cPow fun i j => .int (i ^ j.toNat))
def fAnd : F2 := pure2 (gII fun i j => .int (Builtin.bitAnd i j))
def fOr : F2 := pure2 (gII fun i j => .int (Builtin.bitOr i j))
def fXor : F2 := pure2 (gII fun i j => .int (Builtin.bitXor i j))
def fLt : F2 := pure2 (gII fun i j => .bl (decide (i < j)))
def fLe : F2 := pure2 (gII fun i j => .bl (decide (i ≤ j)))
def fGt : F2 := pure2 (gII fun i j => .bl (decide (j < i)))
def fGe : F2 := pure2 (gII fun i j => .bl (decide (j ≤ i)))
/-! == of what holds no instance -/
mutual
def toPy : D → Option PyData
  | .non => some .none
  | .bl b => some (.bool b)
  | .int i => some (.int i)
  | .str x => some (.str x)
  | .lst xs => (toPys xs).map .list
  | .tup xs => (toPys xs).map .tuple
  | .ins _ _ => none
  | .cls _ => none
  | .ty _ => none
def toPys : List D → Option (List PyData)
  | [] => some []
  | x :: xs => (toPy x).bind fun a => (toPys xs).map (a :: ·)
end
/-- scalars: the answer at once; else by the data -/
def gEq : D → D → Option Bool
  | .int i, .int j => some (decide (i = j))
  | .str i, .str j => some (decide (i = j))
  | .bl i, .bl j => some (decide (i = j))
  | .non, .non => some true
  | .int _, .non => some false
  | .non, .int _ => some false
  | .str _, .non => some false
  | .non, .str _ => some false
  | .int _, .str _ => some false
  | .str _, .int _ => some false
  | a, b => match toPy a, toPy b with
    | some x, some y => if (SeqAt.shaped x && SeqAt.shaped y) = true then some (PyData.eqv x y) else none
    | _, _ => none
def fEq : F2 := pure2 fun a b => (gEq a b).map .bl
def fNe : F2 := pure2 fun a b => (gEq a b).map fun k => .bl (!k)
def isNon : D → Bool
  | .non => true
  | _ => false
def fIs : F2 := fun x y G => match x, y with
  | .d a, .d .non => some (.d (.bl (isNon a)), G)
  | _, _ => none
def fIsNot : F2 := fun x y G => match x, y with
  | .d a, .d .non => some (.d (.bl (!isNon a)), G)
  | _, _ => none
def fNeg : F1 := pure1 fun
  | .int i => some (.int (-i))
  | _ => none
section
variable {X : Cx} {c : RC} {M : Addr → Prop} {ρ : List Addr} {H : Hp} {x y : V} {Q : VK}
theorem opr_imp {f : Value → Value → Sem Value} {r r' : R2} (h : OpR X f r) (k : ∀ x y H Q, r' x y H Q → r x y H Q) : OpR X f r' := fun pins s σ H x y v u Q I rx ry q => h pins s σ H x y v u Q I rx ry (k _ _ _ _ q)
theorem unr_imp {f : Value → Sem Value} {r r' : V → Hp → VK → Prop} (h : UnR X f r) (k : ∀ x H Q, r' x H Q → r x H Q) : UnR X f r' := fun pins s σ H x v Q I rx q => h pins s σ H x v Q I rx (k _ _ _ q)
theorem callr_imp {f : Value} {r r' : List V → Hp → VK → Prop} (h : CallR X f r) (k : ∀ x H Q, r' x H Q → r x H Q) : CallR X f r' := fun pins s σ H x v Q I rx q => h pins s σ H x v Q I rx (k _ _ _ q)
/-- what is known of two plain operands -/
theorem v2_pure {g : D → D → Option D} (h : V2 c (pure2 g) x y H Q) : ∃ M ρ G a b z, SR c M ρ G H ∧ Rep c M ρ H a x ∧ Rep c M ρ H b y ∧ g a b = some z ∧ ∀ v H', Same H H' → Rep c M ρ H' z v → Q v H' := by
  obtain ⟨M, ρ, G, a, b, s, ra, rb, q⟩ := h
  cases a with
  | o i => exact q.elim
  | d a =>
    cases b with
    | o i => exact q.elim
    | d b =>
      dsimp only [pure2] at q
      cases hz : g a b with
      | none => rw [hz] at q; exact q.elim
      | some z =>
        rw [hz] at q
        exact ⟨M, ρ, G, a, b, z, s, ra, rb, hz, fun v H' sm r => q v ρ H' (Ge.same sm) (s.same sm) r⟩
theorem v1_pure {g : D → Option D} (h : V1 c (pure1 g) x H Q) : ∃ M ρ G a z, SR c M ρ G H ∧ Rep c M ρ H a x ∧ g a = some z ∧ ∀ v H', Same H H' → Rep c M ρ H' z v → Q v H' := by
  obtain ⟨M, ρ, G, a, s, ra, q⟩ := h
  cases a with
  | o i => exact q.elim
  | d a =>
    dsimp only [pure1] at q
    cases hz : g a with
    | none => rw [hz] at q; exact q.elim
    | some z =>
      rw [hz] at q
      exact ⟨M, ρ, G, a, z, s, ra, hz, fun v H' sm r => q v ρ H' (Ge.same sm) (s.same sm) r⟩
theorem datas_rep : ∀ {es : List EV} {vs : List V} {ds : List D}, datas es = some ds → All2 (RepE c M ρ H) es vs → All2 (Rep c M ρ H) ds vs
  | [], _, _, h, .nil => by cases h; exact .nil
  | .d x :: es, _, _, h, .cons r t => by
    dsimp only [datas] at h
    cases q : datas es with
    | none => rw [q] at h; cases h
    | some xs =>
      rw [q] at h
      cases h
      exact .cons r (datas_rep q t)
  | .o i :: es, _, _, h, _ => by cases h
theorem vn_pure {g : List D → Option D} {vs : List V} (h : VN c (pureN g) vs H Q) : ∃ M ρ G ds z, SR c M ρ G H ∧ All2 (Rep c M ρ H) ds vs ∧ g ds = some z ∧ ∀ v H', Same H H' → Rep c M ρ H' z v → Q v H' := by
  obtain ⟨M, ρ, G, es, s, r, q⟩ := h
  dsimp only [pureN] at q
  cases hd : datas es with
  | none => rw [hd] at q; exact q.elim
  | some ds =>
    rw [hd] at q
    dsimp only [Option.bind] at q
    cases hz : g ds with
    | none => rw [hz] at q; exact q.elim
    | some z =>
      rw [hz] at q
      exact ⟨M, ρ, G, ds, z, s, datas_rep hd r, hz, fun v H' sm r => q v ρ H' (Ge.same sm) (s.same sm) r⟩
theorem same_refl : Same H H := fun _ _ h => h
theorem gII_of {f : Int → Int → D} {a b z : D} (h : gII f a b = some z) (ra : Rep c M ρ H a x) (rb : Rep c M ρ H b y) : ∃ i j, x = .int i ∧ y = .int j ∧ z = f i j := by
  cases a <;> cases b <;> first | (cases h; done) | skip
  injection h with h
  exact ⟨_, _, ra.of_int, rb.of_int, h.symm⟩
theorem gIC_of {p : Int → Int → Bool} {f : Int → Int → D} {a b z : D} (h : gIC p f a b = some z) (ra : Rep c M ρ H a x) (rb : Rep c M ρ H b y) : ∃ i j, x = .int i ∧ y = .int j ∧ p i j = true ∧ z = f i j := by
  cases a <;> cases b <;> first | (cases h; done) | skip
  dsimp only [gIC] at h
  split at h
  · rename_i hp
    injection h with h
    exact ⟨_, _, ra.of_int, rb.of_int, hp, h.symm⟩
  · cases h
theorem op2I {f : Value → Value → Sem Value} {g : Int → Int → Int} (h : OpR X f (rI0 fun i j => .int (g i j))) : OpR X f (V2 c (pure2 (gII fun i j => .int (g i j)))) := opr_imp h fun x y H Q q => by
  obtain ⟨M, ρ, G, a, b, z, s, ra, rb, hz, q⟩ := v2_pure q
  obtain ⟨i, j, rfl, rfl, rfl⟩ := gII_of hz ra rb
  exact ⟨i, j, rfl, rfl, q _ _ same_refl .int⟩
theorem op2B {f : Value → Value → Sem Value} {g : Int → Int → Bool} (h : OpR X f (rI0 fun i j => .bl (g i j))) : OpR X f (V2 c (pure2 (gII fun i j => .bl (g i j)))) := opr_imp h fun x y H Q q => by
  obtain ⟨M, ρ, G, a, b, z, s, ra, rb, hz, q⟩ := v2_pure q
  obtain ⟨i, j, rfl, rfl, rfl⟩ := gII_of hz ra rb
  exact ⟨i, j, rfl, rfl, q _ _ same_refl .bl⟩
theorem op2C {f : Value → Value → Sem Value} {p : Int → Int → Bool} {C : Int → Int → Prop} {g : Int → Int → Int} (h : OpR X f (rI C fun i j => .int (g i j))) (k : ∀ i j, p i j = true → C i j) : OpR X f (V2 c (pure2 (gIC p fun i j => .int (g i j)))) := opr_imp h fun x y H Q q => by
  obtain ⟨M, ρ, G, a, b, z, s, ra, rb, hz, q⟩ := v2_pure q
  obtain ⟨i, j, rfl, rfl, hp, rfl⟩ := gIC_of hz ra rb
  exact ⟨i, j, rfl, rfl, k i j hp, q _ _ same_refl .int⟩
theorem dop_sub : OpR X (binaryOp .Sub) (V2 c fSub) := op2I op_sub
theorem dop_mul : OpR X (binaryOp .Mult) (V2 c fMul) := op2C op_mul fun i j h => by
  rcases Bool.or_eq_true_iff.mp h with h | h
  · exact .inl (of_decide_eq_true h)
  · exact .inr (of_decide_eq_true h)
theorem dop_div : OpR X (binaryOp .FloorDiv) (V2 c fDiv) := op2C op_fdivW fun i j h => by
  obtain ⟨h1, h2⟩ := Bool.and_eq_true_iff.mp h
  have h1 : 0 < j := of_decide_eq_true h1
  have h2 : j < 2 ^ 200 := of_decide_eq_true h2
  exact wide_div (b := 200) h1 (by omega) (by decide) (by decide)
theorem dop_mod : OpR X (binaryOp .Mod) (V2 c fMod) := op2C op_mod fun i j h => of_decide_eq_true h
theorem cpow_ok {i j : Int} (h : cPow i j = true) : CPow i j := by
  obtain ⟨h1, h3⟩ := Bool.and_eq_true_iff.mp h
  obtain ⟨h1, h2⟩ := Bool.and_eq_true_iff.mp h1
  exact ⟨of_decide_eq_true h1, of_decide_eq_true h2, of_decide_eq_true h3⟩
theorem dop_pow : OpR X (binaryOp .Pow) (V2 c fPow) := op2C op_pow fun i j h => cpow_ok h
theorem dop_lt : OpR X (compareOp .Lt) (V2 c fLt) := op2B op_lt
theorem dop_le : OpR X (compareOp .LtE) (V2 c fLe) := op2B op_le
theorem dop_gt : OpR X (compareOp .Gt) (V2 c fGt) := op2B op_gt
theorem dop_ge : OpR X (compareOp .GtE) (V2 c fGe) := op2B op_ge
theorem dop_add : OpR X (binaryOp .Add) (V2 c fAdd) := opr_imp (op_add.or op_add_str) fun x y H Q q => by
  obtain ⟨M, ρ, G, a, b, z, s, ra, rb, hz, q⟩ := v2_pure q
  cases a <;> cases b <;> first | (cases hz; done) | skip
  · injection hz with hz
    cases hz
    exact .inl ⟨_, _, ra.of_int, rb.of_int, q _ _ same_refl .int⟩
  · dsimp only [gAdd] at hz
    split at hz
    · rename_i hl
      injection hz with hz
      cases hz
      exact .inr ⟨_, _, ra.of_str, rb.of_str, Nat.le_trans hl (by decide), q _ _ same_refl .str⟩
    · cases hz
mutual
theorem toPy_dp {K : PySem.W.Frag} (hK : c.K = K) : ∀ (d : D) (p : PyData) (v : V), toPy d = some p → Rep c M ρ H d v → Dp K H v p
  | .non, p, v, h, r => by cases h; cases r.of_non; exact .non
  | .bl b, p, v, h, r => by cases h; cases r.of_bl; exact .bl b
  | .int b, p, v, h, r => by cases h; cases r.of_int; exact .int b
  | .str b, p, v, h, r => by cases h; cases r.of_str; exact .str b
  | .lst xs, p, v, h, r => by
    obtain ⟨a, vs, rfl, z, q⟩ := r.of_lst
    dsimp only [toPy] at h
    cases e : toPys xs with
    | none => rw [e] at h; cases h
    | some ps => rw [e] at h; cases h; exact .lst (by rw [← hK]; exact z.sq) (toPys_dp hK xs ps vs e q)
  | .tup xs, p, v, h, r => by
    obtain ⟨a, vs, rfl, z, q⟩ := r.of_tup
    dsimp only [toPy] at h
    cases e : toPys xs with
    | none => rw [e] at h; cases h
    | some ps => rw [e] at h; cases h; exact .tup (by rw [← hK]; exact z.sq) (toPys_dp hK xs ps vs e q)
  | .ins _ _, p, v, h, r => by cases h
  | .cls _, p, v, h, r => by cases h
  | .ty _, p, v, h, r => by cases h
theorem toPys_dp {K : PySem.W.Frag} (hK : c.K = K) : ∀ (ds : List D) (ps : List PyData) (vs : List V), toPys ds = some ps → All2 (Rep c M ρ H) ds vs → DpAll K H vs ps
  | [], ps, vs, h, r => by cases h; cases r; exact .nil
  | d :: ds, ps, vs, h, r => by
    cases r with
    | cons r t =>
      dsimp only [toPys] at h
      cases e1 : toPy d with
      | none => rw [e1] at h; cases h
      | some p =>
        rw [e1] at h
        dsimp only [Option.bind] at h
        cases e2 : toPys ds with
        | none => rw [e2] at h; cases h
        | some qs => rw [e2] at h; cases h; exact .cons (toPy_dp hK d p _ e1 r) (toPys_dp hK ds qs _ e2 t)
end
theorem geq_of {K : PySem.W.Frag} (hK : c.K = K) {a b : D} {k : Bool} (h : gEq a b = some k) (ra : Rep c M ρ H a x) (rb : Rep c M ρ H b y) :
    (scal x y = true ∧ decide (x = y) = k) ∨ ∃ d e, Dp K H x d ∧ Dp K H y e ∧ SeqAt.shaped d = true ∧ SeqAt.shaped e = true ∧ PyData.eqv d e = k := by
  have gen : (match toPy a, toPy b with
    | some x, some y => if (SeqAt.shaped x && SeqAt.shaped y) = true then some (PyData.eqv x y) else none
    | _, _ => none) = some k → ∃ d e, Dp K H x d ∧ Dp K H y e ∧ SeqAt.shaped d = true ∧ SeqAt.shaped e = true ∧ PyData.eqv d e = k := fun h => by
    cases e1 : toPy a with
    | none => rw [e1] at h; cases h
    | some p =>
      cases e2 : toPy b with
      | none => rw [e1, e2] at h; cases h
      | some q =>
        rw [e1, e2] at h
        dsimp only at h
        split at h
        · rename_i hs
          obtain ⟨h1, h2⟩ := Bool.and_eq_true_iff.mp hs
          injection h with h
          exact ⟨p, q, toPy_dp hK a p x e1 ra, toPy_dp hK b q y e2 rb, h1, h2, h⟩
        · cases h
  unfold gEq at h
  split at h
  · injection h with h; cases ra.of_int; cases rb.of_int; exact .inl ⟨rfl, by rw [← h]; simp⟩
  · injection h with h; cases ra.of_str; cases rb.of_str; exact .inl ⟨rfl, by rw [← h]; simp⟩
  · injection h with h; cases ra.of_bl; cases rb.of_bl; exact .inl ⟨rfl, by rw [← h]; simp⟩
  · injection h with h; cases ra.of_non; cases rb.of_non; exact .inl ⟨rfl, by rw [← h]; simp⟩
  · injection h with h; cases ra.of_int; cases rb.of_non; exact .inl ⟨rfl, by rw [← h]; simp⟩
  · injection h with h; cases ra.of_non; cases rb.of_int; exact .inl ⟨rfl, by rw [← h]; simp⟩
  · injection h with h; cases ra.of_str; cases rb.of_non; exact .inl ⟨rfl, by rw [← h]; simp⟩
  · injection h with h; cases ra.of_non; cases rb.of_str; exact .inl ⟨rfl, by rw [← h]; simp⟩
  · injection h with h; cases ra.of_int; cases rb.of_str; exact .inl ⟨rfl, by rw [← h]; simp⟩
  · injection h with h; cases ra.of_str; cases rb.of_int; exact .inl ⟨rfl, by rw [← h]; simp⟩
  · exact .inr (gen h)
theorem dop_eq (hK : c.K = X.K) (hu : X.A.units + 64 < cLine) : OpR X (compareOp .Eq) (V2 c fEq) := opr_imp (op_eq.or (op_eqD hu)) fun x y H Q q => by
  obtain ⟨M, ρ, G, a, b, z, s, ra, rb, hz, q⟩ := v2_pure q
  cases hk : gEq a b with
  | none => rw [hk] at hz; cases hz
  | some k =>
    rw [hk] at hz
    injection hz with hz
    cases hz
    rcases geq_of hK hk ra rb with ⟨h1, h2⟩ | ⟨d, e, h1, h2, h3, h4, h5⟩
    · exact .inl ⟨h1, by rw [h2]; exact q _ _ same_refl .bl⟩
    · exact .inr ⟨d, e, h1, h2, h3, h4, by rw [h5]; exact q _ _ same_refl .bl⟩
theorem dop_is : OpR X (compareOp .Is) (V2 c fIs) := opr_imp op_isN fun x y H Q q => by
  obtain ⟨M, ρ, G, a, b, s, ra, rb, q⟩ := q
  unfold fIs at q
  split at q
  · rename_i d
    refine ⟨Rep.of_non rb, ?_⟩
    have e : decide (x = .non) = isNon d := by
      cases d with
      | non => cases Rep.of_non ra; rfl
      | bl b => cases Rep.of_bl ra; rfl
      | int b => cases Rep.of_int ra; rfl
      | str b => cases Rep.of_str ra; rfl
      | cls b => cases Rep.of_cls ra; rfl
      | ty b => cases Rep.of_ty ra; rfl
      | lst b => obtain ⟨_, _, rfl, _⟩ := Rep.of_lst ra; rfl
      | tup b => obtain ⟨_, _, rfl, _⟩ := Rep.of_tup ra; rfl
      | ins b c => obtain ⟨_, _, _, rfl, _⟩ := Rep.of_ins ra; rfl
    rw [e]
    exact q _ ρ H Ge.refl s Rep.bl
  · exact q.elim
theorem dop_isnot : OpR X (compareOp .IsNot) (V2 c fIsNot) := opr_imp op_notN fun x y H Q q => by
  obtain ⟨M, ρ, G, a, b, s, ra, rb, q⟩ := q
  unfold fIsNot at q
  split at q
  · rename_i d
    refine ⟨Rep.of_non rb, ?_⟩
    have e : decide (x = .non) = isNon d := by
      cases d with
      | non => cases Rep.of_non ra; rfl
      | bl b => cases Rep.of_bl ra; rfl
      | int b => cases Rep.of_int ra; rfl
      | str b => cases Rep.of_str ra; rfl
      | cls b => cases Rep.of_cls ra; rfl
      | ty b => cases Rep.of_ty ra; rfl
      | lst b => obtain ⟨_, _, rfl, _⟩ := Rep.of_lst ra; rfl
      | tup b => obtain ⟨_, _, rfl, _⟩ := Rep.of_tup ra; rfl
      | ins b c => obtain ⟨_, _, _, rfl, _⟩ := Rep.of_ins ra; rfl
    rw [e]
    exact q _ ρ H Ge.refl s Rep.bl
  · exact q.elim
theorem dun_neg : UnR X (unaryOp .USub) (V1 c fNeg) := unr_imp un_neg fun x H Q q => by
  obtain ⟨M, ρ, G, a, z, s, ra, hz, q⟩ := v1_pure q
  cases a <;> first | (cases hz; done) | skip
  injection hz with hz; cases hz
  exact ⟨_, ra.of_int, q _ _ same_refl .int⟩
end
end DL
set_option Elab.async false
set_option linter.all false
set_option maxRecDepth 100000
set_option maxHeartbeats 4000000
namespace DL
open PySem L2 PyProof.Rows
/-! ### fields by their places -/
def ixf (f : Str) : List Str → Option Nat
  | [] => none
  | g :: r => if g = f then some 0 else (ixf f r).map (· + 1)
theorem lookup_cons {f g : Str} {v : V} {r : List (Str × V)} : ((g, v) :: r).lookup f = if f = g then some v else r.lookup f := by
  by_cases h : f = g
  · subst h; simp [List.lookup]
  · have : (f == g) = false := by simpa using h
    simp [List.lookup, this, h]
theorem lookup_ix {f : Str} {i : Nat} : ∀ {nm : List Str} {gs : List (Str × V)} {i : Nat}, gs.map (·.1) = nm.take gs.length → ixf f nm = some i → gs.lookup f = (gs[i]?).map (·.2)
  | _, [], i, _, _ => by simp
  | [], (g, v) :: gs, i, _, h => by cases h
  | n :: nm, (g, v) :: gs, i, e, h => by
    simp only [List.map_cons, List.length_cons, List.take_succ_cons, List.cons.injEq] at e
    obtain ⟨rfl, e⟩ := e
    rw [lookup_cons]
    unfold ixf at h
    by_cases q : g = f
    · subst q
      rw [if_pos rfl] at h ⊢
      cases h
      rfl
    · rw [if_neg q] at h
      rw [if_neg (fun z => q z.symm)]
      cases hx : ixf f nm with
      | none => rw [hx] at h; cases h
      | some j =>
        rw [hx] at h
        cases h
        rw [lookup_ix (i := j) e hx]
        simp
theorem lookup_no {f : Str} : ∀ {nm : List Str} {gs : List (Str × V)}, gs.map (·.1) = nm.take gs.length → ixf f nm = none → gs.lookup f = none
  | _, [], _, _ => rfl
  | [], (g, v) :: gs, e, _ => by simp at e
  | n :: nm, (g, v) :: gs, e, h => by
    simp only [List.map_cons, List.length_cons, List.take_succ_cons, List.cons.injEq] at e
    obtain ⟨rfl, e⟩ := e
    rw [lookup_cons]
    unfold ixf at h
    by_cases q : g = f
    · subst q; rw [if_pos rfl] at h; cases h
    · rw [if_neg q] at h
      rw [if_neg (fun z => q z.symm)]
      exact lookup_no e (by cases hx : ixf f nm with
        | none => rfl
        | some j => rw [hx] at h; cases h)
theorem putF_set {f : Str} {v : V} : ∀ {nm : List Str} {gs : List (Str × V)} {i : Nat}, gs.map (·.1) = nm.take gs.length → ixf f nm = some i → i < gs.length → putF f v gs = gs.set i (f, v)
  | _, [], i, _, _, h => absurd h (Nat.not_lt_zero _)
  | [], (g, u) :: gs, i, _, h, _ => by cases h
  | n :: nm, (g, u) :: gs, i, e, h, hl => by
    simp only [List.map_cons, List.length_cons, List.take_succ_cons, List.cons.injEq] at e
    obtain ⟨rfl, e⟩ := e
    unfold ixf at h
    unfold putF
    by_cases q : g = f
    · subst q
      rw [if_pos rfl] at h
      cases h
      simp
    · rw [if_neg q] at h
      cases hx : ixf f nm with
      | none => rw [hx] at h; cases h
      | some j =>
        rw [hx] at h
        cases h
        have z := putF_set (v := v) (i := j) e hx (by simpa using hl)
        simp [q, fun z => q (Eq.symm z), z]
theorem putF_new {f : Str} {v : V} : ∀ {nm : List Str} {gs : List (Str × V)}, gs.map (·.1) = nm.take gs.length → ixf f nm = some gs.length → putF f v gs = gs ++ [(f, v)]
  | _, [], _, _ => rfl
  | [], (g, u) :: gs, _, h => by cases h
  | n :: nm, (g, u) :: gs, e, h => by
    simp only [List.map_cons, List.length_cons, List.take_succ_cons, List.cons.injEq] at e
    obtain ⟨rfl, e⟩ := e
    unfold ixf at h
    unfold putF
    by_cases q : g = f
    · subst q
      rw [if_pos rfl] at h
      cases h
    · rw [if_neg q] at h
      cases hx : ixf f nm with
      | none => rw [hx] at h; cases h
      | some j =>
        rw [hx] at h
        have hj : j = gs.length := by simpa using h
        subst hj
        have z := putF_new (v := v) e hx
        simp [q, fun z => q (Eq.symm z), z]
theorem ixf_at {f : Str} : ∀ {nm : List Str} {i : Nat}, ixf f nm = some i → nm[i]? = some f
  | [], i, h => by cases h
  | g :: nm, i, h => by
    unfold ixf at h
    by_cases q : g = f
    · subst q; rw [if_pos rfl] at h; cases h; rfl
    · rw [if_neg q] at h
      cases hx : ixf f nm with
      | none => rw [hx] at h; cases h
      | some j => rw [hx] at h; cases h; simpa using ixf_at hx
def fput (i : Nat) (x : D) (fs : List D) : Option (List D) := if i < fs.length then some (fs.set i x) else if i = fs.length then some (fs ++ [x]) else none
section
variable {c : RC} {M : Addr → Prop} {ρ : List Addr} {H : Hp}
theorem flds_get {k : String} {f : Str} {i : Nat} {x : D} {fs : List D} {gs : List (Str × V)} (h : Flds c M ρ H k fs gs) (hi : ixf f (c.N k) = some i) (hx : fs[i]? = some x) : ∃ v, gs.lookup f = some v ∧ Rep c M ρ H x v := by
  obtain ⟨q, hq, r⟩ := h.r.get hx
  exact ⟨q.2, by rw [lookup_ix (i := i) h.nm hi, hq]; rfl, r⟩
theorem flds_none {k : String} {f : Str} {fs : List D} {gs : List (Str × V)} (h : Flds c M ρ H k fs gs) (hi : ixf f (c.N k) = none) : gs.lookup f = none := lookup_no h.nm hi
theorem flds_len {k : String} {fs : List D} {gs : List (Str × V)} (h : Flds c M ρ H k fs gs) : gs.length = fs.length := h.r.length.symm
theorem flds_put {k : String} {f : Str} {i : Nat} {x : D} {v : V} {fs fs' : List D} {gs : List (Str × V)} (r : Rep c M ρ H x v) (h : Flds c M ρ H k fs gs) (hi : ixf f (c.N k) = some i) (hp : fput i x fs = some fs') : Flds c M ρ H k fs' (putF f v gs) := by
  have hl := flds_len h
  unfold fput at hp
  split at hp
  · rename_i h1
    cases hp
    rw [putF_set h.nm hi (by omega)]
    refine ⟨?_, All2.set (R := fun (p : D) (q : Str × V) => Rep c M ρ H p q.2) (a := x) (b := (f, v)) r i h.r⟩
    rw [List.length_set, ← h.nm, List.map_set]
    refine List.ext_getElem? fun j => ?_
    by_cases hj : i = j
    · subst hj
      have e : (gs.map (·.1))[i]? = some f := by
        rw [h.nm, List.getElem?_take, if_pos (by omega)]
        exact ixf_at hi
      rw [List.getElem?_set_self (by simpa using (by omega : i < gs.length)), e]
    · rw [List.getElem?_set_ne hj]
  · split at hp
    · rename_i h1 h2
      cases hp
      rw [putF_new h.nm (by rw [hi, h2, hl])]
      refine ⟨?_, h.r.append (.cons r .nil)⟩
      have e := ixf_at hi
      rw [List.map_append, List.length_append, h.nm]
      show _ = (c.N k).take (gs.length + 1)
      have e' : (c.N k)[gs.length]? = some f := by rw [hl, ← h2]; exact e
      rw [List.take_add_one, e']
      rfl
    · cases hp
end
/-! ### instances -/
/-- what is read off an instance of one of the classes ks -/
def kix : List (String × Nat) → String → Option Nat
  | [], _ => none
  | (k, i) :: r, k' => if k = k' then some i else kix r k'
def gFld (ks : List (String × Nat)) : D → Option D
  | .ins k fs => (kix ks k).bind fun i => fs[i]?
  | _ => none
def eFld (ks : List (String × Nat)) (m : EM) : EM := eUn (pure1 (gFld ks)) m
structure HasF (K : PySem.W.Frag) (C : String → Addr) (N : String → List Str) (f : Str) (k : String) (i : Nat) : Prop where
  cl : Cls K (C k)
  na : NoAttr K (C k) f
  ix : ixf f (N k) = some i
section
variable {X : Cx} {c : RC} {W : WX} {e o : Expr} {es : List Expr} {me mo : EM} {mr : AM} {pos p apos : Pos} {M : Addr → Prop} {ρ : List Addr} {σ : L2.St} {H : Hp} {G : GS} {env : En}
theorem de_fld {ks : List (String × Nat)} {f : Str} (hK : c.K = X.K) (h : ∀ k i, kix ks k = some i → HasF X.K c.C c.N f k i) (he : DE X c W e me) (hb : attributeBase e f X.env (eval e X.env) = eval e X.env := by rfl) :
    DE X c W (.Attribute e f pos) (eFld ks me) := by
  refine pe_imp (pe_fld he hb) fun σ H Q q => ?_
  obtain ⟨M, ρ, G, env, R, q⟩ := q
  refine ⟨M, ρ, G, env, R, (TQ.bind (R := RE c) q).imp fun v H1 ⟨ρ1, G1, e1, g1, s1, r1, q1⟩ => ?_⟩
  obtain ⟨M, ρ, G, a, z, s, ra, hz, q⟩ := v1_pure (⟨M, ρ1, G1, e1, s1, r1, VQ.of q1⟩ : V1 c (pure1 (gFld ks)) v H1 Q)
  cases a <;> first | (cases hz; done) | skip
  rename_i k fs
  dsimp only [gFld] at hz
  cases hk : kix ks k with
  | none => rw [hk] at hz; cases hz
  | some i =>
    rw [hk] at hz
    obtain ⟨a, dx, gs, rfl, z, e2, fl⟩ := ra.of_ins
    obtain ⟨v, hv, rv⟩ := flds_get fl (h k i hk).ix hz
    exact ⟨a, c.C k, dx, gs, v, rfl, e2, (h k i hk).cl, (h k i hk).na, hv, q _ _ same_refl rv⟩
/-- self.f = e in an __init__ -/
def sFld (i : Nat) (k : String) (ix : Nat) (m : EM) : SM := fun env G => ofE (m env G) env fun e G1 => match e, env[i]? with
  | .d x, some (.own (.ins k' fs)) => if k' = k ∧ fs.length < 900 then (match fput ix x fs with
    | some fs' => .nx (env.set i (.own (.ins k fs'))) G1
    | none => .st) else .st
  | _, _ => .st
theorem env_set {i : Nat} {s : Sl} {sl : Sl} {j : Nat} {env : En} (e : (env.set i s)[j]? = some sl) : (j = i ∧ sl = s) ∨ (j ≠ i ∧ env[j]? = some sl) := by
  by_cases hj : j = i
  · subst hj
    have hl : j < env.length := by
      have := (List.getElem?_eq_some_iff.mp e).1
      rwa [List.length_set] at this
    rw [List.getElem?_set_self hl] at e
    exact .inl ⟨rfl, (Option.some.inj e).symm⟩
  · rw [List.getElem?_set_ne (Ne.symm hj)] at e
    exact .inr ⟨hj, e⟩
/-- the frame's own instance is written -/
theorem gr_own {a : Addr} {o : HO} {u : HO} (hm : M a) (e : H a = some u) : Gr M ρ H M ρ (upd H a o) :=
  ⟨fun b w q n m => by rw [upd_ne (fun z => m (by rw [z]; exact hm))]; exact q, fun b w q => by
    by_cases h : b = a
    · subst h; exact ⟨o, upd_same⟩
    · exact ⟨w, by rw [upd_ne h]; exact q⟩, ⟨[], by simp, by simp⟩, fun _ h => .inl h⟩
theorem SR.own {a : Addr} {o u : HO} (s : SR c M ρ G H) (hm : M a) (e : H a = some u) (nc : ∀ b q, u ≠ LamX.CodeO b q) : SR c M ρ G (upd H a o) := by
  have ne : ∀ b, b ∈ ρ → b ≠ a := fun b hb z => (s.sep b hb).2 (by rw [z]; exact hm)
  refine ⟨s.len, s.nd, s.sep, fun i xs e1 => ?_, fun b m => ?_, fun b m => ?_, fun i k e1 => ?_⟩
  · obtain ⟨b, vs, p, q, r⟩ := s.at_ i xs e1
    exact ⟨b, vs, p, by rw [upd_ne (ne b (List.mem_of_getElem? p))]; exact q, repEs_grow r (gr_own hm e)⟩
  · by_cases h : b = a
    · subst h; rw [upd_same]; simp
    · rw [upd_ne h]; exact s.mt b m
  · by_cases h : b = a
    · subst h; rw [upd_same]; simp
    · rw [upd_ne h]; exact s.bt b m
  · obtain ⟨p, t⟩ := s.tb i k e1
    exact ⟨p, tabs_keep t (fun ps z => by rw [upd_ne (ne _ (List.mem_of_getElem? p))]; exact z) fun b z => by rw [upd_ne (fun y => nc b _ (Option.some.inj (e.symm.trans ((congrArg H y).symm.trans z))))]; exact z⟩
theorem ds_fld {i ix : Nat} {x f : Str} {k : String} {p' p'' : Pos} (h : HasF X.K c.C c.N f k ix) (hv : PE X (.Name x p'') (tVar i)) (he : DE X c W e me)
    (hs : swapsWith e (some (.Attribute (.Name x p'') f p')) pos.line X.env = pure false := by rfl) : DS X c W (.Assign [.Attribute (.Name x p'') f p'] e pos) (sFld i k ix me) := by
  refine ps_imp (ps_fld hv he hs) fun Dn σ H q => ?_
  obtain ⟨M, ρ, G, env, R, q⟩ := q
  refine ⟨M, ρ, G, env, R, (SQ.ofE (R := RE c) R q).imp fun v H1 ⟨ρ1, G1, e1, g1, R1, r1, q1⟩ => ?_⟩
  split at q1
  · rename_i x k' fs hi
    split at q1
    · rename_i hk
      obtain ⟨rfl, hl⟩ := hk
      split at q1
      rotate_left
      · exact q1.elim
      rename_i fs' hp
      obtain ⟨oa, h1, h2⟩ := R1.e
      obtain ⟨hσ, ho, hm, dx, gs, hH, fl⟩ := h1 i _ hi
      have gw := gr_own (ρ := ρ1) (o := .ins (c.C k') dx (putF f v gs)) hm hH
      refine ⟨_, hσ, c.s, c.C k', dx, gs, rfl, hH, h.cl, h.na, by rw [flds_len fl]; omega, q1 M ρ1 σ _ gw ⟨R1.s.own hm hH (fun _ _ => ins_code), by simpa using R1.len, oa, fun j sl e => ?_, fun j j2 o u e1 e2 e3 => ?_⟩⟩
      · rcases env_set e with ⟨rfl, rfl⟩ | ⟨hj, e⟩
        · exact ⟨hσ, ho, hm, dx, _, upd_same, flds_grow (flds_put r1 fl h.ix hp) gw⟩
        · have hq := h1 j sl e
          match sl, hq with
          | .no, _ => trivial
          | .ev e, ⟨v, a, b⟩ => exact ⟨v, a, b.grow gw⟩
          | .own (.lst xs), ⟨a, b, vs, d, r⟩ =>
            have ne : oa j ≠ c.s := fun z => hj (h2 j i _ _ e hi (z.trans ho.symm))
            exact ⟨a, b, vs, by rw [upd_ne ne]; exact d, reps_grow r gw⟩
          | .own (.ins k2 f2), ⟨a, o2, b⟩ => exact absurd (h2 j i _ _ e hi (o2.trans ho.symm)) hj
          | .exn k2 f2, ⟨a, b⟩ => exact ⟨a, b.grow gw⟩
      · rcases env_set e1 with ⟨h5, _⟩ | ⟨_, f1⟩
        · rcases env_set e2 with ⟨h6, _⟩ | ⟨_, f2⟩
          · rw [h5, h6]
          · rw [h5] at e3 ⊢; exact h2 i j2 _ _ hi f2 e3
        · rcases env_set e2 with ⟨h6, _⟩ | ⟨_, f2⟩
          · rw [h6] at e3 ⊢; exact h2 j i _ _ f1 hi e3
          · exact h2 j j2 _ _ f1 f2 e3
    · exact q1.elim
  · exact q1.elim
end
/-! ### making an instance -/
/-- an __init__: from the arguments behind self the fields -/
abbrev IM := List EV → GS → Out (List D)
def SpI (K : PySem.W.Frag) (C : String → Addr) (N : String → List Str) (k : String) (n : Ar) (g : IM) : Sp := fun vs H Q E => ∃ (x : Addr) (rest : List V), vs = .ref x :: rest ∧ n rest.length = true ∧ ∃ (B : Addr → Prop) (ρ : List Addr) (G : GS) (es : List EV) (dx : Addr),
  SR ⟨K, C, N, B, x, 0⟩ (· = x) ρ G H ∧ All2 (RepE ⟨K, C, N, B, x, 0⟩ (· = x) ρ H) es rest ∧ H x = some (.ins (C k) dx []) ∧ ¬ B x ∧
  (match g es G with
  | .ok fs G' => ∀ dy gs ρ' H', Gr (· = x) ρ H nM ρ' H' → SR ⟨K, C, N, B, x, 0⟩ nM ρ' G' H' → H' x = some (.ins (C k) dy gs) → Flds ⟨K, C, N, B, x, 0⟩ nM ρ' H' k fs gs → Q .non H'
  | .er cl fs G' => ∀ dd gs ρ' H', Gr (· = x) ρ H nM ρ' H' → SR ⟨K, C, N, B, x, 0⟩ nM ρ' G' H' → H' dd = some (.xd gs) → Flds ⟨K, C, N, B, x, 0⟩ nM ρ' H' cl fs gs → E (.ref (C cl)) (some dd) H'
  | .st => False)
abbrev FnI (P : Program) (w : World) (K : PySem.W.Frag) (mg : Str → Option Value) (base : Heap) (C : String → Addr) (N : String → List Str) (c : Nat) (f : Addr) (k : String) (n : Ar) (g : IM) : Prop := FnR P w K mg base (L2N.CX P w) c f (SpI K C N k n g)
def envI (n : Nat) (k : String) (es : List EV) : En := Sl.own (.ins k []) :: (es.map Sl.ev ++ List.replicate (n - 1 - es.length) Sl.no)
def retI (k : String) (o : OutS) : Out (List D) := match o with
  | .nx env G => match (env[0]? : Option Sl) with
    | some (Sl.own (OW.ins k' fs)) => if k' = k then .ok fs G else .st
    | _ => .st
  | .er c fs _ G => .er c fs G
  | _ => .st
def runI (n : Nat) (k : String) (m : SM) : IM := fun es G => retI k (m (envI n k es) G)
end DL
set_option Elab.async false
set_option linter.all false
set_option maxRecDepth 100000
set_option maxHeartbeats 4000000
namespace DL
open PySem L2 PyProof.Rows StX
section
variable {P : Program} {w : World} {K : PySem.W.Frag} {mg : Str → Option Value} {base : Heap} {C : String → Addr} {N : String → List Str}
theorem rl_init {c : RC} {ρ : List Addr} {G : GS} {es : List EV} {vs : List V} {H : Hp} {Nm : List Str} {k : String} {dx : Addr} (s : SR c (· = c.s) ρ G H) (r : All2 (RepE c (· = c.s) ρ H) es vs) (hx : H c.s = some (.ins (c.C k) dx [])) (hl : vs.length + 1 ≤ Nm.length) :
    Rl c (· = c.s) ρ G (envI Nm.length k es) (L2.start Nm (.ref c.s :: vs)) H := by
  have ev0 : ∀ (i : Nat) (sl : Sl), (envI Nm.length k es)[i]? = some sl → (i = 0 ∧ sl = .own (.ins k [])) ∨ (∃ j, i = j + 1 ∧ ((∃ x, es[j]? = some x ∧ sl = .ev x) ∨ sl = .no)) := fun i sl e => by
    unfold envI at e
    cases i with
    | zero => exact .inl ⟨rfl, (Option.some.inj e).symm⟩
    | succ j =>
      refine .inr ⟨j, rfl, ?_⟩
      rw [List.getElem?_cons_succ] at e
      by_cases hi : j < es.length
      · rw [List.getElem?_append_left (by simpa using hi), List.getElem?_map] at e
        cases q : es[j]? with
        | none => rw [q] at e; cases e
        | some x => rw [q] at e; exact .inl ⟨x, rfl, (Option.some.inj e).symm⟩
      · rw [List.getElem?_append_right (by simpa using hi)] at e
        exact .inr (List.eq_of_mem_replicate (List.mem_of_getElem? e))
  have hll := r.length
  refine ⟨s, by unfold envI L2.start; simp; omega, fun _ => c.s, fun i sl e => ?_, fun i j o u e1 e2 _ => ?_⟩
  · rcases ev0 i sl e with ⟨rfl, rfl⟩ | ⟨j, rfl, ⟨x, q, rfl⟩ | rfl⟩
    · exact ⟨rfl, rfl, rfl, dx, [], hx, ⟨by simp, .nil⟩⟩
    · obtain ⟨v, hv, rv⟩ := r.get q
      refine ⟨v, ?_, rv⟩
      unfold L2.start
      rw [List.getElem?_append_left (by simpa using (List.getElem?_eq_some_iff.mp hv).1), List.getElem?_map, List.getElem?_cons_succ, hv]
      rfl
    · trivial
  · rcases ev0 i _ e1 with ⟨h1, _⟩ | ⟨_, _, ⟨x, _, z⟩ | z⟩
    · rcases ev0 j _ e2 with ⟨h2, _⟩ | ⟨_, _, ⟨x, _, z⟩ | z⟩
      · rw [h1, h2]
      · cases z
      · cases z
    · cases z
    · cases z
/-- what an __init__'s body gives -/
def IQ (c : RC) (E : XK) (k : String) (ρ : List Addr) (H : Hp) (o : Out (List D)) (Q : VK) : Prop := match o with
  | .ok fs G' => ∀ dx gs ρ' H', Gr (· = c.s) ρ H nM ρ' H' → SR c nM ρ' G' H' → H' c.s = some (.ins (c.C k) dx gs) → Flds c nM ρ' H' k fs gs → Q .non H'
  | .er cl fs G' => ∀ dd gs ρ' H', Gr (· = c.s) ρ H nM ρ' H' → SR c nM ρ' G' H' → H' dd = some (.xd gs) → Flds c nM ρ' H' cl fs gs → E (.ref (c.C cl)) (some dd) H'
  | .st => False
theorem Gr.nm {M M' : Addr → Prop} {ρ ρ' : List Addr} {H H' : Hp} (g : Gr M ρ H M' ρ' H') : Gr M ρ H nM ρ' H' := ⟨g.keep, g.there, g.grow, fun _ z => z.elim⟩
theorem sq_init {c : RC} {E : XK} {k : String} {ρ : List Addr} {H : Hp} {o : OutS} {Q : VK} (h : IQ c E k ρ H (retI k o) Q) : SQ c (fun cls d _ H => E cls d H) (· = c.s) ρ H o { nx := fun _ H' => Q .non H', rt := Q } := by
  cases o with
  | nx env G =>
    intro M' ρ' σ' H' g R
    unfold retI at h
    dsimp only at h
    split at h
    · rename_i k' fs he
      split at h
      · rename_i hk
        subst hk
        obtain ⟨oa, h1, _⟩ := R.e
        obtain ⟨_, _, _, dx, gs, hH, fl⟩ := h1 0 _ he
        exact h dx gs ρ' H' g.nm R.s.drop hH (flds_cv cv_drop fl)
      · exact h.elim
    · exact h.elim
  | rt e G => exact (show False from h).elim
  | er cl fs e G => exact fun M' ρ' σ' H' dd gs g R e f => h dd gs ρ' H' g.nm R.s.drop e (flds_cv cv_drop f)
  | bk e G => exact (show False from h).elim
  | ct e G => exact (show False from h).elim
  | st => exact h
end
/-! ### stars -/
/-- def f(a, .., *v): the arguments behind the first k as one tuple -/
def starA (k : Nat) (es : List EV) : Option (List EV) := (datas (es.drop k)).bind fun ds => if ds.length ≤ 1000 then some (es.take k ++ [.d (.tup ds)]) else none
def arS (k : Nat) : Ar := fun m => decide (k ≤ m)
def starI (k : Nat) (g : IM) : IM := fun es G => match starA k es with
  | some es' => g es' G
  | none => .st
section
variable {c : RC} {M : Addr → Prop} {ρ : List Addr} {H : Hp} {G : GS}
theorem all2_take {α β : Type} {R : α → β → Prop} : ∀ (n : Nat) {as : List α} {bs : List β}, All2 R as bs → All2 R (as.take n) (bs.take n)
  | 0, _, _, _ => by simp; exact .nil
  | n + 1, _, _, .nil => .nil
  | n + 1, _, _, .cons r t => .cons r (all2_take n t)
theorem all2_drop {α β : Type} {R : α → β → Prop} : ∀ (n : Nat) {as : List α} {bs : List β}, All2 R as bs → All2 R (as.drop n) (bs.drop n)
  | 0, _, _, h => h
  | n + 1, _, _, .nil => .nil
  | n + 1, _, _, .cons r t => all2_drop n t
/-- the new tuple -/
theorem star_new {es es' : List EV} {vs : List V} {k : Nat} {p : Addr} (s : SR c M ρ G H) (r : All2 (RepE c M ρ H) es vs) (h : starA k es = some es') (hp : H p = none) : (vs.drop k).length ≤ sizeLine ∧ SR c M ρ G (upd H p (.tup (vs.drop k))) ∧ All2 (RepE c M ρ (upd H p (.tup (vs.drop k)))) es' (vs.take k ++ [V.ref p]) ∧ es'.length = (es.take k).length + 1 := by
  unfold starA at h
  cases hd : datas (es.drop k) with
  | none => rw [hd] at h; cases h
  | some ds =>
    rw [hd] at h
    dsimp only [Option.bind] at h
    split at h
    · rename_i hl
      injection h with h
      subst h
      have rr := datas_rep hd (all2_drop k r)
      have sm : Same H (upd H p (.tup (vs.drop k))) := same_upd hp
      refine ⟨by rw [← rr.length]; exact Nat.le_trans hl (by decide), s.same sm, ?_, by simp⟩
      refine All2.append (repEs_grow (all2_take k r) (Gr.same sm)) (.cons ?_ .nil)
      exact Rep.tup (.inl ⟨(s.fresh hp), .inl upd_same⟩) (reps_grow rr (Gr.same sm))
    · cases h
end
section
variable {P : Program} {w : World} {K : PySem.W.Frag} {mg : Str → Option Value} {base : Heap} {C : String → Addr} {N : String → List Str}
theorem cxUpN {P : Program} {w : World} : CXUp (L2N.CX P w) := by
  intro outer s H s2 H2 E e s' un kp ho z
  obtain ⟨a, B, H', cls, d, ea, fl, hok, ub, na, os, rest⟩ := z
  have fr : ∀ b o, s.heap.get? b = some o → H b = Option.none → H2 b = Option.none := fun b o q n => un.free b o q n (by simp)
  refine ⟨a, B, H', cls, d, ea, fl, hok, ?_, na, os.trans ho, rest⟩
  constructor
  case keep => exact fun b o q n => ub.keep b o (kp b o q) (fr b o q n)
  case slot => exact fun b o q => ub.slot b o (kp b o q)
  case free => exact fun b o q n => ub.free b o (kp b o q) (fr b o q n)
  case there => exact fun b o q => ub.there b o (kp b o q)
  case tups => exact fun b xs q => ub.tups b xs (un.tups b xs q)
  case frzs => exact fun b o xs q => ub.frzs b o xs (un.frzs b o xs q)
  case tbls =>
    intro b ps q
    rcases un.tbls b ps q with ⟨m, e⟩
    rcases ub.tbls b (ps ++ m) e with ⟨m', e'⟩
    exact ⟨m ++ m', by simpa using e'⟩
/-- how a def with a star binds -/
def BindS (fd : FuncData) (ps : List Str) (pv : Str) : Prop := ∀ us rest : List Value, us.length = ps.length → bindArgs fd ⟨us ++ rest, []⟩ = (newTuple rest >>= fun t => pure (ps.zip us ++ [(pv, t)]))
theorem fni_star {x qual s1 pv : Str} {st : Stmt} {f : Addr} {fd : FuncData} {Nm ps : List Str} {k : Nat} {cl : String} {m : SM} (F : Fun K x qual st f fd) (S : FnScope Nm ((s1 :: ps) ++ [pv]) (defScope st)) (bd : BindS fd (s1 :: ps) pv)
    (hb : ∀ (cdv : Value) (A : Around) (outer : List Env) (s : Shared) (H : Hp) (E : XK) (B : Addr → Prop) (x : Addr), Room k (A.deeper (envOfC qual (defScope st) s.heap.objs.size f cdv)) →
      DSs (cxOf (L2N.CX P w) P w K mg base Nm qual (defScope st) f cdv A outer s H E) ⟨K, C, N, B, x, 0⟩ (fun cls d _ H => E cls d H) (defBody st) m) : FnI P w K mg base C N (k + 1) f cl (arS ps.length) (starI ps.length (runI Nm.length cl m)) := by
  have hlN : ((s1 :: ps) ++ [pv]).length ≤ Nm.length := by have := congrArg List.length S.pre; rw [List.length_take] at this; omega
  obtain ⟨oc, od, kV, doc, pm, an, cdv, ct, osl, rfl, lk, hcd⟩ := F.ex
  refine FnR.imp (fn_star (sp := SpI K C N cl (arN (ps.length + 1)) (runI Nm.length cl m)) lk hcd S cxUpN bd fun A outer s H vs Q E hr hsp => ?_) fun vs H Q E h => ?_
  · obtain ⟨x, rest, rfl, hl, B, ρ, G, es, dx, s0, r, hx, hB, q⟩ := hsp
    have hl' : rest.length = ps.length + 1 := by simpa [arN] using hl
    refine ⟨_, hb cdv A outer s H E B x hr, (· = x), ρ, G, envI Nm.length cl es, rl_init (c := ⟨K, C, N, B, x, 0⟩) (Nm := Nm) s0 r hx (by rw [hl']; simpa using hlN), ?_⟩
    refine sq_init (c := ⟨K, C, N, B, x, 0⟩) (k := cl) ?_
    unfold IQ
    unfold runI at q
    cases ho : retI cl (m (envI Nm.length cl es) G) with
    | ok fs G' => rw [ho] at q; exact q
    | er c2 fs G' => rw [ho] at q; exact q
    | st => rw [ho] at q; exact q
  · obtain ⟨x, rest, rfl, hl, B, ρ, G, es, dx, s0, r, hx, hB, q⟩ := h
    have hl' : ps.length ≤ rest.length := by simpa [arS] using hl
    unfold starI at q
    cases he : starA ps.length es with
    | none => rw [he] at q; exact q.elim
    | some es' =>
      rw [he] at q
      dsimp only at q
      have hz : (rest.drop ps.length).length ≤ sizeLine := by
        unfold starA at he
        cases hd : datas (es.drop ps.length) with
        | none => rw [hd] at he; cases he
        | some ds =>
          rw [hd] at he
          dsimp only [Option.bind] at he
          split at he
          · rename_i hz
            rw [← (datas_rep hd (all2_drop ps.length r)).length]; exact Nat.le_trans hz (by decide)
          · cases he
      refine ⟨V.ref x :: rest.take ps.length, rest.drop ps.length, by simp, by simp [hl'], hz, fun p hp => ?_⟩
      obtain ⟨_, s2, r1, l1⟩ := star_new s0 r he hp
      have sm : Same H (upd H p (.tup (rest.drop ps.length))) := same_upd hp
      have gs : Gr (· = x) ρ H (· = x) ρ (upd H p (.tup (rest.drop ps.length))) := Gr.same sm
      refine ⟨x, rest.take ps.length ++ [V.ref p], by simp, by simp [arN, hl'], B, ρ, G, es', dx, s2, r1, sm _ _ hx, hB, ?_⟩
      cases ho : runI Nm.length cl m es' G with
      | ok fs G' => rw [ho] at q; exact fun dy gs' ρ' H' g s hy f => q dy gs' ρ' H' (gs.trans g) s hy f
      | er c2 fs G' => rw [ho] at q; exact fun dd gs' ρ' H' g s hy f => q dd gs' ρ' H' (gs.trans g) s hy f
      | st => rw [ho] at q; exact q
end
end DL
set_option Elab.async false
set_option linter.all false
set_option maxRecDepth 100000
set_option maxHeartbeats 4000000
namespace DL
open PySem L2 PyProof.Rows StX ClX
def mkO (cl : String) : Out (List D) → Out EV
  | .ok fs G => .ok (.d (.ins cl fs)) G
  | .er c fs G => .er c fs G
  | .st => .st
def eMake (cl : String) (A : Ar) (g : IM) (r : AM) : EM := fun env G => (r env G).bind fun xs G1 => if A xs.length = true then mkO cl (g xs G1) else .st
section
variable {X : Cx} {c : RC} {W : WX} {e o : Expr} {es : List Expr} {me mo : EM} {mr : AM} {pos p apos : Pos} {M : Addr → Prop} {ρ : List Addr} {σ : L2.St} {H : Hp} {G : GS} {env : En}
theorem spi_of {cl : String} {A : Ar} {g : IM} {es1 : List EV} {vs : List V} {G1 : GS} {Q : VK} {x dx : Addr} (s1 : SR c M ρ G1 H) (r1 : All2 (RepE c M ρ H) es1 vs) (q1 : TQ (RE c) c W M ρ σ H (if A es1.length = true then mkO cl (g es1 G1) else .st) Q)
    (hx : H x = none) (hd : H dx = none) (hne : dx ≠ x) : SpI c.K c.C c.N cl A g (.ref x :: vs) (upd (upd H dx (.own x)) x (.ins (c.C cl) dx [])) (fun v H2 => v = .non ∧ Q (.ref x) H2) (WE W σ) := by
  split at q1
  · rename_i hl
    have sm : Same H (upd (upd H dx (.own x)) x (.ins (c.C cl) dx [])) := fun b o q => by
      rw [upd_ne (ne_of_none q hx), upd_ne (ne_of_none q hd)]
      exact q
    have g0 : Gr nM ρ H (· = x) ρ (upd (upd H dx (.own x)) x (.ins (c.C cl) dx [])) := ⟨fun a o q _ _ => sm a o q, fun a o q => ⟨o, sm a o q⟩, ⟨[], by simp, by simp⟩, fun a e => .inr (by rw [e]; exact hx)⟩
    have fx := s1.fresh hx
    have v1 : Cv (sub c M) (· = x) ⟨c.K, c.C, c.N, fun a => c.B a ∨ M a, x, 0⟩ (· = x) ρ := ⟨rfl, rfl, rfl, fun _ h => h⟩
    have v2 : ∀ ρ', Cv (⟨c.K, c.C, c.N, fun a => c.B a ∨ M a, x, 0⟩ : RC) nM c M ρ' := fun ρ' => ⟨rfl, rfl, rfl, fun a h => ⟨fun z => h.1 (.inl z), fun z => h.1 (.inr z), h.2.2⟩⟩
    have back : ∀ {ρ' : List Addr} {H' : Hp}, Gr (· = x) ρ (upd (upd H dx (.own x)) x (.ins (c.C cl) dx [])) nM ρ' H' → Ge M ρ H ρ' H' ∧ x ∉ ρ' := fun {ρ' H'} g => by
      obtain ⟨ext, e1, e2⟩ := g.grow
      refine ⟨⟨fun a o q n => g.keep a o (sm a o q) n (ne_of_none q hx), fun a o q => g.there a o (sm a o q), ext, e1, fun a ha => ?_⟩, ?_⟩
      · have z := e2 a ha
        cases q : H a with
        | none => rfl
        | some o => rw [sm a o q] at z; cases z
      · rw [e1]; intro z
        rcases List.mem_append.mp z with z | z
        · exact fx.2.2 z
        · have := e2 x z; rw [upd_same] at this; cases this
    have srb : ∀ {ρ' : List Addr} {G' : GS} {H' : Hp}, SR (⟨c.K, c.C, c.N, fun a => c.B a ∨ M a, x, 0⟩ : RC) nM ρ' G' H' → SR c M ρ' G' H' := fun s =>
      s.cv (v2 _) (fun a h => ⟨fun z => (s.sep a h).1 (.inl z), fun z => (s.sep a h).1 (.inr z)⟩) (fun a z => s.bt a (.inr z)) fun a z => s.bt a (.inl z)
    refine ⟨x, vs, rfl, by rw [← r1.length]; exact hl, fun a => c.B a ∨ M a, ρ, G1, es1, dx, ?_, repEs_cv v1 (repEs_grow (repEs_cv cv_in r1) g0), upd_same, fun z => z.elim fx.1 fx.2.1, ?_⟩
    · have s2 : SR c M ρ G1 (upd (upd H dx (.own x)) x (.ins (c.C cl) dx [])) := s1.same sm
      refine ⟨s2.len, s2.nd, fun a h => ⟨fun z => z.elim (s2.sep a h).1 (s2.sep a h).2, fun z => fx.2.2 (by rw [← z]; exact h)⟩, fun i xs e => ?_, fun a z => by rw [z, upd_same]; simp, fun a z => z.elim (s2.bt a) (s2.mt a), fun i k e => s2.tb i k e⟩
      obtain ⟨a, us, h1, h2, h3⟩ := s1.at_ i xs e
      exact ⟨a, us, h1, sm _ _ h2, repEs_cv v1 (repEs_grow (repEs_cv cv_in h3) g0)⟩
    · cases ho : g es1 G1 with
      | ok fs G' =>
        rw [ho] at q1
        intro dy gs ρ' H' g s hy fl
        obtain ⟨ge, nx⟩ := back g
        exact ⟨rfl, q1 (.ref x) ρ' H' ge (srb s) (Rep.ins ⟨fx.1, fx.2.1, nx⟩ hy (flds_cv (v2 _) fl))⟩
      | er c2 fs G' =>
        rw [ho] at q1
        intro dd gs ρ' H' g s hy fl
        exact q1 dd gs ρ' H' (back g).1 (srb s) hy (flds_cv (v2 _) fl)
      | st => rw [ho] at q1; exact q1.elim
  · exact q1.elim
/-- an instance is made and its __init__ run, where what that lets out passes at this very state -/
theorem run_makeA {CX : CXT} {k : Nat} {f C : Addr} {sp : Sp} {E : XK} {Q : VK} {s : Shared} {pins : List (Addr × Obj)} {vs : List V} {us : List Value}
    (M : Mk X.K C f) (F : FnR X.prog X.w X.K X.mg X.base CX k f sp) (hr : Room (k + 1) X.A) (hx : PassesAt CX X σ E) (I : Inv X pins σ H s) (r : Vals vs us)
    (h : ∀ x dx, H x = Option.none → H dx = Option.none → dx ≠ x →
      sp (V.ref x :: vs) (upd (upd H dx (.own x)) x (.ins C dx [])) (fun v H2 => v = .non ∧ Q (.ref x) H2) E) :
    wpAny (model X.prog X.w) X.A (call (.ref C) us) (EP X pins σ Q) X.xe s := by
  let n := s.heap.objs.size
  have f0 : H n = Option.none := I.hok.fresh (Nat.le_refl n)
  have f1 : H (n + 1) = Option.none := I.hok.fresh (Nat.le_succ n)
  have q := h (n + 1) n f1 f0 (Nat.ne_of_lt n.lt_succ_self)
  have J := Inv.made (C := C) I
  have ra : Vals (V.ref (n + 1) :: vs) (Value.ref (n + 1) :: us) := .cons rfl r
  have z := F _ X.stack _ _ (Value.ref (n + 1) :: us) _ _ E (hr.make C us []) (J.env0.make C us []) ra q
  refine wpAny_call (make_map (f := f) I.kIn M.makes M.init (beq_iff_eq.mp M.fn) (codeAny_mono z fun res s' y => ?_))
  match res, y with
  | .error e, y => exact hx pins _ _ e s' J y
  | .ok (.ret u), y =>
    rcases J.after y with ⟨v, H3, J3, rv, hv, q3⟩
    cases hv
    exact ⟨rv, V.ref (n + 1), H3, J3, rfl, q3⟩
  | .ok .next, y => exact y.elim
  | .ok .brk, y => exact y.elim
  | .ok .cont, y => exact y.elim
variable {x : Str} {cl : String} {A : Ar} {g : IM} {k : Nat} {f : Addr}
theorem tda_make (h : tD c W (eMake cl A g mr) σ H Q) : tDA c W mr σ H fun vs H1 => ∀ x dx, H1 x = Option.none → H1 dx = Option.none → dx ≠ x → SpI c.K c.C c.N cl A g (V.ref x :: vs) (upd (upd H1 dx (.own x)) x (.ins (c.C cl) dx [])) (fun v H2 => v = .non ∧ Q (.ref x) H2) (WE W σ) := by
  obtain ⟨M, ρ, G, env, R, q⟩ := h
  exact ⟨M, ρ, G, env, R, (TQ.bind (R := RA c) q).imp fun v H1 ⟨ρ1, G1, e1, g1, s1, r1, q1⟩ x dx hx hd hne => spi_of s1 r1 q1 hx hd hne⟩
theorem de_make (Mc : Mk X.K (c.C cl) f) (F : FnI X.prog X.w X.K X.mg X.base c.C c.N k f cl A g) (hK : c.K = X.K) (hr : Room (k + 1) X.A) (hg : Gl X x) (hm : X.mg x = some (.ref (c.C cl))) (tk : L2N.Takes X W) (ha : DA X c W (e :: es) mr)
    (hdb : (x == ("__debug__" : Str)) = false := by decide) (he : starEach (e :: es) X.env = (false, eval e X.env) :: starEach es X.env := by rfl) (hpl : (backTo pos (starEach es X.env)).any (·.1) = false := by rfl) :
    DE X c W (.Call (.Name x p) (e :: es) [] pos) (eMake cl A g mr) := by
  refine ⟨fun pins s σ H Q I h => ?_⟩
  refine wpAny_Call_Name_kw (ld_glob I hg hm ?_ hdb)
  refine PySem.W.callWith_K (h₀ := X.base) I.ok.mod.kin Mc.kp (thn (PA.run ha pos pins s σ H _ I (tda_make h)) fun us s1 ⟨vs, H1, I1, r, q⟩ => ⟨I1.kIn, ?_⟩) he hpl
  rw [hK] at q
  exact run_makeA Mc F hr (L2N.passAt tk σ) I1 r q
theorem de_make0 (Mc : Mk X.K (c.C cl) f) (F : FnI X.prog X.w X.K X.mg X.base c.C c.N k f cl A g) (hK : c.K = X.K) (hr : Room (k + 1) X.A) (hg : Gl X x) (hm : X.mg x = some (.ref (c.C cl))) (tk : L2N.Takes X W) (hdb : (x == ("__debug__" : Str)) = false := by decide) :
    DE X c W (.Call (.Name x p) [] [] pos) (eMake cl A g aNil) := by
  refine ⟨fun pins s σ H Q I h => ?_⟩
  refine wpAny_Call_Name_kw (ld_glob I hg hm ?_ hdb)
  obtain ⟨M, ρ, G, env, R, q⟩ := h
  have q1 : TQ (RE c) c W M ρ σ H (if A ([] : List EV).length = true then mkO cl (g [] G) else .st) Q := q
  refine PySem.W.callWith_K0 I.kIn Mc.kp (run_makeA (us := []) (vs := []) Mc F hr (L2N.passAt tk σ) I .nil fun x dx hx hd hne => ?_)
  rw [← hK]
  exact spi_of R.s .nil q1 hx hd hne
theorem map_d {M : Addr → Prop} {ρ : List Addr} {H : Hp} {xs : List D} {vs : List V} (h : All2 (Rep c M ρ H) xs vs) : All2 (RepE c M ρ H) (xs.map .d) vs := by
  induction h with
  | nil => exact .nil
  | cons r t ih => exact .cons r ih
end
/-! ### methods -/
/-- the classes that have the method, with its meaning -/
def kfn : List (String × (Ar × FM)) → String → Option (Ar × FM)
  | [], _ => none
  | (k, g) :: r, k' => if k = k' then some g else kfn r k'
def eMeth (ms : List (String × (Ar × FM))) (mo : EM) (r : AM) : EM := fun env G => (mo env G).bind fun x G1 => match x with
  | .d (.ins k fs) => (match kfn ms k with
    | some (A, g) => (r env G1).bind fun xs G2 => if A (xs.length + 1) = true then g (.d (.ins k fs) :: xs) G2 else .st
    | none => .st)
  | _ => .st
/-- what a class must have for its method -/
structure HasM (P : Program) (w : World) (K : PySem.W.Frag) (mg : Str → Option Value) (base : Heap) (C : String → Addr) (N : String → List Str) (lv : Nat) (m : Str) (k : String) (A : Ar) (g : FM) : Prop where
  cl : Cls K (C k)
  no : ixf m (N k) = none
  fn : ∃ f, Meth K (C k) m f ∧ FnG P w K mg base C N lv f A g
section
variable {X : Cx} {c : RC} {W : WX} {e o : Expr} {es : List Expr} {me mo : EM} {mr : AM} {pos p apos : Pos} {M : Addr → Prop} {ρ : List Addr} {σ : L2.St} {H : Hp} {G : GS} {env : En} {pl : Sem Bool} {lv : Nat} {m : Str} {ms : List (String × (Ar × FM))}
/-- how the call of a method reads, row by row -/
abbrev MRow (X : Cx) (o : Expr) (m : Str) (ap : Pos) (args : List Expr) (pos : Pos) (pl : Sem Bool) : Prop :=
  eval (.Call (.Attribute o m ap) args [] pos) X.env =
    (do let ov ← eval o X.env; standAt ap.atName; let (f, first) ← holding [ov] (getMethod ov m pl); callWith pos f first (backTo pos (starEach args X.env)) (backToKw pos (keywordEach [] X.env)))
theorem de_meth0 (hK : c.K = X.K) (hr : Room lv X.A) (tk : L2N.Takes X W) (h : ∀ k A g, kfn ms k = some (A, g) → HasM X.prog X.w X.K X.mg X.base c.C c.N lv m k A g) (ho : DE X c W o mo)
    (ht : MRow X o m apos [] pos pl := by rfl) :
    DE X c W (.Call (.Attribute o m apos) [] [] pos) (eMeth ms mo aNil) := by
  refine ⟨fun pins s σ H Q I q => ?_⟩
  obtain ⟨M, ρ, G, env, R, q⟩ := q
  have h' : tD c W mo σ H fun x H1 => ∃ k fs A g, kfn ms k = some (A, g) ∧ ∃ ρ1 G1, SR c M ρ1 G1 H1 ∧ RepE c M ρ1 H1 (.d (.ins k fs)) x ∧ TQ (RE c) c W M ρ1 σ H1 (if A 1 = true then g [.d (.ins k fs)] G1 else .st) Q := by
    refine ⟨M, ρ, G, env, R, (TQ.bind (R := RE c) q).imp fun v H1 ⟨ρ1, G1, e1, g1, s1, r1, q1⟩ => ?_⟩
    split at q1
    · rename_i k fs
      split at q1
      · rename_i A g hk
        exact ⟨k, fs, A, g, hk, ρ1, G1, s1, r1, q1⟩
      · exact q1.elim
    · exact q1.elim
  refine PySem.W.methodCall_KW (pl := pl) (thn (PE.run ho pins s σ H _ I h') fun u s1 ⟨x, H1, I1, rx, k, fs, A, g, hk, ρ1, G1, sr1, r1, q1⟩ => ?_) ht
  have q2 := spd_of (es1 := [.d (.ins k fs)]) (n := A) sr1 (.cons r1 .nil) q1
  obtain ⟨a, dx, gs, rfl, z, ea, fl⟩ := Rep.of_ins r1
  obtain rfl : u = Value.ref a := rx
  obtain ⟨cl, no, f, mt, F⟩ := h k A g hk
  refine getmeth_ok I1 ea cl mt (flds_none fl no) ?_
  rw [hK] at q2
  exact PySem.W.callWith_K0 (first := [.ref a]) I1.kIn mt.kp (wpAny_call (run_fnA (us := [.ref a]) (vs := [.ref a]) F hr (L2N.passAt tk σ) I1 (.cons rfl .nil) q2))
/-- C.m(..), m a classmethod: cls is handed in first -/
def eCMeth (cl : String) (A : Ar) (g : FM) (r : AM) : EM := fun env G => (r env G).bind fun xs G1 => if A (xs.length + 1) = true then g (.d (.cls cl) :: xs) G1 else .st
theorem run_cmA {CX : CXT} {k : Nat} {q g C : Addr} {sp : Sp} {E : XK} {Q : VK} {s : Shared} {pins : List (Addr × Obj)} {vs : List V} {us : List Value}
    (F : FnR X.prog X.w X.K X.mg X.base CX k g sp) (hr : Room k X.A) (hx : PassesAt CX X σ E)
    (I : Inv X ((q, PySem.W.methodObj (.ref g) (.ref C)) :: pins) σ H s) (r : Vals vs us) (h : sp (.ref C :: vs) H Q E) :
    wpAny (model X.prog X.w) X.A (call (.ref q) us) (EP X pins σ Q) X.xe s :=
  thn (wpAny_call (PySem.W.method_call (pin_at I) (run_fnA (vs := .ref C :: vs) (us := .ref C :: us) F hr hx I (.cons rfl r) h))) fun _ _ => unpinE
theorem de_cmeth {x : Str} {p' : Pos} {cl : String} {mc : Value} {pr gf : Addr} {A : Ar} {g : FM} (hK : c.K = X.K) (hg : Gl X x) (hm : X.mg x = some (.ref (c.C cl))) (r : CRead X.K (c.C cl) mc) (cm : CMet X.K (c.C cl) mc m pr gf) (F : FnG X.prog X.w X.K X.mg X.base c.C c.N lv gf A g) (hr : Room lv X.A) (tk : L2N.Takes X W) (ha : DA X c W (e :: es) mr)
    (hdb : (x == ("__debug__" : Str)) = false := by decide) (hst : starEach (e :: es) X.env = (false, eval e X.env) :: starEach es X.env := by rfl) (hpl : (backTo pos (starEach es X.env)).any (·.1) = false := by rfl)
    (ht : MRow X (.Name x p') m apos (e :: es) pos pl := by rfl) :
    DE X c W (.Call (.Attribute (.Name x p') m apos) (e :: es) [] pos) (eCMeth cl A g mr) := by
  refine ⟨fun pins s σ H Q I q => ?_⟩
  refine PySem.W.methodCall_KW (pl := pl) (ld_glob I hg hm ?_ hdb) ht
  refine getmethcm_ok I r cm fun s2 I2 => ?_
  obtain ⟨M, ρ, G, env, R, q⟩ := q
  have h2 : tDA c W mr σ H fun vs H2 => Spd c.K c.C c.N A g (.ref (c.C cl) :: vs) H2 Q (WE W σ) := by
    refine ⟨M, ρ, G, env, R, (TQ.bind (R := RA c) q).imp fun vs H2 ⟨ρ2, G2, e2, g2, s2, r2, q2⟩ => ?_⟩
    exact spd_of (es1 := .d (.cls cl) :: e2) s2 (.cons Rep.cls r2) q2
  refine callwith_cm I2 (base_none I (Nat.le_refl _)) cm.fi (thn (PA.run ha pos _ s2 σ H _ I2 h2) fun us s3 ⟨vs, H2, I3, rv, q2⟩ => ⟨⟨pin_at I3, I3.kIn⟩, ?_⟩) hst hpl
  rw [hK] at q2
  exact run_cmA F hr (L2N.passAt tk σ) I3 rv q2
end
end DL
set_option Elab.async false
set_option linter.all false
set_option maxRecDepth 100000
set_option maxHeartbeats 4000000
namespace DL
open PySem L2 PyProof.Rows StX ClX
def toOpt {α : Type} : Out α → Option (α × GS)
  | .ok e G => some (e, G)
  | _ => none
def alt2 (f g : F2) : F2 := fun x y G => match f x y G with
  | some r => some r
  | none => g x y G
def alt1 (f g : F1) : F1 := fun x G => match f x G with
  | some r => some r
  | none => g x G
def altN (f g : FN) : FN := fun x G => match f x G with
  | some r => some r
  | none => g x G
/-- x op y by the class's own def: both are instances of it -/
def fOwn (cl : String) (A : Ar) (g : FM) : F2 := fun x y G => match x, y with
  | .d (.ins k fs), .d (.ins k' fs') => if k = cl ∧ k' = cl ∧ A 2 = true then toOpt (g [.d (.ins k fs), .d (.ins k' fs')] G) else none
  | _, _ => none
def fOwn1 (cl : String) (A : Ar) (g : FM) : F1 := fun x G => match x with
  | .d (.ins k fs) => if k = cl ∧ A 1 = true then toOpt (g [.d (.ins k fs)] G) else none
  | _ => none
section
variable {X : Cx} {c : RC} {M : Addr → Prop} {ρ : List Addr} {σ : L2.St} {H : Hp} {G : GS} {lv : Nat} {cl : String} {A : Ar} {g : FM} {f : Addr}
theorem opr_alt {F : Value → Value → Sem Value} {f g : F2} (h : OpR X F (V2 c f)) (k : OpR X F (V2 c g)) : OpR X F (V2 c (alt2 f g)) := opr_imp (h.or k) fun x y H Q ⟨M, ρ, G, a, b, s, ra, rb, q⟩ => by
  unfold alt2 at q
  cases hf : f a b G with
  | some r => rw [hf] at q; exact .inl ⟨M, ρ, G, a, b, s, ra, rb, by rw [hf]; exact q⟩
  | none => rw [hf] at q; exact .inr ⟨M, ρ, G, a, b, s, ra, rb, q⟩
theorem callr_or {F : Value} {r r' : List V → Hp → VK → Prop} (h : CallR X F r) (k : CallR X F r') : CallR X F (fun x H Q => r x H Q ∨ r' x H Q) := fun pins s σ H x v Q I rx q => q.elim (h pins s σ H x v Q I rx) (k pins s σ H x v Q I rx)
abbrev E0' : XK := fun _ _ _ => False
theorem pass0' {X : Cx} {σ : L2.St} : PassesAt (L2N.CX X.prog X.w) X σ E0' := fun _ _ _ _ _ _ ⟨_, _, _, _, _, _, _, _, _, _, _, _, h⟩ => h.elim
/-- a call that raises nothing, by values -/
theorem spd_opt {es : List EV} {vs : List V} {Q : VK} (s : SR c M ρ G H) (r : All2 (RepE c M ρ H) es vs) (hA : A es.length = true) (q : VQ c M ρ H (toOpt (g es G)) Q) : Spd c.K c.C c.N A g vs H Q E0' := by
  refine spd_of (W := fun _ _ _ _ => False) (σ := []) (es1 := es) s r ?_
  rw [if_pos hA]
  cases hg : g es G with
  | ok e G' => rw [hg] at q; exact q
  | er cl fs G' => rw [hg] at q; exact q.elim
  | st => rw [hg] at q; exact q.elim
theorem inst_at {pins : List (Addr × Obj)} {s : Shared} {a C dx : Addr} {fs : List (Str × V)} (I : Inv X pins σ H s) (h : H a = some (.ins C dx fs)) : ∃ ox od, PySem.W.InstAt s.heap a ox C od := by
  obtain ⟨ox, od, J, _⟩ := insC_at (X := X) I (C := C) (.inr ⟨dx, fs, h⟩)
  exact ⟨ox, od, J⟩
end
/-! ### displays, subscripts, built-ins over lists -/
def lstMax : Nat := 100000
def eLst (r : AM) : EM := fun env G => (r env G).bind fun xs G1 => match datas xs with
  | some ds => if ds.length ≤ lstMax then .ok (.d (.lst ds)) G1 else .st
  | none => .st
def eTup (r : AM) : EM := fun env G => (r env G).bind fun xs G1 => match datas xs with
  | some ds => if ds.length ≤ lstMax then .ok (.d (.tup ds)) G1 else .st
  | none => .st
/-- a list that will be written: an object of the store -/
def eObj (r : AM) : EM := fun env G => (r env G).bind fun xs G1 => if xs.length ≤ lstMax then .ok (.o G1.length) (G1 ++ [.lst xs]) else .st
section
variable {X : Cx} {c : RC} {W : WX} {e : Expr} {es : List Expr} {mr : AM} {me : EM} {pos : Pos} {M : Addr → Prop} {ρ : List Addr} {σ : L2.St} {H : Hp} {G : GS}
theorem lst_ok {n : Nat} (h : n ≤ lstMax) : n ≤ sizeLine := Nat.le_trans h (by decide)
theorem de_lst (ha : DA X c W es mr) : DE X c W (.List es pos) (eLst mr) := by
  refine pe_imp (pe_lst ha) fun σ H Q q => ?_
  obtain ⟨M, ρ, G, env, R, q⟩ := q
  refine ⟨M, ρ, G, env, R, (TQ.bind (R := RA c) q).imp fun v H1 ⟨ρ1, G1, e1, g1, s1, r1, q1⟩ => ?_⟩
  split at q1
  · rename_i ds hd
    split at q1
    · rename_i hl
      have rr := datas_rep hd r1
      refine ⟨by rw [← rr.length]; exact lst_ok hl, fun p hp => ?_⟩
      have sm : Same H1 (upd H1 p (.lst v)) := same_upd hp
      exact q1.okS s1 sm (Rep.lst (.inl ⟨s1.fresh hp, .inl upd_same⟩) (reps_grow rr (Gr.same sm)))
    · exact q1.elim
  · exact q1.elim
theorem de_tup {n} (ha : DA X c W es mr) : DE X c W (.Tuple es n pos) (eTup mr) := by
  refine pe_imp (pe_tup ha) fun σ H Q q => ?_
  obtain ⟨M, ρ, G, env, R, q⟩ := q
  refine ⟨M, ρ, G, env, R, (TQ.bind (R := RA c) q).imp fun v H1 ⟨ρ1, G1, e1, g1, s1, r1, q1⟩ => ?_⟩
  split at q1
  · rename_i ds hd
    split at q1
    · rename_i hl
      have rr := datas_rep hd r1
      refine ⟨by rw [← rr.length]; exact lst_ok hl, fun p hp => ?_⟩
      have sm : Same H1 (upd H1 p (.tup v)) := same_upd hp
      exact q1.okS s1 sm (Rep.tup (.inl ⟨s1.fresh hp, .inl upd_same⟩) (reps_grow rr (Gr.same sm)))
    · exact q1.elim
  · exact q1.elim
/-- a new object of the store -/
theorem sr_new {xs : List EV} {vs : List V} {p : Addr} (s : SR c M ρ G H) (r : All2 (RepE c M ρ H) xs vs) (hp : H p = none) : Ge M ρ H (ρ ++ [p]) (upd H p (.lst vs)) ∧ SR c M (ρ ++ [p]) (G ++ [.lst xs]) (upd H p (.lst vs)) ∧ (ρ ++ [p])[G.length]? = some p := by
  have sm : Same H (upd H p (.lst vs)) := same_upd hp
  have fx := s.fresh hp
  have g : Ge M ρ H (ρ ++ [p]) (upd H p (.lst vs)) := ⟨fun a o e _ => sm a o e, fun a o e => ⟨o, sm a o e⟩, [p], rfl, by simpa using hp⟩
  refine ⟨g, ⟨by simp [s.len], ?_, fun a h => ?_, fun i ys e => ?_, fun a m => same_ne sm (s.mt a m), fun a m => same_ne sm (s.bt a m), fun i k e => ?_⟩, ?_⟩
  · rw [List.nodup_append]
    exact ⟨s.nd, by simp, fun a h1 b h2 => by
      have : b = p := by simpa using h2
      subst this
      rintro rfl
      exact fx.2.2 h1⟩
  · rcases List.mem_append.mp h with h | h
    · exact s.sep a h
    · have : a = p := by simpa using h
      subst this
      exact ⟨fx.1, fx.2.1⟩
  · by_cases hi : i < G.length
    · rw [List.getElem?_append_left hi] at e
      obtain ⟨a, us, h1, h2, h3⟩ := s.at_ i ys e
      exact ⟨a, us, by rw [List.getElem?_append_left (by rw [s.len]; exact hi)]; exact h1, sm _ _ h2, repEs_grow h3 g.gr⟩
    · rw [List.getElem?_append_right (by omega)] at e
      have hi2 : i - G.length = 0 := by
        have := (List.getElem?_eq_some_iff.mp e).1
        simp at this
        omega
      rw [hi2] at e
      cases e
      have hi3 : i = ρ.length := by rw [s.len]; omega
      subst hi3
      exact ⟨p, vs, by simp, upd_same, repEs_grow r g.gr⟩
  · by_cases hi : i < G.length
    · rw [List.getElem?_append_left hi] at e
      obtain ⟨h1, t⟩ := s.tb i k e
      exact ⟨by rw [List.getElem?_append_left (by rw [s.len]; exact hi)]; exact h1, t.ext sm⟩
    · rw [List.getElem?_append_right (by omega)] at e
      have hi2 : i - G.length = 0 := by
        have := (List.getElem?_eq_some_iff.mp e).1
        simp at this
        omega
      rw [hi2] at e
      cases e
  · rw [← s.len]; simp
theorem de_obj (ha : DA X c W es mr) : DE X c W (.List es pos) (eObj mr) := by
  refine pe_imp (pe_lst ha) fun σ H Q q => ?_
  obtain ⟨M, ρ, G, env, R, q⟩ := q
  refine ⟨M, ρ, G, env, R, (TQ.bind (R := RA c) q).imp fun v H1 ⟨ρ1, G1, e1, g1, s1, r1, q1⟩ => ?_⟩
  split at q1
  · rename_i hl
    refine ⟨by rw [← r1.length]; exact lst_ok hl, fun p hp => ?_⟩
    obtain ⟨g, s2, e2⟩ := sr_new s1 r1 hp
    exact q1 (.ref p) _ _ g s2 ⟨p, e2, rfl⟩
  · exact q1.elim
end
/-- xs[i] -/
def ixD {α : Type} (xs : List α) (i : Int) : Option α := atI xs i
def fIx : F2 := fun x y G => match x, y with
  | .d (.lst xs), .d (.int i) => (atI xs i).map fun z => (.d z, G)
  | .d (.tup xs), .d (.int i) => (atI xs i).map fun z => (.d z, G)
  | .o k, .d (.int i) => (match (G[k]? : Option GO) with
    | some (GO.lst xs) => (atI xs i).map fun z => (z, G)
    | _ => none)
  | _, _ => none
end DL
set_option Elab.async false
set_option linter.all false
set_option maxRecDepth 100000
set_option maxHeartbeats 4000000
namespace DL
open PySem L2 PyProof.Rows StX ClX
/-! ### what is walked -/
/-- J gives the items ds, in every later state -/
def ItR (c : RC) (M : Addr → Prop) (ρ : List Addr) (J : It) (ds : List D) (H : Hp) : Prop := ∀ M2 ρ2 H2, Gr M ρ H M2 ρ2 H2 → ∀ i, (∀ d, ds[i]? = some d → J.go i H2 ∧ ∀ x H3, J.yld i H2 x H3 → Same H2 H3 ∧ Rep c M2 ρ2 H3 d x) ∧ (ds.length ≤ i → J.stop i H2)
abbrev LM := En → GS → Out (List D)
def tDI (c : RC) (W : WX) (m : LM) : TI := fun σ H R => ∃ M ρ G env, Rl c M ρ G env σ H ∧ (match m env G with
  | .ok ds G' => ∀ J ρ' H', Ge M ρ H ρ' H' → SR c M ρ' G' H' → ItR c M ρ' J ds H' → R J H'
  | .er cl fs G' => ∀ dd gs ρ' H', Ge M ρ H ρ' H' → SR c M ρ' G' H' → H' dd = some (.xd gs) → Flds c M ρ' H' cl fs gs → W (.ref (c.C cl)) (some dd) σ H'
  | .st => False)
def DI (X : Cx) (c : RC) (W : WX) (tg e : Expr) (m : LM) : Prop := PI X tg e (tDI c W m)
theorem pi_imp {X : Cx} {tg e : Expr} {t t' : TI} (h : PI X tg e t) (k : ∀ σ H R, t' σ H R → t σ H R) : PI X tg e t' := ⟨fun pins s σ H R I q => h.run pins s σ H R I (k σ H R q)⟩
def lSeq (m : EM) : LM := fun env G => (m env G).bind fun e G1 => match e with
  | .d (.lst xs) => .ok xs G1
  | _ => .st
def lTup (m : EM) : LM := fun env G => (m env G).bind fun e G1 => match e with
  | .d (.tup xs) => .ok xs G1
  | _ => .st
def lRng (lo : Int) (n : Nat) : List D := (List.range n).map fun i : Nat => .int (lo + i)
def rngMax : Int := 1000000
def lRng1 (r : AM) : LM := fun env G => (r env G).bind fun xs G1 => match xs with
  | [.d (.int j)] => if -rngMax ≤ j ∧ j ≤ rngMax then .ok (lRng 0 j.toNat) G1 else .st
  | _ => .st
section
variable {X : Cx} {c : RC} {W : WX} {e a b tg : Expr} {es : List Expr} {mr : AM} {me : EM} {pos p : Pos} {M : Addr → Prop} {ρ : List Addr} {σ : L2.St} {H : Hp} {G : GS}
/-- the items behind an expression -/
theorem tdi_of {α β : Type} {Rr : (Addr → Prop) → List Addr → Hp → α → β → Prop} {m : En → GS → Out α} {k : α → GS → Out (List D)} {env : En} {R : It → Hp → Prop} (Rl0 : Rl c M ρ G env σ H)
    (h : (match (m env G).bind k with
  | .ok ds G' => ∀ J ρ' H', Ge M ρ H ρ' H' → SR c M ρ' G' H' → ItR c M ρ' J ds H' → R J H'
  | .er cl fs G' => ∀ dd gs ρ' H', Ge M ρ H ρ' H' → SR c M ρ' G' H' → H' dd = some (.xd gs) → Flds c M ρ' H' cl fs gs → W (.ref (c.C cl)) (some dd) σ H'
  | .st => False)) (hk : ∀ x G1, (∃ ds, k x G1 = .ok ds G1) ∨ k x G1 = .st) :
    TQ Rr c W M ρ σ H (m env G) fun v H1 => ∃ ρ1 G1 x ds, Ge M ρ H ρ1 H1 ∧ SR c M ρ1 G1 H1 ∧ Rr M ρ1 H1 x v ∧ k x G1 = .ok ds G1 ∧ ∀ J, ItR c M ρ1 J ds H1 → R J H1 := by
  cases hm : m env G with
  | ok x G1 =>
    rw [hm] at h
    intro v ρ1 H1 g s r
    rcases hk x G1 with ⟨ds, hd⟩ | hd
    · refine ⟨ρ1, G1, x, ds, g, s, r, hd, fun J hJ => ?_⟩
      have h' : ∀ J ρ' H', Ge M ρ H ρ' H' → SR c M ρ' G1 H' → ItR c M ρ' J ds H' → R J H' := by
        have z : (Out.ok x G1).bind k = .ok ds G1 := hd
        rw [z] at h
        exact h
      exact h' J ρ1 H1 g s hJ
    · have z : (Out.ok x G1).bind k = .st := hd
      rw [z] at h
      exact h.elim
  | er cl fs G1 => rw [hm] at h; exact h
  | st => rw [hm] at h; exact h
theorem di_lst (hK : c.K = X.K) (he : DE X c W e me) : DI X c W tg e (lSeq me) := by
  refine pi_imp (pi_list he) fun σ H R q => ?_
  obtain ⟨M, ρ, G, env, R0, q⟩ := q
  refine ⟨M, ρ, G, env, R0, (tdi_of (Rr := RE c) R0 q (fun x G1 => ?_)).imp fun v H1 ⟨ρ1, G1, x, ds, g, s, r, hd, hJ⟩ => ?_⟩
  · skip
    split
    · exact .inl ⟨_, rfl⟩
    · exact .inr rfl
  · skip
    split at hd
    · rename_i xs
      injection hd with hd _
      subst hd
      obtain ⟨p, vs, rfl, z, rr⟩ := Rep.of_lst r
      refine ⟨p, rfl, ⟨vs, by rw [← hK]; exact z.sq⟩, hJ _ fun M2 ρ2 H2 g2 i => ⟨fun d hd => ?_, fun hl => ?_⟩⟩
      · have z2 := z.grow g2
        have r2 := reps_grow rr g2
        obtain ⟨v, hv, rv⟩ := r2.get hd
        refine ⟨⟨vs, v, by rw [← hK]; exact z2.sq, hv⟩, fun x H3 ⟨e3, y⟩ => ?_⟩
        subst e3
        have := y vs (by rw [← hK]; exact z2.sq)
        rw [hv] at this
        cases this
        exact ⟨same_refl, rv⟩
      · exact ⟨vs, by rw [← hK]; exact (z.grow g2).sq, by rw [← rr.length]; exact hl⟩
    · cases hd
theorem di_tup (hK : c.K = X.K) (he : DE X c W e me) : DI X c W tg e (lTup me) := by
  refine pi_imp (pi_tup he) fun σ H R q => ?_
  obtain ⟨M, ρ, G, env, R0, q⟩ := q
  refine ⟨M, ρ, G, env, R0, (tdi_of (Rr := RE c) R0 q (fun x G1 => ?_)).imp fun v H1 ⟨ρ1, G1, x, ds, g, s, r, hd, hJ⟩ => ?_⟩
  · skip
    split
    · exact .inl ⟨_, rfl⟩
    · exact .inr rfl
  · skip
    split at hd
    · rename_i xs
      injection hd with hd _
      subst hd
      obtain ⟨p, vs, rfl, z, rr⟩ := Rep.of_tup r
      refine ⟨p, rfl, ⟨vs, by rw [← hK]; exact z.sq⟩, hJ _ fun M2 ρ2 H2 g2 i => ⟨fun d hd => ?_, fun hl => ?_⟩⟩
      · have z2 := z.grow g2
        have r2 := reps_grow rr g2
        obtain ⟨v, hv, rv⟩ := r2.get hd
        refine ⟨⟨vs, v, by rw [← hK]; exact z2.sq, hv⟩, fun x H3 ⟨e3, y⟩ => ?_⟩
        subst e3
        have := y vs (by rw [← hK]; exact z2.sq)
        rw [hv] at this
        cases this
        exact ⟨same_refl, rv⟩
      · exact ⟨vs, by rw [← hK]; exact (z.grow g2).sq, by rw [← rr.length]; exact hl⟩
    · cases hd
theorem itr_range {lo : Int} {n : Nat} : ItR c M ρ (Itr lo n) (lRng lo n) H := fun M2 ρ2 H2 g2 i => by
  refine ⟨fun d hd => ?_, fun hl => ?_⟩
  · unfold lRng at hd
    rw [List.getElem?_map] at hd
    cases e : (List.range n)[i]? with
    | none => rw [e] at hd; cases hd
    | some j =>
      rw [e] at hd
      cases hd
      obtain ⟨hi, ej⟩ := List.getElem?_eq_some_iff.mp e
      simp at hi ej
      subst ej
      exact ⟨hi, fun x H3 ⟨e3, ex⟩ => by subst e3; subst ex; exact ⟨same_refl, Rep.int⟩⟩
  · show n ≤ i
    simpa [lRng] using hl
theorem di_range1 (hg : Gl X "range") (hm : X.mg "range" = none) (ha : DA X c W [a] mr) (hs : starEach [a] X.env = [(false, eval a X.env)] := by rfl) : DI X c W tg (.Call (.Name "range" p) [a] [] pos) (lRng1 mr) := by
  refine pi_imp (pi_range1 hg hm ha hs) fun σ H R q => ?_
  obtain ⟨M, ρ, G, env, R0, q⟩ := q
  refine ⟨M, ρ, G, env, R0, (tdi_of (Rr := RA c) R0 q (fun x G1 => ?_)).imp fun v H1 ⟨ρ1, G1, x, ds, g, s, r, hd, hJ⟩ => ?_⟩
  · skip
    split
    · split
      · exact .inl ⟨_, rfl⟩
      · exact .inr rfl
    · exact .inr rfl
  · skip
    split at hd
    · split at hd
      · rename_i j hj
        injection hd with hd _
        subst hd
        cases r with
        | cons r t =>
          cases t
          cases Rep.of_int r
          unfold rngMax at hj
          exact ⟨j, rfl, by omega, by omega, hJ _ itr_range⟩
      · cases hd
    · cases hd
end
/-! ### for -/
def loopO (o : OutS) (k : En → GS → OutS) : OutS := match o with
  | .nx e g => k e g
  | .ct e g => k e g
  | .bk e g => .nx e g
  | o => o
def forL (k : Nat) (b : SM) : List D → En → GS → OutS
  | [], env, G => .nx env G
  | d :: ds, env, G => loopO (b (env.set k (.ev (.d d))) G) (forL k b ds)
def sFor (k : Nat) (m : LM) (b : SM) : SM := fun env G => ofE (m env G) env fun ds G1 => forL k b ds env G1
section
variable {X : Cx} {c : RC} {W : WX} {e tg : Expr} {body : List Stmt} {mr : LM} {mb : SM} {pos p : Pos} {M : Addr → Prop} {ρ : List Addr} {σ : L2.St} {H : Hp} {G : GS}
theorem SQ.loop {o : OutS} {k : SM} {Dn : Ends} {P : L2.St → Hp → Prop} (h : SQ c W M ρ H (loopO o k) Dn)
    (hP : ∀ env G M' ρ' σ' H', Gr M ρ H M' ρ' H' → Rl c M' ρ' G env σ' H' → SQ c W M' ρ' H' (k env G) Dn → P σ' H') : SQ c W M ρ H o { Dn with nx := P, ct := P, bk := Dn.nx } := by
  cases o with
  | nx env G => exact fun M' ρ' σ' H' g R => hP env G M' ρ' σ' H' g R (SQ.grow h g)
  | ct env G => exact fun M' ρ' σ' H' g R => hP env G M' ρ' σ' H' g R (SQ.grow h g)
  | bk env G => exact h
  | rt e G => exact h
  | er cl fs e G => exact h
  | st => exact h
theorem ds_for {k : Nat} {x : Str} (hp : PassesOwn (model X.prog X.w) X.A X.env X.xe) (hc : X.calm = true) (hi : DI X c W (.Name x p) e mr) (hg : PG X (.Name x p) (gName k)) (hb : DSs X c W body mb)
    (hs : ∀ x, foldedSetIterable e X.env x = pure x := by intro _; rfl) : DS X c W (.For (.Name x p) e body [] pos) (sFor k mr mb) := by
  refine ps_imp (ps_for hp hc hi hg hb hs) fun Dn σ H q => ?_
  obtain ⟨M, ρ, G, env, R0, q⟩ := q
  refine ⟨M, ρ, G, env, R0, ?_⟩
  unfold sFor at q
  cases hm : mr env G with
  | st => rw [hm] at q; exact q
  | er cl fs G1 => rw [hm] at q; exact fun dd gs ρ' H' g s z f => q M ρ' σ H' dd gs g.gr (R0.ge g s) z f
  | ok ds G1 =>
    rw [hm] at q
    intro J ρ1 H1 g1 s1 hJ
    have q1 : SQ c W M ρ1 H1 (forL k mb ds env G1) Dn := SQ.grow q g1.gr
    let Pv : Nat → L2.St → Hp → Prop := fun i σ H => ∃ M' ρ' G' env', Gr M ρ1 H1 M' ρ' H ∧ Rl c M' ρ' G' env' σ H ∧ SQ c W M' ρ' H (forL k mb (ds.drop i) env' G') Dn
    refine ⟨fun i m σ H => m = ds.length - i ∧ i ≤ ds.length ∧ Pv i σ H, ⟨ds.length, by simp, Nat.zero_le _, M, ρ1, G1, env, Gr.refl, R0.ge g1 s1, q1⟩, ?_⟩
    rintro i m σ2 H2 ⟨rfl, hi, M', ρ', G', env', g', R', q'⟩
    have z := hJ M' ρ' H2 g' i
    by_cases hlt : i < ds.length
    · refine .inr ?_
      obtain ⟨zg, zy⟩ := z.1 ds[i] (List.getElem?_eq_getElem hlt)
      refine ⟨zg, Pv (i + 1), fun σ' H' p' => ⟨ds.length - (i + 1), by omega, rfl, hlt, p'⟩, fun x H' y => ?_⟩
      obtain ⟨sm, rx⟩ := zy x H' y
      have R2 := (R'.same sm).set (i := k) (x := EV.d ds[i]) rx
      refine ⟨M', ρ', G', _, R2, ?_⟩
      rw [List.drop_eq_getElem_cons hlt] at q'
      have q2 : SQ c W M' ρ' H' (loopO (mb (env'.set k (.ev (.d ds[i]))) G') (forL k mb (ds.drop (i + 1)))) Dn := SQ.grow q' (Gr.same sm)
      exact SQ.loop q2 fun env2 G2 M2 ρ2 σ3 H3 g3 R3 q3 => ⟨M2, ρ2, G2, env2, (g'.trans (Gr.same sm)).trans g3, R3, q3⟩
    · have e : i = ds.length := by omega
      subst e
      rw [List.drop_length] at q'
      exact .inl ⟨z.2 (Nat.le_refl _), q' M' ρ' σ2 H2 Gr.refl R'⟩
end
/-! ### list comprehensions -/
def wipeE (env : En) : List Nat → En
  | [] => env
  | v :: vs => (wipeE env vs).set v .no
/-- nothing is raised out of a comprehension's element -/
def bindN {α β : Type} (o : Out α) (f : α → GS → Out β) : Out β := match o with
  | .ok a g => f a g
  | _ => .st
def lcL (k : Nat) (tt : BM) (te : EM) : List D → En → GS → Out (List D)
  | [], _, G => .ok [] G
  | d :: ds, env, G => bindN (tt (env.set k (.ev (.d d))) G) fun b G1 => if b = true then bindN (te (env.set k (.ev (.d d))) G1) fun y G2 => (match y with
      | .d y => bindN (lcL k tt te ds env G2) fun ys G3 => .ok (y :: ys) G3
      | _ => .st) else lcL k tt te ds env G1
def eLc (k : Nat) (vs : List Nat) (m : LM) (tt : BM) (te : EM) : EM := fun env G => (m env G).bind fun ds G1 => bindN (lcL k tt te ds (wipeE env vs) G1) fun ys G2 => if ys.length ≤ lstMax then .ok (.d (.lst ys)) G2 else .st
abbrev W0 : WX := fun _ _ _ _ => False
def DTs (X : Cx) (c : RC) (es : List Expr) (m : BM) : Prop := PTs X es (tDB c W0 m)
def bYes : BM := fun _ G => .ok true G
theorem dts_nil {X : Cx} {c : RC} : DTs X c [] bYes := ⟨fun pins s σ H Q I ⟨M, ρ, G, env, R, q⟩ => pts_nil.run pins s σ H Q I (q.ok R.s rfl)⟩
theorem dts_one {X : Cx} {c : RC} {e : Expr} {m : BM} (h : DB X c W0 e m) : DTs X c [e] m := pts_one h
section
variable {X : Cx} {c : RC} {W : WX} {elt e tg : Expr} {ifs : List Expr} {mr : LM} {mt : BM} {me : EM} {pos p : Pos} {M : Addr → Prop} {ρ : List Addr} {σ : L2.St} {H : Hp} {G : GS} {scope : Scope} {own : List (Str × Nat)}
theorem rl_wipe {env : En} (R : Rl c M ρ G env σ H) : ∀ vs : List Nat, Rl c M ρ G (wipeE env vs) (wipe σ vs) H
  | [] => R
  | v :: vs => by
    have Q := rl_wipe R vs
    obtain ⟨oa, h1, h2⟩ := Q.e
    have old : ∀ (j : Nat) (sl : Sl), ((wipeE env vs).set v .no)[j]? = some sl → sl = .no ∨ (j ≠ v ∧ (wipeE env vs)[j]? = some sl) := fun j sl e => by
      rcases env_set e with ⟨_, rfl⟩ | h
      · exact .inl rfl
      · exact .inr h
    refine ⟨Q.s, by unfold wipeE wipe; simpa using Q.len, oa, fun j sl e => ?_, fun i j o u e1 e2 e3 => ?_⟩
    · rcases old j sl e with rfl | ⟨hj, e⟩
      · trivial
      · have h := h1 j sl e
        have sg : (wipe σ (v :: vs))[j]? = (wipe σ vs)[j]? := (List.getElem?_set_ne (Ne.symm hj) : ((wipe σ vs).set v none)[j]? = _)
        match sl, h with
        | .no, _ => trivial
        | .ev e, ⟨v, a, b⟩ => exact ⟨v, by rw [sg]; exact a, b⟩
        | .own (.lst xs), ⟨a, b⟩ => exact ⟨by rw [sg]; exact a, b⟩
        | .own (.ins k fs), ⟨a, b⟩ => exact ⟨by rw [sg]; exact a, b⟩
        | .exn k fs, ⟨a, b⟩ => exact ⟨by rw [sg]; exact a, b⟩
    · rcases old i _ e1 with z | ⟨_, e1⟩
      · cases z
      · rcases old j _ e2 with z | ⟨_, e2⟩
        · cases z
        · exact h2 i j o u e1 e2 e3
/-- the frame with one more address of its own -/
theorem rl_more {env : En} {D : Addr} {o : HO} (R : Rl c M ρ G env σ H) (h : H D = none) : Rl c (fun a => M a ∨ a = D) ρ G env σ (upd H D o) := by
  have sm : Same H (upd H D o) := same_upd h
  have fx := R.s.fresh h
  have g : Gr M ρ H (fun a => M a ∨ a = D) ρ (upd H D o) := ⟨fun a o q _ _ => sm a o q, fun a o q => ⟨o, sm a o q⟩, ⟨[], by simp, by simp⟩, fun a z => z.elim .inl fun e => .inr (by rw [e]; exact h)⟩
  obtain ⟨oa, h1, h2⟩ := R.e
  refine ⟨⟨R.s.len, R.s.nd, fun a ha => ⟨(R.s.sep a ha).1, fun z => z.elim (R.s.sep a ha).2 fun e => fx.2.2 (by rw [← e]; exact ha)⟩, fun i xs e => ?_, fun a z => z.elim (fun z => same_ne sm (R.s.mt a z)) fun e => by rw [e, upd_same]; simp, fun a z => same_ne sm (R.s.bt a z), fun i k e => let ⟨p, t⟩ := R.s.tb i k e; ⟨p, t.ext sm⟩⟩, R.len, oa, fun i sl e => ?_, h2⟩
  · obtain ⟨a, vs, p, q, r⟩ := R.s.at_ i xs e
    exact ⟨a, vs, p, sm _ _ q, repEs_grow r g⟩
  · have hq := h1 i sl e
    match sl, hq with
    | .no, _ => trivial
    | .ev e, ⟨v, a, b⟩ => exact ⟨v, a, b.grow g⟩
    | .own (.lst xs), ⟨a, b, vs, d, r⟩ => exact ⟨a, ⟨.inl b.1, b.2⟩, vs, sm _ _ d, reps_grow r g⟩
    | .own (.ins k2 f2), ⟨a, o2, b, dx, gs, d, r⟩ => exact ⟨a, o2, .inl b, dx, gs, sm _ _ d, flds_grow r g⟩
    | .exn k2 f2, ⟨a, b⟩ => exact ⟨a, b.grow g⟩
end
end DL
set_option Elab.async false
set_option linter.all false
set_option maxRecDepth 100000
set_option maxHeartbeats 4000000
namespace DL
open PySem L2 PyProof.Rows StX ClX
theorem wipe_get {σ : L2.St} {j : Nat} : ∀ {vs : List Nat}, (wipe σ vs)[j]? = if j ∈ vs ∧ j < σ.length then some none else σ[j]?
  | [] => by simp [wipe]
  | v :: vs => by
    show ((wipe σ vs).set v none)[j]? = _
    by_cases h : v = j
    · subst h
      by_cases hl : v < σ.length
      · rw [List.getElem?_set_self (by rw [wipe_length]; exact hl)]
        simp [hl]
      · have e1 : ((wipe σ vs).set v none)[v]? = none := List.getElem?_eq_none (by rw [List.length_set, wipe_length]; omega)
        have e2 : σ[v]? = none := List.getElem?_eq_none (by omega)
        rw [e1, if_neg (fun z => hl z.2), e2]
    · rw [List.getElem?_set_ne h, wipe_get (vs := vs)]
      have : (j ∈ v :: vs) ↔ j ∈ vs := by
        constructor
        · intro z
          rcases List.mem_cons.mp z with z | z
          · exact absurd z.symm h
          · exact z
        · exact List.mem_cons_of_mem _
      simp [this]
theorem wipe_set {σ : L2.St} {k : Nat} {y : Option V} {vs : List Nat} (h : k ∈ vs) : wipe ((wipe σ vs).set k y) vs = wipe σ vs := by
  refine List.ext_getElem? fun j => ?_
  rw [wipe_get, List.length_set, wipe_length]
  by_cases hj : j ∈ vs ∧ j < σ.length
  · rw [if_pos hj, wipe_get, if_pos hj]
  · rw [if_neg hj]
    by_cases hk : k = j
    · subst hk
      have hl : ¬ k < σ.length := fun z => hj ⟨h, z⟩
      rw [List.getElem?_eq_none (by rw [List.length_set, wipe_length]; omega), List.getElem?_eq_none (by rw [wipe_length]; omega)]
    · rw [List.getElem?_set_ne hk]
section
variable {X : Cx} {c : RC} {W : WX} {elt e tg : Expr} {ifs : List Expr} {mr : LM} {mt : BM} {me : EM} {pos p : Pos} {M : Addr → Prop} {ρ : List Addr} {σ : L2.St} {H : Hp} {G : GS} {scope : Scope} {own : List (Str × Nat)} {k : Nat}
theorem RepN.zz {M1 M2 : Addr → Prop} {ρ1 ρ2 : List Addr} (hz : ∀ a, Zz c M1 ρ1 a → Zz c M2 ρ2 a) : ∀ {n : Nat} {d : DL.D} {u : V}, RepN c M1 ρ1 H n d u → RepN c M2 ρ2 H n d u := by
  intro n
  induction n with
  | zero => intro d u h; cases d <;> exact h
  | succ n ih =>
    intro d u h
    cases d with
    | tup xs => obtain ⟨a, vs, e, z, r⟩ := h; exact ⟨a, vs, e, z.imp (fun q => ⟨hz a q.1, q.2⟩) id, r.imp fun _ _ q => ih q⟩
    | lst xs => obtain ⟨a, vs, e, z, r⟩ := h; exact ⟨a, vs, e, z.imp (fun q => ⟨hz a q.1, q.2⟩) id, r.imp fun _ _ q => ih q⟩
    | ins k fs => obtain ⟨a, dx, gs, e, z, e2, nm, r⟩ := h; exact ⟨a, dx, gs, e, hz a z, e2, nm, r.imp fun _ _ q => ih q⟩
    | _ => exact h
theorem Rep.zz {M1 M2 : Addr → Prop} {ρ1 ρ2 : List Addr} (hz : ∀ a, Zz c M1 ρ1 a → Zz c M2 ρ2 a) {d : DL.D} {u : V} (h : Rep c M1 ρ1 H d u) : Rep c M2 ρ2 H d u := let ⟨n, q⟩ := h; ⟨n, RepN.zz hz q⟩
theorem map_dz {xs : List DL.D} {vs : List V} (h : All2 (Rep c M ρ H) xs vs) : All2 (RepE c M ρ H) (xs.map .d) vs := by
  induction h with
  | nil => exact .nil
  | cons r _ ih => exact .cons r ih
/-- while the new list at D grows -/
structure LcI (c : RC) (M : Addr → Prop) (ρ1 : List Addr) (H1 : Hp) (D : Addr) (ρ' : List Addr) (G' : GS) (envw : En) (σw : L2.St) (H : Hp) (done : List DL.D) : Prop where
  g : Ge M ρ1 H1 ρ' H
  nd : D ∉ ρ'
  s : SR c (fun a => M a ∨ a = D) ρ' G' H
  len : envw.length ≤ σw.length
  e : ∃ oa : Nat → Addr, (∀ (i : Nat) (sl : Sl), envw[i]? = some sl → SlR c (fun a => M a ∨ a = D) ρ' H oa σw i sl) ∧ (∀ (i j : Nat) (o u : OW), envw[i]? = some (.own o) → envw[j]? = some (.own u) → oa i = oa j → i = j) ∧ ∀ (i : Nat) (o : OW), envw[i]? = some (.own o) → oa i ≠ D
  at_ : ∃ acc, H D = some (.lst acc) ∧ All2 (Rep c (fun a => M a ∨ a = D) ρ' H) done acc
theorem LcI.r {ρ1 : List Addr} {H1 : Hp} {D : Addr} {ρ' : List Addr} {G' : GS} {envw : En} {σw : L2.St} {done : List DL.D} (L : LcI c M ρ1 H1 D ρ' G' envw σw H done) : Rl c (fun a => M a ∨ a = D) ρ' G' envw σw H :=
  let ⟨oa, h1, h2, _⟩ := L.e; ⟨L.s, L.len, oa, h1, h2⟩
theorem slr_ge {M' : Addr → Prop} {ρ' ρ2 : List Addr} {H' : Hp} {oa : Nat → Addr} {i : Nat} {sl : Sl} (hM : ∀ a, M' a → a ∉ ρ') (h : SlR c M' ρ' H oa σ i sl) (g : Ge M' ρ' H ρ2 H') : SlR c M' ρ2 H' oa σ i sl := by
  match sl, h with
  | .no, _ => trivial
  | .ev e, ⟨v, a, b⟩ => exact ⟨v, a, b.grow g.gr⟩
  | .own (.lst xs), ⟨a, b, vs, d, f⟩ => exact ⟨a, b, vs, g.keep _ _ d (hM _ b.1), reps_grow f g.gr⟩
  | .own (.ins k fs), ⟨a, o, b, dx, gs, d, f⟩ => exact ⟨a, o, b, dx, gs, g.keep _ _ d (hM _ b), flds_grow f g.gr⟩
  | .exn k fs, ⟨a, b⟩ => exact ⟨a, b.grow g.gr⟩
theorem lcI_ge {ρ1 : List Addr} {H1 : Hp} {D : Addr} {ρ' ρ2 : List Addr} {G' G2 : GS} {envw : En} {σw : L2.St} {H' : Hp} {done : List DL.D} (L : LcI c M ρ1 H1 D ρ' G' envw σw H done) (g : Ge (fun a => M a ∨ a = D) ρ' H ρ2 H') (s : SR c (fun a => M a ∨ a = D) ρ2 G2 H') : LcI c M ρ1 H1 D ρ2 G2 envw σw H' done := by
  obtain ⟨acc, hA, ra⟩ := L.at_
  obtain ⟨oa, h1, h2, h3⟩ := L.e
  have g' : Ge M ρ' H ρ2 H' := ⟨g.keep, g.there, g.grow⟩
  exact ⟨L.g.trans g', fun z => (s.sep D z).2 (.inr rfl), s, L.len, ⟨oa, fun i sl e => slr_ge (fun a m h => (L.s.sep a h).2 m) (h1 i sl e) g, h2, h3⟩, acc, g.keep D _ hA L.nd, reps_grow ra g.gr⟩
/-- one more item -/
theorem lcI_put {ρ1 : List Addr} {H1 : Hp} {D : Addr} {ρ' : List Addr} {G' : GS} {envw : En} {σw : L2.St} {done : List DL.D} {acc : List V} {y : DL.D} {v : V} (hD : H1 D = none) (L : LcI c M ρ1 H1 D ρ' G' envw σw H done) (hA : H D = some (.lst acc)) (ra : All2 (Rep c (fun a => M a ∨ a = D) ρ' H) done acc)
    (rv : Rep c (fun a => M a ∨ a = D) ρ' H y v) : LcI c M ρ1 H1 D ρ' G' envw σw (upd H D (.lst (acc ++ [v]))) (done ++ [y]) := by
  obtain ⟨oa, h1, h2, h3⟩ := L.e
  have hm' : (fun a => M a ∨ a = D) D := .inr rfl
  have gw := gr_own (M := fun a => M a ∨ a = D) (ρ := ρ') (o := .lst (acc ++ [v])) hm' hA
  have keepH : ∀ a o, H1 a = some o → (upd H D (.lst (acc ++ [v]))) a = H a := fun a o e => upd_ne (ne_of_none e hD)
  refine ⟨⟨fun a o e n => by rw [keepH a o e]; exact L.g.keep a o e n, fun a o e => by rw [keepH a o e]; exact L.g.there a o e, L.g.grow⟩, L.nd, L.s.own hm' hA (fun _ _ => lst_code), L.len, ⟨oa, fun i sl e => ?_, h2, h3⟩, acc ++ [v], upd_same, All2.append (reps_grow ra gw) (.cons (Rep.grow rv gw) .nil)⟩
  have h := h1 i sl e
  match sl, h, e with
  | .no, _, _ => trivial
  | .ev e, ⟨v, a, b⟩, _ => exact ⟨v, a, b.grow gw⟩
  | .own (.lst xs), ⟨a, b, vs, d, f⟩, e => exact ⟨a, b, vs, by rw [upd_ne (h3 i _ e)]; exact d, reps_grow f gw⟩
  | .own (.ins k fs), ⟨a, o, b, dx, gs, d, f⟩, e => exact ⟨a, o, b, dx, gs, by rw [upd_ne (by rw [← o]; exact h3 i _ e)]; exact d, flds_grow f gw⟩
  | .exn k fs, ⟨a, b⟩, _ => exact ⟨a, b.grow gw⟩
theorem cv_less {D : Addr} : Cv c (fun a => M a ∨ a = D) c M ρ := ⟨rfl, rfl, rfl, fun a h => ⟨h.1, fun z => h.2.1 (.inl z), h.2.2⟩⟩
/-- a comprehension whose list ends as Fin says -/
def eLcG {β : Type} (Fin : List DL.D → GS → Out β) (k : Nat) (vs : List Nat) (mr : LM) (mt : BM) (me : EM) : En → GS → Out β := fun env G => (mr env G).bind fun ds G1 => bindN (lcL k mt me ds (wipeE env vs) G1) fun ys G2 => if ys.length ≤ lstMax then Fin ys G2 else .st
def eLcF (Fin : List DL.D → GS → Out EV) (k : Nat) (vs : List Nat) (mr : LM) (mt : BM) (me : EM) : EM := fun env G => (mr env G).bind fun ds G1 => bindN (lcL k mt me ds (wipeE env vs) G1) fun ys G2 => if ys.length ≤ lstMax then Fin ys G2 else .st
/-- what is to be shown of Fin: the list that stands at D is it -/
def FinOk (c : RC) (W : WX) (Fin : List DL.D → GS → Out EV) : Prop := ∀ (M : Addr → Prop) (ρ1 ρ' : List Addr) (σ : L2.St) (G1 G' : GS) (H1 H2 : Hp) (D : Addr) (envw : En) (σw : L2.St) (done : List DL.D) (Q : VK),
  SR c M ρ1 G1 H1 → H1 D = none → LcI c M ρ1 H1 D ρ' G' envw σw H2 done → TQ (RE c) c W M ρ1 σ H1 (Fin done G') Q → Q (.ref D) H2
theorem tlc_ofG {β : Type} {Rr : (Addr → Prop) → List Addr → Hp → β → V → Prop} {Fin : List DL.D → GS → Out β} {wi : TI} {Q : VK} {vs : List Nat} {env : En} (R0 : Rl c M ρ G env σ H)
    (hF : ∀ (ρ1 ρ' : List Addr) (G1 G' : GS) (H1 H2 : Hp) (D : Addr) (done : List DL.D), Ge M ρ H ρ1 H1 → SR c M ρ1 G1 H1 → H1 D = none → LcI c M ρ1 H1 D ρ' G' (wipeE env vs) (wipe σ vs) H2 done → TQ Rr c W M ρ1 σ H1 (Fin done G') Q → Q (.ref D) H2)
    (hk : k ∈ vs) (hwi : ∀ R, tDI c W mr σ H R → wi σ H R) (q : TQ Rr c W M ρ σ H (eLcG Fin k vs mr mt me env G) Q) : tLc wi (gName k) (tDB c W0 mt) (tD c W0 me) vs σ H Q := by
  refine hwi _ ⟨M, ρ, G, env, R0, ?_⟩
  unfold eLcG at q
  cases hm : mr env G with
  | st => rw [hm] at q; exact q
  | er cl fs G1 => rw [hm] at q; exact q
  | ok ds G1 =>
    rw [hm] at q
    intro J ρ1 H1 g1 s1 hJ D hD
    have R1 := R0.ge g1 s1
    have q1 : TQ Rr c W M ρ1 σ H1 (bindN (lcL k mt me ds (wipeE env vs) G1) fun ys G2 => if ys.length ≤ lstMax then Fin ys G2 else .st) Q := TQ.grow q g1
    -- what is left to do, behind done
    let Pv : Nat → Hp → Prop := fun i H => ∃ ρ' G' done, LcI c M ρ1 H1 D ρ' G' (wipeE env vs) (wipe σ vs) H done ∧ done.length ≤ lstMax ∧ (∀ ys G3, lcL k mt me (ds.drop i) (wipeE env vs) G' = .ok ys G3 → (done ++ ys).length ≤ lstMax) ∧
      TQ Rr c W M ρ1 σ H1 (bindN (lcL k mt me (ds.drop i) (wipeE env vs) G') fun ys G2 => Fin (done ++ ys) G2) Q
    have bound : ∀ {ρ' : List Addr} {H2 : Hp} {o : Out (List DL.D)}, TQ Rr c W M ρ' σ H2 (bindN o fun ys G2 => if ys.length ≤ lstMax then Fin ys G2 else .st) Q → (∀ ys G3, o = .ok ys G3 → ys.length ≤ lstMax) ∧ TQ Rr c W M ρ' σ H2 (bindN o fun ys G2 => Fin ys G2) Q := fun {ρ' H2 o} h => by
      cases o with
      | ok ys G3 =>
        have h' : TQ Rr c W M ρ' σ H2 (if ys.length ≤ lstMax then Fin ys G3 else .st) Q := h
        split at h'
        · rename_i hl
          exact ⟨fun a b e => by cases e; exact hl, h'⟩
        · exact h'.elim
      | er cl fs G3 => exact (show False from h).elim
      | st => exact (show False from h).elim
    obtain ⟨b1, q2⟩ := bound q1
    have L0 : LcI c M ρ1 H1 D ρ1 G1 (wipeE env vs) (wipe σ vs) (upd H1 D (.lst [])) [] :=
      let RM := rl_more (o := .lst []) (rl_wipe R1 vs) hD
      let RW := rl_wipe R1 vs
      by
        obtain ⟨oa, h1, h2⟩ := RW.e
        have fx := s1.fresh hD
        have sm : Same H1 (upd H1 D (.lst [])) := same_upd hD
        have g : Gr M ρ1 H1 (fun a => M a ∨ a = D) ρ1 (upd H1 D (.lst [])) := ⟨fun a o q _ _ => sm a o q, fun a o q => ⟨o, sm a o q⟩, ⟨[], by simp, by simp⟩, fun a z => z.elim .inl fun e => .inr (by rw [e]; exact hD)⟩
        refine ⟨Ge.same sm, fx.2.2, RM.s, RM.len, ⟨oa, fun i sl e => ?_, h2, fun i o e => ?_⟩, [], upd_same, .nil⟩
        · have hq := h1 i sl e
          match sl, hq with
          | .no, _ => trivial
          | .ev e, ⟨v, a, b⟩ => exact ⟨v, a, b.grow g⟩
          | .own (.lst xs), ⟨a, b, vs, d, r⟩ => exact ⟨a, ⟨.inl b.1, b.2⟩, vs, sm _ _ d, reps_grow r g⟩
          | .own (.ins k2 f2), ⟨a, o2, b, dx, gs, d, r⟩ => exact ⟨a, o2, .inl b, dx, gs, sm _ _ d, flds_grow r g⟩
          | .exn k2 f2, ⟨a, b⟩ => exact ⟨a, b.grow g⟩
        · have hq := h1 i _ e
          match o, hq with
          | .lst xs, ⟨_, b, _⟩ => exact fun z => fx.2.1 (by rw [← z]; exact b.1)
          | .ins k2 f2, ⟨_, o2, b, _⟩ => exact fun z => fx.2.1 (by rw [← z, o2]; exact b)
    refine ⟨fun i m H => m = ds.length - i ∧ i ≤ ds.length ∧ Pv i H, ⟨ds.length, by simp, Nat.zero_le _, ρ1, G1, [], L0, by simp, by simpa using b1, by simpa using q2⟩, ?_⟩
    rintro i m H2 ⟨rfl, hi, ρ', G', done, L, hdn, hbd, q'⟩
    have gD : Gr M ρ1 H1 (fun a => M a ∨ a = D) ρ' H2 := ⟨fun a o e n _ => L.g.keep a o e n, L.g.there, L.g.grow, fun a z => z.elim .inl fun e => .inr (by rw [e]; exact hD)⟩
    have z := hJ _ ρ' H2 gD i
    by_cases hlt : i < ds.length
    · refine .inr ?_
      obtain ⟨zg, zy⟩ := z.1 ds[i] (List.getElem?_eq_getElem hlt)
      refine ⟨zg, Pv (i + 1), fun H' p' => ⟨ds.length - (i + 1), by omega, rfl, hlt, p'⟩, fun x H' y => ?_⟩
      obtain ⟨sm, rx⟩ := zy x H' y
      have L1 : LcI c M ρ1 H1 D ρ' G' (wipeE env vs) (wipe σ vs) H' done := lcI_ge L (Ge.same sm) (L.s.same sm)
      have R2 := L1.r.set (i := k) (x := EV.d ds[i]) rx
      refine ⟨wipe_set hk, (fun a => M a ∨ a = D), ρ', G', _, R2, ?_⟩
      rw [List.drop_eq_getElem_cons hlt] at q' hbd
      have q3 : TQ Rr c W M ρ1 σ H1 (bindN (lcL k mt me (ds[i] :: ds.drop (i + 1)) (wipeE env vs) G') fun ys G2 => Fin (done ++ ys) G2) Q := q'
      have key : lcL k mt me (ds[i] :: ds.drop (i + 1)) (wipeE env vs) G' = bindN (mt ((wipeE env vs).set k (.ev (.d ds[i]))) G') fun b G1 => if b = true then bindN (me ((wipeE env vs).set k (.ev (.d ds[i]))) G1) fun y G2 => (match y with
        | .d y => bindN (lcL k mt me (ds.drop (i + 1)) (wipeE env vs) G2) fun ys G3 => .ok (y :: ys) G3
        | _ => .st) else lcL k mt me (ds.drop (i + 1)) (wipeE env vs) G1 := rfl
      rw [key] at q3 hbd
      cases ht : mt ((wipeE env vs).set k (.ev (.d ds[i]))) G' with
      | st => rw [ht] at q3; exact (show False from q3).elim
      | er cl fs G3 => rw [ht] at q3; exact (show False from q3).elim
      | ok b G3 =>
        rw [ht] at q3 hbd
        intro b' ρ3 H3 g3 s3 eb
        obtain rfl : b' = b := eb.symm
        have L3 : LcI c M ρ1 H1 D ρ3 G3 (wipeE env vs) (wipe σ vs) H3 done := lcI_ge L1 g3 s3
        have q4 : TQ Rr c W M ρ1 σ H1 (bindN (if b' = true then bindN (me ((wipeE env vs).set k (.ev (.d ds[i]))) G3) fun y G2 => (match y with
          | .d y => bindN (lcL k mt me (ds.drop (i + 1)) (wipeE env vs) G2) fun ys G3 => .ok (y :: ys) G3
          | _ => .st) else lcL k mt me (ds.drop (i + 1)) (wipeE env vs) G3) fun ys G2 => Fin (done ++ ys) G2) Q := q3
        have hb4 : ∀ ys G5, (if b' = true then bindN (me ((wipeE env vs).set k (.ev (.d ds[i]))) G3) fun y G2 => (match y with
          | .d y => bindN (lcL k mt me (ds.drop (i + 1)) (wipeE env vs) G2) fun ys G3 => .ok (y :: ys) G3
          | _ => .st) else lcL k mt me (ds.drop (i + 1)) (wipeE env vs) G3) = .ok ys G5 → (done ++ ys).length ≤ lstMax := hbd
        cases b' with
        | false =>
          rw [if_neg (by decide)] at q4 hb4 ⊢
          exact ⟨ρ3, G3, done, L3, hdn, hb4, q4⟩
        | true =>
          rw [if_pos rfl] at q4 hb4 ⊢
          have R3 : Rl c (fun a => M a ∨ a = D) ρ3 G3 ((wipeE env vs).set k (.ev (.d ds[i]))) ((wipe σ vs).set k (some x)) H3 := R2.ge g3 s3
          refine ⟨_, ρ3, G3, _, R3, ?_⟩
          cases he : me ((wipeE env vs).set k (.ev (.d ds[i]))) G3 with
          | st => rw [he] at q4; exact (show False from q4).elim
          | er cl fs G5 => rw [he] at q4; exact (show False from q4).elim
          | ok y G5 =>
            rw [he] at q4 hb4
            cases y with
            | o j => exact (show False from q4).elim
            | d y =>
              intro v ρ5 H5 g5 s5 rv
              have L5 : LcI c M ρ1 H1 D ρ5 G5 (wipeE env vs) (wipe σ vs) H5 done := lcI_ge L3 g5 s5
              obtain ⟨acc, hA, ra⟩ := L5.at_
              have q5 : TQ Rr c W M ρ1 σ H1 (bindN (bindN (lcL k mt me (ds.drop (i + 1)) (wipeE env vs) G5) fun ys G3 => .ok (y :: ys) G3) fun ys G2 => Fin (done ++ ys) G2) Q := q4
              have hb5 : ∀ ys G6, (bindN (lcL k mt me (ds.drop (i + 1)) (wipeE env vs) G5) fun ys G3 => .ok (y :: ys) G3) = .ok ys G6 → (done ++ ys).length ≤ lstMax := hb4
              cases hr : lcL k mt me (ds.drop (i + 1)) (wipeE env vs) G5 with
              | st => rw [hr] at q5; exact (show False from q5).elim
              | er cl fs G6 => rw [hr] at q5; exact (show False from q5).elim
              | ok ys G6 =>
                rw [hr] at q5 hb5
                have hbb := hb5 (y :: ys) G6 rfl
                have hlen : acc.length < sizeLine := by
                  rw [← ra.length]
                  refine Nat.lt_of_lt_of_le (Nat.lt_succ_of_le hdn) (by decide)
                refine ⟨acc, hA, hlen, ρ5, G5, done ++ [y], lcI_put hD L5 hA ra rv, ?_, ?_, ?_⟩
                · simp at hbb ⊢; omega
                · intro ys' G7 e
                  rw [hr] at e
                  cases e
                  simpa using hbb
                · rw [hr]
                  have q7 : TQ Rr c W M ρ1 σ H1 (Fin (done ++ (y :: ys)) G6) Q := q5
                  show TQ Rr c W M ρ1 σ H1 (Fin ((done ++ [y]) ++ ys) G6) Q
                  rw [List.append_assoc]
                  exact q7
    · have e : i = ds.length := by omega
      subst e
      rw [List.drop_length] at q'
      refine .inl ⟨z.2 (Nat.le_refl _), ?_⟩
      have q6 : TQ Rr c W M ρ1 σ H1 (Fin (done ++ []) G') Q := q'
      rw [List.append_nil] at q6
      exact hF ρ1 ρ' G1 G' H1 H2 D done g1 s1 hD L q6
theorem tlc_ofF {Fin : List DL.D → GS → Out EV} (hF : FinOk c W Fin) {wi : TI} {Q : VK} {vs : List Nat} (hk : k ∈ vs) (hwi : ∀ R, tDI c W mr σ H R → wi σ H R) (q : tD c W (eLcF Fin k vs mr mt me) σ H Q) : tLc wi (gName k) (tDB c W0 mt) (tD c W0 me) vs σ H Q := by
  obtain ⟨M, ρ, G, env, R0, q⟩ := q
  exact tlc_ofG (Rr := RE c) (Fin := Fin) R0 (fun ρ1 ρ' G1 G' H1 H2 D done g1 s1 hD L q6 => hF M ρ1 ρ' σ G1 G' H1 H2 D _ _ done Q s1 hD L q6) hk hwi q
theorem finD : FinOk c W (fun ys G => .ok (.d (.lst ys)) G) := fun M ρ1 ρ' σ G1 G' H1 H2 D envw σw done Q s1 hD L q6 => by
  obtain ⟨acc, hA, ra⟩ := L.at_
  have fx := s1.fresh hD
  have sM : SR c M ρ' G' H2 := L.s.cv cv_less (fun a h => ⟨(L.s.sep a h).1, fun z => (L.s.sep a h).2 (.inl z)⟩) (fun a z => L.s.mt a (.inl z)) L.s.bt
  exact q6 (.ref D) ρ' H2 L.g sM (Rep.lst (.inl ⟨⟨fx.1, fx.2.1, L.nd⟩, .inl hA⟩) (ra.imp fun _ _ r => r.cv cv_less))
theorem tlc_of {wi : TI} {Q : VK} {vs : List Nat} (hk : k ∈ vs) (hwi : ∀ R, tDI c W mr σ H R → wi σ H R) (q : tD c W (eLc k vs mr mt me) σ H Q) : tLc wi (gName k) (tDB c W0 mt) (tD c W0 me) vs σ H Q := by
  refine tlc_ofF (Fin := fun ys G => .ok (.d (.lst ys)) G) finD hk hwi ?_
  exact q
/-- the list is an object that may be written -/
def eLcO (k : Nat) (vs : List Nat) (mr : LM) (mt : BM) (me : EM) : EM := eLcF (fun ys G => .ok (.o G.length) (G ++ [.lst (ys.map .d)])) k vs mr mt me
theorem finO : FinOk c W (fun ys G => .ok (.o G.length) (G ++ [.lst (ys.map .d)])) := fun M ρ1 ρ' σ G1 G' H1 H2 D envw σw done Q s1 hD L q6 => by
  obtain ⟨acc, hA, ra⟩ := L.at_
  have fx := s1.fresh hD
  have cz : ∀ a, Zz c (fun a => M a ∨ a = D) ρ' a → Zz c M (ρ' ++ [D]) a := fun a h => ⟨h.1, fun z => h.2.1 (.inl z), fun z => by
    rcases List.mem_append.mp z with z | z
    · exact h.2.2 z
    · exact h.2.1 (.inr (by simpa using z))⟩
  have hlen : ρ'.length = G'.length := L.s.len
  have rM : All2 (RepE c M (ρ' ++ [D]) H2) (done.map EV.d) acc := map_dz (ra.imp fun _ _ r => Rep.zz cz r)
  have hs : SR c M (ρ' ++ [D]) (G' ++ [.lst (done.map .d)]) H2 := by
    refine ⟨by simp [hlen], ?_, fun a h => ?_, fun i ys e => ?_, fun a m => L.s.mt a (.inl m), L.s.bt, fun i k e => ?_⟩
    · refine List.nodup_append.mpr ⟨L.s.nd, by simp, fun a h1 b h2 => ?_⟩
      rintro rfl
      exact L.nd (by rw [List.mem_singleton] at h2; rw [← h2]; exact h1)
    · rcases List.mem_append.mp h with h | h
      · exact ⟨(L.s.sep a h).1, fun z => (L.s.sep a h).2 (.inl z)⟩
      · rw [List.mem_singleton] at h
        subst h
        exact ⟨fx.1, fx.2.1⟩
    · by_cases hi : i < G'.length
      · rw [List.getElem?_append_left hi] at e
        obtain ⟨a, us, h1, h2, h3⟩ := L.s.at_ i ys e
        refine ⟨a, us, by rw [List.getElem?_append_left (by rw [hlen]; exact hi)]; exact h1, h2, h3.imp fun x u r => ?_⟩
        cases x with
        | d x => exact Rep.zz cz r
        | o j =>
          obtain ⟨b, e1, e2⟩ := r
          exact ⟨b, by rw [List.getElem?_append_left (List.getElem?_eq_some_iff.mp e1).1]; exact e1, e2⟩
      · have hi2 : i = G'.length := by
          have := (List.getElem?_eq_some_iff.mp e).1
          simp at this
          omega
        subst hi2
        rw [List.getElem?_append_right (Nat.le_refl _), Nat.sub_self] at e
        cases e
        exact ⟨D, acc, by rw [← hlen]; simp, hA, rM⟩
    · by_cases hi : i < G'.length
      · rw [List.getElem?_append_left hi] at e
        obtain ⟨h1, t⟩ := L.s.tb i k e
        exact ⟨by rw [List.getElem?_append_left (by rw [hlen]; exact hi)]; exact h1, t⟩
      · have hi2 : i = G'.length := by
          have := (List.getElem?_eq_some_iff.mp e).1
          simp at this
          omega
        subst hi2
        rw [List.getElem?_append_right (Nat.le_refl _), Nat.sub_self] at e
        cases e
  have hg : Ge M ρ1 H1 (ρ' ++ [D]) H2 := by
    obtain ⟨ext, e1, e2⟩ := L.g.grow
    refine ⟨L.g.keep, L.g.there, ext ++ [D], by rw [e1, List.append_assoc], fun a h => ?_⟩
    rcases List.mem_append.mp h with h | h
    · exact e2 a h
    · rw [List.mem_singleton] at h; subst h; exact hD
  exact q6 (.ref D) (ρ' ++ [D]) H2 hg hs ⟨D, by rw [← hlen]; simp, rfl⟩
theorem de_lcO (hc : X.calm = true) (hN : X.N.Nodup) (hi : DI X c W tg e mr) (ok : BlkOk X.N X.env.scope scope own) (hk : k ∈ own.map (·.2))
    (hg : ∀ (s : Shared) (H : Hp) (C : Addr) (cl : List (Str × Addr)) (fp : List Addr), PG (X.blk s H scope (compEnvC scope cl C X.env) fp) tg (gName k)) (ht : ∀ (s : Shared) (H : Hp) (C : Addr) (cl : List (Str × Addr)) (fp : List Addr), DTs (X.blk s H scope (compEnvC scope cl C X.env) fp) c ifs mt)
    (he : ∀ (s : Shared) (H : Hp) (C : Addr) (cl : List (Str × Addr)) (fp : List Addr), DE (X.blk s H scope (compEnvC scope cl C X.env) fp) c W0 elt me) (hs : ∀ x, foldedSetIterable e X.env x = pure x := by intro _; rfl) :
    DE X c W (.ListComp elt [⟨tg, e, ifs, 0⟩] scope pos) (eLcO k (own.map (·.2)) mr mt me) :=
  pe_imp (pe_lc hc hN hi ok hg ht he hs) fun σ H Q q => tlc_ofF finO hk (fun R q => q) q
theorem de_lc (hc : X.calm = true) (hN : X.N.Nodup) (hi : DI X c W tg e mr) (ok : BlkOk X.N X.env.scope scope own) (hk : k ∈ own.map (·.2))
    (hg : ∀ (s : Shared) (H : Hp) (C : Addr) (cl : List (Str × Addr)) (fp : List Addr), PG (X.blk s H scope (compEnvC scope cl C X.env) fp) tg (gName k)) (ht : ∀ (s : Shared) (H : Hp) (C : Addr) (cl : List (Str × Addr)) (fp : List Addr), DTs (X.blk s H scope (compEnvC scope cl C X.env) fp) c ifs mt)
    (he : ∀ (s : Shared) (H : Hp) (C : Addr) (cl : List (Str × Addr)) (fp : List Addr), DE (X.blk s H scope (compEnvC scope cl C X.env) fp) c W0 elt me) (hs : ∀ x, foldedSetIterable e X.env x = pure x := by intro _; rfl) :
    DE X c W (.ListComp elt [⟨tg, e, ifs, 0⟩] scope pos) (eLc k (own.map (·.2)) mr mt me) :=
  pe_imp (pe_lc hc hN hi ok hg ht he hs) fun σ H Q q => tlc_of hk (fun R q => q) q
end
end DL
set_option Elab.async false
set_option linter.all false
set_option maxRecDepth 100000
set_option maxHeartbeats 4000000
namespace DL
open PySem L2 PyProof.Rows StX ClX
section
variable {X : Cx} {c : RC} {W : WX} {e o a b : Expr} {es : List Expr} {ma mb mo mi me : EM} {mr : AM} {pos p p2 : Pos} {M : Addr → Prop} {ρ : List Addr} {σ : L2.St} {H : Hp} {G : GS}
theorem all2_two {α β : Type} {R : α → β → Prop} {x y : α} {vs : List β} (h : All2 R [x, y] vs) : ∃ a b, vs = [a, b] ∧ R x a ∧ R y b := by
  cases h with
  | cons r t => cases t with
    | cons r2 t => cases t; exact ⟨_, _, rfl, r, r2⟩
theorem atI_all2 {α β : Type} {R : α → β → Prop} {xs : List α} {ys : List β} {i : Int} {x : α} (r : All2 R xs ys) (h : atI xs i = some x) : ∃ y, atI ys i = some y ∧ R x y := by
  unfold atI at h ⊢
  rw [← r.length]
  cases hi : ixN xs.length i with
  | none => rw [hi] at h; cases h
  | some j => rw [hi] at h; exact r.get h
theorem dix (hK : c.K = X.K) : IxR X (V2 c fIx) := by
  intro value slice pins s σ H x y v u Q I rx ry ⟨M, ρ, G, a, b, sr, ra, rb, q⟩ hs
  unfold fIx at q
  split at q
  · rename_i xs i
    obtain ⟨p, vs, rfl, z, rr⟩ := Rep.of_lst ra
    cases Rep.of_int rb
    cases hz : atI xs i with
    | none => rw [hz] at q; exact q.elim
    | some d =>
      rw [hz] at q
      obtain ⟨w, hw, rw'⟩ := atI_all2 rr hz
      exact ix_list value slice pins s σ H _ _ v u Q I rx ry ⟨p, vs, i, w, rfl, rfl, by rw [← hK]; exact z.sq, hw, q _ ρ H Ge.refl sr rw'⟩ hs
  · rename_i xs i
    obtain ⟨p, vs, rfl, z, rr⟩ := Rep.of_tup ra
    cases Rep.of_int rb
    cases hz : atI xs i with
    | none => rw [hz] at q; exact q.elim
    | some d =>
      rw [hz] at q
      obtain ⟨w, hw, rw'⟩ := atI_all2 rr hz
      exact ix_tup value slice pins s σ H _ _ v u Q I rx ry ⟨p, vs, i, w, rfl, rfl, by rw [← hK]; exact z.sq, hw, q _ ρ H Ge.refl sr rw'⟩ hs
  · rename_i k i
    obtain ⟨p, hp, rfl⟩ := ra
    cases Rep.of_int rb
    split at q
    · rename_i xs hx
      obtain ⟨p', vs, hp', hH, rr⟩ := sr.at_ k xs hx
      rw [hp] at hp'
      cases hp'
      cases hz : atI xs i with
      | none => rw [hz] at q; exact q.elim
      | some d =>
        rw [hz] at q
        obtain ⟨w, hw, rw'⟩ := atI_all2 rr hz
        exact ix_list value slice pins s σ H _ _ v u Q I rx ry ⟨p, vs, i, w, rfl, rfl, SqL.of hH, hw, q _ ρ H Ge.refl sr rw'⟩ hs
    · exact q.elim
  · exact q.elim
theorem de_ix {f : F2} (hr : IxR X (V2 c f)) (ha : DE X c W a ma) (hb : DE X c W b mb) (hs : PlainIx b := by intro _ _; rfl) : DE X c W (.Subscript a b pos) (eOp f ma mb) := by
  refine pe_imp (pe_ix hr ha hb hs) fun σ H Q q => ?_
  obtain ⟨M, ρ, G, env, R, q⟩ := q
  refine ⟨M, ρ, G, env, R, (TQ.bind (R := RE c) q).imp fun v H1 ⟨ρ1, G1, e1, g1, s1, r1, q1⟩ => ?_⟩
  refine ⟨M, ρ1, G1, env, R.ge g1 s1, (TQ.bind (R := RE c) q1).imp fun u H2 ⟨ρ2, G2, e2, g2, s2, r2, q2⟩ => ?_⟩
  exact ⟨M, ρ2, G2, e1, e2, s2, r1.grow g2.gr, r2, VQ.of q2⟩
/-! slices -/
abbrev OM := En → GS → Out (Option Int)
abbrev RO : (Addr → Prop) → List Addr → Hp → Option Int → Option Int → Prop := fun _ _ _ a b => a = b
def tDO (c : RC) (W : WX) (m : OM) : TO := fun σ H Q => ∃ M ρ G env, Rl c M ρ G env σ H ∧ TQ RO c W M ρ σ H (m env G) Q
def DO (X : Cx) (c : RC) (W : WX) (e : Option Expr) (m : OM) : Prop := PO X e (tDO c W m)
def oNone : OM := fun _ G => .ok none G
def oSome (m : EM) : OM := fun env G => (m env G).bind fun x G1 => match x with
  | .d (.int i) => .ok (some i) G1
  | _ => .st
theorem do_none : DO X c W none oNone := ⟨fun pins s σ H Q I ⟨M, ρ, G, env, R, q⟩ => po_none.run pins s σ H Q I (q.ok R.s rfl)⟩
theorem do_some (he : DE X c W e me) : DO X c W (some e) (oSome me) := ⟨fun pins s σ H Q I ⟨M, ρ, G, env, R, q⟩ => (po_some he).run pins s σ H Q I ⟨M, ρ, G, env, R, (TQ.bind (R := RE c) q).imp fun v H1 ⟨ρ1, G1, e1, g1, s1, r1, q1⟩ => by
  split at q1
  · rename_i i
    cases Rep.of_int r1
    exact ⟨i, rfl, q1.ok s1 rfl⟩
  · exact q1.elim⟩⟩
def cutL {α : Type} (xs : List α) (lo hi : Option Int) : List α := (xs.drop (HT.sIx xs.length 0 lo)).take (HT.sIx xs.length xs.length hi - HT.sIx xs.length 0 lo)
def eSl (m : EM) (lo hi : OM) : EM := fun env G => (m env G).bind fun x G1 => (lo env G1).bind fun l G2 => (hi env G2).bind fun h G3 => match x with
  | .d (.lst xs) => .ok (.d (.lst (cutL xs l h))) G3
  | _ => .st
theorem de_slL {lo hi : Option Expr} {ml mh : OM} (hK : c.K = X.K) (he : DE X c W e me) (hl : DO X c W lo ml) (hh : DO X c W hi mh) : DE X c W (.Subscript e (.Slice lo hi none p2) pos) (eSl me ml mh) := by
  refine pe_imp (pe_slice sl_list he hl hh) fun σ H Q q => ?_
  obtain ⟨M, ρ, G, env, R, q⟩ := q
  refine ⟨M, ρ, G, env, R, (TQ.bind (R := RE c) q).imp fun v H1 ⟨ρ1, G1, e1, g1, s1, r1, q1⟩ => ?_⟩
  refine ⟨M, ρ1, G1, env, R.ge g1 s1, (TQ.bind (R := RO) q1).imp fun l H2 ⟨ρ2, G2, l', g2, s2, r2, q2⟩ => ?_⟩
  refine ⟨M, ρ2, G2, env, (R.ge g1 s1).ge g2 s2, (TQ.bind (R := RO) q2).imp fun h H3 ⟨ρ3, G3, h', g3, s3, r3, q3⟩ => ?_⟩
  obtain rfl : l = l' := r2.symm
  obtain rfl : h = h' := r3.symm
  split at q3
  · rename_i xs
    obtain ⟨p, vs, rfl, z, rr⟩ := Rep.of_lst (RepE.grow (RepE.grow r1 g2.gr) g3.gr)
    refine ⟨p, vs, rfl, by rw [← hK]; exact z.sq, fun p' hp => ?_⟩
    have sm : Same H3 (upd H3 p' (.lst (cutV vs l h))) := same_upd hp
    refine q3.okS s3 sm (Rep.lst (.inl ⟨s3.fresh hp, .inl upd_same⟩) (reps_grow ?_ (Gr.same sm)))
    unfold cutL cutV
    rw [rr.length]
    exact all2_take _ (all2_drop _ rr)
  · exact q3.elim
/-! storing into the store -/
theorem sr_set {k : Nat} {xs : List EV} {vs : List V} {j : Nat} {x : EV} {v : V} {a : Addr} (s : SR c M ρ G H) (hk : G[k]? = some (GO.lst xs)) (ha : ρ[k]? = some a) (hH : H a = some (.lst vs)) (rr : All2 (RepE c M ρ H) xs vs) (r : RepE c M ρ H x v) :
    Ge M ρ H ρ (upd H a (.lst (vs.set j v))) ∧ SR c M ρ (G.set k (GO.lst (xs.set j x))) (upd H a (.lst (vs.set j v))) := by
  have hm := List.mem_of_getElem? ha
  have g : Ge M ρ H ρ (upd H a (.lst (vs.set j v))) := ⟨fun b o e n => by rw [upd_ne (fun z => n (by rw [z]; exact hm))]; exact e, fun b o e => by
    by_cases h : b = a
    · exact ⟨_, by rw [h]; exact upd_same⟩
    · exact ⟨o, by rw [upd_ne h]; exact e⟩, [], by simp, by simp⟩
  have alive : ∀ b, H b ≠ none → (upd H a (.lst (vs.set j v))) b ≠ none := fun b h => by
    by_cases hb : b = a
    · rw [hb, upd_same]; simp
    · rw [upd_ne hb]; exact h
  refine ⟨g, by rw [List.length_set]; exact s.len, s.nd, s.sep, fun i ys e => ?_, fun b m => alive b (s.mt b m), fun b m => alive b (s.bt b m), fun i q e => by
      have ne : k ≠ i := fun z => by subst z; rw [List.getElem?_set_self (List.getElem?_eq_some_iff.mp hk).1] at e; cases e
      rw [List.getElem?_set_ne ne] at e
      obtain ⟨p, t⟩ := s.tb i q e
      exact ⟨p, tabs_upd t hH (fun _ z => by cases z) fun _ => lst_code⟩⟩
  by_cases hi : k = i
  · subst hi
    have hl : k < G.length := (List.getElem?_eq_some_iff.mp hk).1
    rw [List.getElem?_set_self hl] at e
    cases e
    exact ⟨a, _, ha, upd_same, All2.set (r.grow g.gr) j (repEs_grow rr g.gr)⟩
  · rw [List.getElem?_set_ne hi] at e
    obtain ⟨b, us, h1, h2, h3⟩ := s.at_ i ys e
    have hb : b ≠ a := fun z => hi (by
      subst z
      have q1 := List.getElem?_eq_some_iff.mp ha
      have q2 := List.getElem?_eq_some_iff.mp h1
      exact (List.getElem_inj s.nd).mp (q1.2.trans q2.2.symm))
    exact ⟨b, us, h1, by rw [upd_ne hb]; exact h2, repEs_grow h3 g.gr⟩
def sSub (mo mi me : EM) : SM := fun env G => ofE (me env G) env fun x G1 => ofE (mo env G1) env fun o G2 => ofE (mi env G2) env fun i G3 => match o, i with
  | .o k, .d (.int i) => (match (G3[k]? : Option GO) with
    | some (GO.lst xs) => (match ixN xs.length i with
      | some j => .nx env (G3.set k (GO.lst (xs.set j x)))
      | none => .st)
    | _ => .st)
  | _, _ => .st
theorem ds_sub (ho : DE X c W o mo) (hi : DE X c W a mi) (he : DE X c W e me)
    (ha : ∀ v, assign (.Subscript o a p) X.env v = (do let ov ← holding [v] (eval o X.env); let iv ← holding [v, ov] (eval a X.env); standAt p; holding [v, ov, iv] (setItem ov iv v); release [v, ov, iv] []) := by intro _; rfl)
    (hs : swapsWithSole [.Subscript o a p] e pos.line X.env = pure false := by rfl) (hw : swappedStores [.Subscript o a p] e X.env = pure none := by rfl)
    (h1 : (assignEach [.Subscript o a p] X.env).map (·.2) = [assign (.Subscript o a p) X.env] := by rfl) : DS X c W (.Assign [.Subscript o a p] e pos) (sSub mo mi me) := by
  refine ps_imp (ps_asg he (pg_sub ho hi set_list ha) hs hw h1) fun Dn σ H q => ?_
  obtain ⟨M, ρ, G, env, R, q⟩ := q
  refine ⟨M, ρ, G, env, R, (SQ.ofE (R := RE c) R q).imp fun v H1 ⟨ρ1, G1, x, g1, R1, r1, q1⟩ => ?_⟩
  refine ⟨M, ρ1, G1, env, R1, (SQ.ofE (R := RE c) R1 q1).imp fun ov H2 ⟨ρ2, G2, o2, g2, R2, r2, q2⟩ => ?_⟩
  refine ⟨M, ρ2, G2, env, R2, (SQ.ofE (R := RE c) R2 q2).imp fun iv H3 ⟨ρ3, G3, i3, g3, R3, r3, q3⟩ => ?_⟩
  have r1' := (r1.grow g2.gr).grow g3.gr
  have r2' := r2.grow g3.gr
  cases o2 with
  | d z => exact (show False from q3).elim
  | o k =>
    cases i3 with
    | o z => exact (show False from q3).elim
    | d z =>
      cases z with
      | int i =>
        have q4 : SQ c W M ρ3 H3 (match (G3[k]? : Option GO) with
          | some (GO.lst xs) => (match ixN xs.length i with
            | some j => OutS.nx env (G3.set k (GO.lst (xs.set j x)))
            | none => .st)
          | _ => .st) Dn := q3
        split at q4
        · rename_i xs hx
          split at q4
          · rename_i j hj
            obtain ⟨p', hp', rfl⟩ := r2'
            obtain ⟨p, vs, hp, hH, rr⟩ := R3.s.at_ k xs hx
            rw [hp] at hp'
            cases hp'
            cases Rep.of_int r3
            obtain ⟨g4, s4⟩ := sr_set (j := j) R3.s hx hp hH rr r1'
            exact ⟨_, vs, i, j, rfl, rfl, hH, by rw [← rr.length]; exact hj, q4 M ρ3 σ _ g4.gr (R3.ge g4 s4)⟩
          · exact q4.elim
        · exact q4.elim
      | _ => exact (show False from q3).elim
/-! built-ins -/
def fLen : FN := fun es G => match es with
  | [.d (.lst xs)] => some (.d (.int xs.length), G)
  | [.d (.tup xs)] => some (.d (.int xs.length), G)
  | [.d (.str x)] => if x.length ≤ strMax then some (.d (.int x.length), G) else none
  | [.o k] => (match (G[k]? : Option GO) with
    | some (GO.lst xs) => some (.d (.int xs.length), G)
    | _ => none)
  | _ => none
theorem dcall_len (hK : c.K = X.K) : CallR X (.builtin "len") (VN c fLen) := callr_imp (callr_or call_len_seq call_len) fun vs H Q ⟨M, ρ, G, es, s, r, q⟩ => by
  unfold fLen at q
  split at q
  · cases r with
    | cons r t =>
      cases t
      obtain ⟨p, us, rfl, z, rr⟩ := Rep.of_lst r
      exact .inl ⟨p, us, rfl, .inl (by rw [← hK]; exact z.sq), by rw [← rr.length]; exact q _ ρ H Ge.refl s Rep.int⟩
  · cases r with
    | cons r t =>
      cases t
      obtain ⟨p, us, rfl, z, rr⟩ := Rep.of_tup r
      exact .inl ⟨p, us, rfl, .inr (by rw [← hK]; exact z.sq), by rw [← rr.length]; exact q _ ρ H Ge.refl s Rep.int⟩
  · split at q
    · rename_i x hx
      cases r with
      | cons r t =>
        cases t
        cases Rep.of_str r
        exact .inr ⟨_, x.length, rfl, ⟨Nat.le_trans hx (by decide), rfl⟩, q _ ρ H Ge.refl s Rep.int⟩
    · exact q.elim
  · rename_i k
    split at q
    · rename_i xs hx
      cases r with
      | cons r t =>
        cases t
        obtain ⟨p, hp, rfl⟩ := r
        obtain ⟨p', us, hp', hH, rr⟩ := s.at_ k xs hx
        rw [hp] at hp'
        cases hp'
        exact .inl ⟨p, us, rfl, .inl (SqL.of hH), by rw [← rr.length]; exact q _ ρ H Ge.refl s Rep.int⟩
    · exact q.elim
  · exact q.elim
def gInt : List D → Option D
  | [.int i] => some (.int i)
  | [.bl b] => some (.int (if b then 1 else 0))
  | _ => none
def fInt : FN := pureN gInt
theorem dcall_int : CallR X (.type "int") (VN c fInt) := callr_imp call_int1 fun vs H Q q0 => by
  obtain ⟨M, ρ, G, ds, z, s, r, hz, q⟩ := vn_pure q0
  clear q0
  unfold gInt at hz
  split at hz
  · cases r with
    | cons r t => cases t; cases hz; exact .inl ⟨_, by rw [r.of_int], q _ _ same_refl .int⟩
  · cases r with
    | cons r t => cases t; cases hz; exact .inr ⟨_, by rw [r.of_bl], q _ _ same_refl .int⟩
  · cases hz
def gTuple : List D → Option D
  | [.lst xs] => some (.tup xs)
  | [.tup xs] => some (.tup xs)
  | _ => none
def fTuple : FN := pureN gTuple
def asBs : List D → Option (List Bool)
  | [] => some []
  | .bl b :: r => (asBs r).map (b :: ·)
  | _ :: _ => none
def asIs : List D → Option (List Int)
  | [] => some []
  | .int b :: r => (asIs r).map (b :: ·)
  | _ :: _ => none
theorem asBs_rep : ∀ {ds : List D} {bs : List Bool} {vs : List V}, asBs ds = some bs → All2 (Rep c M ρ H) ds vs → vs = bs.map V.bl
  | [], _, _, h, .nil => by cases h; rfl
  | d :: ds, bs, v :: vs, h, .cons r t => by
    cases d <;> first | (cases h; done) | skip
    rename_i b
    unfold asBs at h
    cases e : asBs ds with
    | none => rw [e] at h; cases h
    | some cs => rw [e] at h; cases h; rw [r.of_bl, asBs_rep e t]; rfl
theorem asIs_rep : ∀ {ds : List D} {bs : List Int} {vs : List V}, asIs ds = some bs → All2 (Rep c M ρ H) ds vs → vs = bs.map V.int
  | [], _, _, h, .nil => by cases h; rfl
  | d :: ds, bs, v :: vs, h, .cons r t => by
    cases d <;> first | (cases h; done) | skip
    rename_i b
    unfold asIs at h
    cases e : asIs ds with
    | none => rw [e] at h; cases h
    | some cs => rw [e] at h; cases h; rw [r.of_int, asIs_rep e t]; rfl
def gAll : List D → Option D
  | [.lst xs] => (asBs xs).map fun bs => .bl (bs.all id)
  | _ => none
def gSum : List D → Option D
  | [.lst xs] => (asIs xs).map fun bs => .int bs.sum
  | _ => none
def fAll : FN := pureN gAll
def fSum : FN := pureN gSum
theorem dcall_all (hK : c.K = X.K) (hc : X.calm = true) : CallR X (.builtin "all") (VN c fAll) := callr_imp (cr_all hc) fun vs H Q q0 => by
  obtain ⟨M, ρ, G, ds, z, s, r, hz, q⟩ := vn_pure q0
  clear q0
  unfold gAll at hz
  split at hz
  · rename_i xs
    cases r with
    | cons r t =>
      cases t
      cases e : asBs xs with
      | none => rw [e] at hz; cases hz
      | some bs =>
        rw [e] at hz
        cases hz
        obtain ⟨p, us, rfl, z, rr⟩ := r.of_lst
        exact ⟨p, bs, rfl, by rw [← hK, ← asBs_rep e rr]; exact z.sq, q _ _ same_refl .bl⟩
  · cases hz
theorem dcall_sum (hK : c.K = X.K) (hc : X.calm = true) : CallR X (.builtin "sum") (VN c fSum) := callr_imp (cr_sum hc) fun vs H Q q0 => by
  obtain ⟨M, ρ, G, ds, z, s, r, hz, q⟩ := vn_pure q0
  clear q0
  unfold gSum at hz
  split at hz
  · rename_i xs
    cases r with
    | cons r t =>
      cases t
      cases e : asIs xs with
      | none => rw [e] at hz; cases hz
      | some bs =>
        rw [e] at hz
        cases hz
        obtain ⟨p, us, rfl, z, rr⟩ := r.of_lst
        exact ⟨p, bs, rfl, by rw [← hK, ← asIs_rep e rr]; exact z.sq, q _ _ same_refl .int⟩
  · cases hz
/-! isinstance -/
inductive Tg where
  | ty (n : String) | own (k : String)
  deriving DecidableEq
def Tg.v (C : String → Addr) : Tg → Value
  | .ty n => .type n
  | .own k => .ref (C k)
def tgOf : D → Tg
  | .non => .ty "NoneType"
  | .bl _ => .ty "bool"
  | .int _ => .ty "int"
  | .str _ => .ty "str"
  | .tup _ => .ty "tuple"
  | .lst _ => .ty "list"
  | .ins k _ => .own k
  | .cls _ => .ty "type"
  | .ty _ => .ty "type"
def tgC : D → Option Tg
  | .cls k => some (.own k)
  | .ty n => some (.ty n)
  | _ => none
def ktb : List (Tg × Tg × Bool) → Tg → Tg → Option Bool
  | [], _, _ => none
  | (t, u, b) :: r, t', u' => if t = t' ∧ u = u' then some b else ktb r t' u'
def gIsi (tb : List (Tg × Tg × Bool)) : List D → Option D
  | [x, k] => (tgC k).bind fun u => match x with
    | .cls _ => none
    | .ty _ => none
    | x => (ktb tb (tgOf x) u).map .bl
  | _ => none
def fIsi (tb : List (Tg × Tg × Bool)) : FN := pureN (gIsi tb)
/-- what isinstance wants to know of an own class, and of the model's own word for __class__ -/
structure IsiC (K : PySem.W.Frag) (C : Addr) : Prop where
  cl : Cls K C
  ca : PySem.W.findIn K (.ref C) "__class__" = some (some (.builtin "object.__class__"))
  cm : PySem.W.mroIn K C (.type "object") = some true
structure IsiK (K : PySem.W.Frag) : Prop where
  cn : PySem.W.specialIn K (.builtin "object.__class__") "__get__" = some (some (.builtin "getset_descriptor.__get__"))
  ct : PySem.W.takesIn K (.builtin "object.__class__") = some true
theorem ktb_mem {t u : Tg} {b : Bool} : ∀ {tb : List (Tg × Tg × Bool)}, ktb tb t u = some b → (t, u, b) ∈ tb
  | [], h => by cases h
  | (t', u', b') :: r, h => by
    unfold ktb at h
    split at h
    · rename_i hh; obtain ⟨rfl, rfl⟩ := hh; cases h; exact List.mem_cons_self
    · exact List.mem_cons_of_mem _ (ktb_mem h)
theorem dcall_isi {tb : List (Tg × Tg × Bool)} (hK : c.K = X.K) (hk : IsiK X.K) (h : ∀ t u b, (t, u, b) ∈ tb → PySem.W.kitOne X.K (t.v c.C) (u.v c.C) = some b ∧ ∀ k, t = .own k → IsiC X.K (c.C k)) : CallR X (.builtin "isinstance") (VN c (fIsi tb)) := callr_imp call_isi fun vs H Q q0 => by
  obtain ⟨M, ρ, G, ds, z, s, r, hz, q⟩ := vn_pure q0
  clear q0
  unfold gIsi at hz
  split at hz
  · rename_i x k
    obtain ⟨vx, vk, rfl, r1, r2⟩ := all2_two r
    cases hu : tgC k with
    | none => rw [hu] at hz; cases hz
    | some u =>
      rw [hu] at hz
      dsimp only [Option.bind] at hz
      have cv : ClsV vk (u.v c.C) := by
        cases k <;> first | (cases hu; done) | skip
        · cases hu; rw [r2.of_cls]; exact ClsV.own _
        · cases hu; rw [r2.of_ty]; exact ClsV.ty _
      have main : ∀ t, (ktb tb t u).map DL.D.bl = some z → TyX X.K H vx (t.v c.C) ∨ (∃ k, t = .own k ∧ (IsiC X.K (c.C k) → TyX X.K H vx (t.v c.C))) → rIsi X.K [vx, vk] H Q := fun t ht hty => by
        cases hb : ktb tb t u with
        | none => rw [hb] at ht; cases ht
        | some b =>
          rw [hb] at ht
          cases ht
          obtain ⟨h1, h2⟩ := h t u b (ktb_mem hb)
          refine ⟨vx, vk, t.v c.C, u.v c.C, b, rfl, cv, ?_, h1, q _ _ same_refl .bl⟩
          rcases hty with hty | ⟨k, e, hty⟩
          · exact hty
          · exact hty (h2 k e)
      cases x with
      | non => cases r1.of_non; exact main _ hz (.inl (.base .non))
      | bl b => cases r1.of_bl; exact main _ hz (.inl (.base (.bl b)))
      | int b => cases r1.of_int; exact main _ hz (.inl (.base (.int b)))
      | str b => cases r1.of_str; exact main _ hz (.inl (.base (.str b)))
      | tup b =>
        obtain ⟨p, us, rfl, zz, rr⟩ := r1.of_tup
        refine main _ hz (.inl ?_)
        rcases zz with ⟨_, z1⟩ | (z0 | z0) | ⟨o, its, n, h1, h2, _⟩
        · rcases z1 with z1 | ⟨o, z1⟩
          · exact .base (.tup z1)
          · exact .fTuple z1
        · cases z0
        · rcases z0 with ⟨_, z0⟩; cases z0
        · exact .kTuple (by rw [← hK]; exact h1) h2
      | lst b =>
        obtain ⟨p, us, rfl, zz, rr⟩ := r1.of_lst
        refine main _ hz (.inl ?_)
        rcases zz with ⟨_, z1⟩ | (z0 | z0) | ⟨o, its, n, h1, h2, _⟩
        · rcases z1 with z1 | ⟨o, z1⟩
          · exact .base (.lst z1)
          · exact .base (.frz z1)
        · cases z0
        · rcases z0 with ⟨_, z0⟩; cases z0
        · exact .kList (by rw [← hK]; exact h1) h2
      | ins k fs =>
        obtain ⟨p, dx, gs, rfl, zz, ea, fl⟩ := r1.of_ins
        exact main _ hz (.inr ⟨k, rfl, fun i => .base (.ins ea i.cl i.ca hk.cn hk.ct i.cm)⟩)
      | cls k => cases hz
      | ty k => cases hz
  · cases hz
end
end DL
set_option Elab.async false
set_option linter.all false
set_option maxRecDepth 100000
set_option maxHeartbeats 4000000
namespace DL
open PySem L2 PyProof.Rows StX ClX
section
variable {X : Cx} {c : RC} {M : Addr → Prop} {ρ : List Addr} {H : Hp}
theorem dop_ne (hK : c.K = X.K) (hu : X.A.units + 64 < cLine) : OpR X (compareOp .NotEq) (V2 c fNe) := opr_imp (op_ne.or (op_neD hu)) fun x y H Q q => by
  obtain ⟨M, ρ, G, a, b, z, s, ra, rb, hz, q⟩ := v2_pure q
  cases hk : gEq a b with
  | none => rw [hk] at hz; cases hz
  | some k =>
    rw [hk] at hz
    injection hz with hz
    cases hz
    rcases geq_of hK hk ra rb with ⟨h1, h2⟩ | ⟨d, e, h1, h2, h3, h4, h5⟩
    · exact .inl ⟨h1, by rw [h2]; exact q _ _ same_refl .bl⟩
    · exact .inr ⟨d, e, h1, h2, h3, h4, by rw [h5]; exact q _ _ same_refl .bl⟩
end
/-! ### the end: the law itself -/
def spLaw (K : PySem.W.Frag) : Sp := fun vs H Q _ => ∃ (a : Addr) (ns : List Int), vs = [.ref a] ∧ SqL K H a (ns.map V.int) ∧ ns.length ≤ 63 ∧ ∀ H', Q (.bl true) H'
/-- the script as data -/
def scr (ns : List Int) : EV := .d (.lst (ns.map .int))
theorem ints_rep {c : RC} {M : Addr → Prop} {ρ : List Addr} {H : Hp} : ∀ ns : List Int, All2 (Rep c M ρ H) (ns.map D.int) (ns.map V.int)
  | [] => .nil
  | n :: ns => .cons .int (ints_rep ns)
theorem spd_law {K : PySem.W.Frag} {C : String → Addr} {N : String → List Str} {g : FM} (h : ∀ ns : List Int, ns.length ≤ 63 → ∃ G', g [scr ns] [] = .ok (.d (.bl true)) G') : ∀ vs H Q E, spLaw K vs H Q E → Spd K C N (arN 1) g vs H Q E := fun vs H Q E ⟨a, ns, e, hS, hl, q⟩ => by
  subst e
  obtain ⟨G', hg⟩ := h ns hl
  refine ⟨rfl, fun _ => False, [], [], [scr ns], ⟨rfl, List.nodup_nil, by simp, by simp, fun _ z => z.elim, fun _ z => z.elim, fun i k e => by simp at e⟩, .cons (Rep.lst ?_ (ints_rep ns)) .nil, ?_⟩
  · rcases hS with h1 | h1
    · exact .inl ⟨⟨fun z => z, fun z => z, by simp⟩, h1⟩
    · exact .inr (.inr h1)
  · rw [hg]
    intro v ρ' H' _ _ r
    rw [Rep.of_bl r]
    exact q H'
section
variable {P : Program} {w : World} {K : PySem.W.Frag} {mg : Str → Option Value} {base : Heap} {C : String → Addr} {N : String → List Str}
theorem fno_of {x qual : Str} {st : Stmt} {f : Addr} {fd : FuncData} {Nm ps : List Str} {k : Nat} {m : SM} (F : Fun K x qual st f fd) (S : FnScope Nm ps (defScope st))
    (hb : ∀ (cdv : Value) (A : Around) (outer : List Env) (s : Shared) (H : Hp) (E : XK) (B : Addr → Prop), Room k (A.deeper (envOfC qual (defScope st) s.heap.objs.size f cdv)) →
      DSs (cxOf (L2N.CX P w) P w K mg base Nm qual (defScope st) f cdv A outer s H E) ⟨K, C, N, B, 0, 0⟩ (fun cls d _ H => E cls d H) (defBody st) m) : FnOk P w K mg base (L2N.CX P w) (k + 1) f fd ps (Spd K C N (arN ps.length) (runB Nm.length m)) := by
  have hlN : ps.length ≤ Nm.length := by have := congrArg List.length S.pre; rw [List.length_take] at this; omega
  obtain ⟨oc, od, kV, doc, pm, an, cdv, ct, osl, rfl, lk, hcd⟩ := F.ex
  refine fn_of lk hcd S (fun vs H Q E h => by simpa [arN] using h.1) fun A outer s H vs Q E hr hsp => ?_
  obtain ⟨hl, B, ρ, G, es, s0, r, q⟩ := hsp
  exact ⟨_, hb cdv A outer s H E B hr, nM, ρ, G, _, rl_start s0 r (by rw [show vs.length = ps.length by simpa [arN] using hl]; exact hlN), sq_of q⟩
end
theorem walk {l : PySem.W.OpenLaw} {k : Nat} {x : Str} {q : Program} {loose : List Str} {XP : (Str → Option Value) → Heap → Prop} {YP : World → Heap → Prop} {d : DefRec} {K : Params → PySem.W.Frag} (hn : l.most = some 63) (hdf : d.params.defaults = []) (hr : Room k callerA)
    (hY : ∀ (w : World) (h : Heap), YP w h → (K w.params).In h)
    (F : ∀ (w : World) (mg : Str → Option Value) (fa : Addr) (h : Heap), (K w.params).In h → h.Ns mainGlobals mg → mg d.name = some (.ref fa) →
      ∃ fd : FuncData, (∀ (s : Shared) (u : Value), BindsTo s fd ⟨[u], []⟩ [(x, u)]) ∧ ∀ base : Heap, (K w.params).In base → base.Ns mainGlobals mg → FnOk l.prog w (K w.params) mg base (L2N.CX l.prog w) k fa fd [x] (spLaw (K w.params))) :
    PySem.W.WalkO q loose XP YP l.row.toRowW d [] (fun f vs => PySem.call f vs) :=
  L2.walk_of (n := 63) (k := k) (x := x) (CX := fun w => L2N.CX l.prog w) (sp := fun w => spLaw (K w.params)) hn (by decide) hdf hr hY F (fun _ _ a ns hl _ hS => ⟨a, ns, rfl, hS, hl, fun _ => rfl⟩) fun _ _ _ _ _ ⟨_, _, _, _, _, _, _, _, _, _, _, _, h⟩ => h
/-! ### helpers for printed terms -/
theorem kix_all {K : PySem.W.Frag} {C : String → Addr} {N : String → List Str} {f : Str} : ∀ {ks : List (String × Nat)}, (∀ p ∈ ks, HasF K C N f p.1 p.2) → ∀ k i, kix ks k = some i → HasF K C N f k i
  | [], _, k, i, h => by cases h
  | (k', i') :: r, hh, k, i, h => by
    unfold kix at h
    by_cases e : k' = k
    · subst e; rw [if_pos rfl] at h; cases h; exact hh _ List.mem_cons_self
    · rw [if_neg e] at h; exact kix_all (fun p hp => hh p (List.mem_cons_of_mem _ hp)) k i h
theorem kfn_all {P : Program} {w : World} {K : PySem.W.Frag} {mg : Str → Option Value} {base : Heap} {C : String → Addr} {N : String → List Str} {lv : Nat} {m : Str} : ∀ {ms : List (String × (Ar × FM))}, (∀ p ∈ ms, HasM P w K mg base C N lv m p.1 p.2.1 p.2.2) → ∀ k A g, kfn ms k = some (A, g) → HasM P w K mg base C N lv m k A g
  | [], _, k, A, g, h => by cases h
  | (k', a') :: r, hh, k, A, g, h => by
    unfold kfn at h
    by_cases e : k' = k
    · subst e; rw [if_pos rfl] at h; cases h; exact hh _ List.mem_cons_self
    · rw [if_neg e] at h; exact kfn_all (fun p hp => hh p (List.mem_cons_of_mem _ hp)) k A g h
theorem all_nil {α : Type} {p : α → Prop} : ∀ x ∈ ([] : List α), p x := fun _ h => nomatch h
theorem all_cons {α : Type} {p : α → Prop} {a : α} {l : List α} (h : p a) (t : ∀ x ∈ l, p x) : ∀ x ∈ a :: l, p x := fun x hx => by
  rcases List.mem_cons.mp hx with e | hx
  · rw [e]; exact h
  · exact t x hx
/-- in a comprehension's block nothing is raised -/
theorem takesB {X : Cx} {s : Shared} {H : Hp} {scope : Scope} {cenv : Env} {fp : List Addr} : L2N.Takes (X.blk s H scope cenv fp) W0 := fun u s' ⟨_, _, _, _, _, _, _, _, _, _, _, _, _, _, _, _, z⟩ => z
theorem takesF {X : Cx} {E : XK} (hs : X.stack = X.env :: X.outer) (hf : X.env.frame = some X.env.locals) (hex : X.ex = []) {E₁ : Value → Shared → Prop}
    (hx : X.xe = fun e s' => PySem.wpAny (model X.prog X.w) X.A (leaving X.env e) (fun _ s'' => L2N.CX X.prog X.w X.outer X.H_0 X.s_0 E e s'') E₁ s') : L2N.Takes X (fun cls d _ H => E cls d H) := L2N.takes_of hs hf hex hx
end DL
set_option Elab.async false
set_option linter.all false
set_option maxRecDepth 100000
set_option maxHeartbeats 4000000
namespace DL
open PySem PySem.Calls PySem.Spec L2 PyProof.Rows StX ClX
section
variable {X : Cx} {c : RC} {M : Addr → Prop} {ρ : List Addr} {σ : L2.St} {H : Hp} {G : GS} {lv : Nat} {cl : String} {A : Ar} {g : FM} {f : Addr} {Y : Around}
/-- what the store functions say of an own method's answer: a bool, a whole number, a text -/
def resB (o : Option (EV × GS)) : Option (EV × GS) := match o with
  | some (.d (.bl b), G) => some (.d (.bl b), G)
  | _ => none
theorem vq_B {o : Option (EV × GS)} {Q : VK} (h : VQ c M ρ H (resB o) Q) : VQ c M ρ H o (fun v H' => (∃ b, v = .bl b) ∧ Q v H') := by
  unfold resB at h
  split at h
  · rename_i b G'
    intro v ρ' H' ge s r
    exact ⟨⟨b, Rep.of_bl r⟩, h v ρ' H' ge s r⟩
  · exact h.elim
/-- x in y, y of an own class -/
def fInOwn (cl : String) (A : Ar) (g : FM) : F2 := fun x y G => match x, y with
  | .d a, .d (.ins k fs) => if k = cl ∧ A 2 = true then resB (toOpt (g [.d (.ins k fs), .d a] G)) else none
  | _, _ => none
theorem dop_inO (hK : c.K = X.K) (hr : Room lv X.A) (hs : PySem.W.findIn X.K (.ref (c.C cl)) "__contains__" = some (some (.ref f))) (hf : PySem.W.isFn X.K (.ref f) = true) (F : FnG X.prog X.w X.K X.mg X.base c.C c.N lv f A g) :
    OpR X (compareOp .In) (V2 c (fInOwn cl A g)) := by
  intro pins s σ H x y v u Q I rx ry ⟨M, ρ, G, a, b, sr, ra, rb, q⟩
  unfold fInOwn at q
  split at q
  · rename_i a' k fs
    split at q
    · rename_i hk
      obtain ⟨rfl, hA⟩ := hk
      have sp := spd_opt (A := A) (g := g) (es := [.d (.ins k fs), .d a']) sr (.cons rb (.cons ra .nil)) hA (vq_B q)
      obtain ⟨p, dx, gs, rfl, z, ea, fl⟩ := Rep.of_ins rb
      cases (show u = Value.ref p from ry)
      obtain ⟨ox, od, J⟩ := inst_at I ea
      obtain ⟨m, hF⟩ := I.fr
      refine PySem.W.in_K hF I.ok.mod.kin J hs hf ?_
      rw [hK] at sp
      refine wpAny_mono (wpAny_call (run_fnA (us := [.ref p, v]) (vs := [.ref p, x]) F hr pass0' I (.cons rfl (.cons rx .nil)) sp)) (fun w s' hw => ?_) fun _ _ x => x
      obtain ⟨z', H', I', rz, ⟨b, e⟩, qz⟩ := hw
      subst e
      cases rz
      exact wpAny_pure ⟨.bl b, H', I', rfl, qz⟩
    · exact q.elim
  · exact q.elim
end
end DL
set_option Elab.async false
set_option linter.all false
set_option maxRecDepth 100000
set_option maxHeartbeats 4000000
namespace DL
open PySem PySem.Spec L2 PyProof.Rows StX ClX
section
variable {X : Cx} {c : RC} {W : WX} {M : Addr → Prop} {ρ : List Addr} {σ : L2.St} {H : Hp} {G : GS} {e o : Expr} {mo me : EM} {pos apos : Pos} {lv : Nat} {cl : String} {A : Ar} {g : FM} {f : Addr}
/-! ### texts -/
def txts : List DL.D → Option (List Str)
  | [] => some []
  | .str x :: r => (txts r).map (x :: ·)
  | _ => none
theorem txts_rep : ∀ {ds : List DL.D} {vs : List V} {zs : List Str}, txts ds = some zs → All2 (Rep c M ρ H) ds vs → vs = zs.map V.str
  | [], _, _, h, .nil => by cases h; rfl
  | .str x :: r, _, zs, h, .cons ra t => by
    unfold txts at h
    cases hr : txts r with
    | none => rw [hr] at h; cases h
    | some ys =>
      rw [hr] at h
      cases h
      rw [txts_rep hr t, ra.of_str]
      rfl
  | .non :: _, _, _, h, _ => by cases h
  | .bl _ :: _, _, _, h, _ => by cases h
  | .int _ :: _, _, _, h, _ => by cases h
  | .tup _ :: _, _, _, h, _ => by cases h
  | .lst _ :: _, _, _, h, _ => by cases h
  | .ins _ _ :: _, _, _, h, _ => by cases h
  | .cls _ :: _, _, _, h, _ => by cases h
  | .ty _ :: _, _, _, h, _ => by cases h
def joinD (a : Str) (ys : List DL.D) : Option DL.D := (txts ys).bind fun zs => if (zs.map (·.length)).sum + zs.length * a.length ≤ 16777216 then some (.str (Txt.join a zs)) else none
def fJn (a : Str) : F1 := pure1 fun
  | .lst ys => joinD a ys
  | .tup ys => joinD a ys
  | _ => none
/-- o.join(e) -/
def eJoin (mo me : EM) : EM := fun env G => (mo env G).bind fun x G1 => match x with
  | .d (.str a) => (me env G1).bind fun y G2 => lift (fJn a y G2)
  | _ => .st
theorem de_join (hK : c.K = X.K) (ho : DE X c W o mo) (he : DE X c W e me) (hs : starEach [e] X.env = [(false, eval e X.env)] := by rfl) (hbase : attributeBase o "join" X.env (eval o X.env) = eval o X.env := by rfl) (hline : (apos.endLine == pos.line) = true := by rfl) :
    DE X c W (.Call (.Attribute o "join" apos) [e] [] pos) (eJoin mo me) := by
  refine pe_imp (pe_join ho he hs hbase hline) fun σ H Q q => ?_
  obtain ⟨M, ρ, G, env, R, q⟩ := q
  refine ⟨M, ρ, G, env, R, (TQ.bind (R := RE c) q).imp fun v H1 ⟨ρ1, G1, e1, g1, s1, r1, q1⟩ => ?_⟩
  split at q1
  · rename_i a
    have ev : v = .str a := Rep.of_str r1
    refine ⟨⟨a, ev⟩, M, ρ1, G1, env, R.ge g1 s1, (TQ.bind (R := RE c) q1).imp fun u H2 ⟨ρ2, G2, e2, g2, s2, r2, q2⟩ => ?_⟩
    have fin : ∀ ys p vs, u = .ref p → (SqL c.K H2 p vs ∨ SqT c.K H2 p vs) → All2 (Rep c M ρ2 H2) ys vs → TQ (RE c) c W M ρ2 σ H2 (lift ((joinD a ys).map fun z => (EV.d z, G2))) Q →
        ∃ a' p, ∃ zs : List Str, v = .str a' ∧ [u] = [.ref p] ∧ (SqL X.K H2 p (zs.map V.str) ∨ SqT X.K H2 p (zs.map V.str)) ∧ (zs.map (·.length)).sum + zs.length * a'.length ≤ 16777216 ∧ Q (.str (Txt.join a' zs)) H2 := fun ys p vs hu hz rr q3 => by
      unfold joinD at q3
      cases hy : txts ys with
      | none => rw [hy] at q3; exact q3.elim
      | some zs =>
        rw [hy] at q3
        dsimp only [Option.bind] at q3
        split at q3
        · rename_i hl
          refine ⟨a, p, zs, ev, by rw [hu], ?_, hl, TQ.ok q3 s2 Rep.str⟩
          rw [← txts_rep hy rr, ← hK]
          exact hz
        · exact q3.elim
    cases e2 with
    | o i => exact q2.elim
    | d y =>
      cases y with
      | lst ys => obtain ⟨p, vs, hu, z, rr⟩ := Rep.of_lst r2; exact fin ys p vs hu (.inl z.sq) rr q2
      | tup ys => obtain ⟨p, vs, hu, z, rr⟩ := Rep.of_tup r2; exact fin ys p vs hu (.inr z.sq) rr q2
      | _ => exact q2.elim
  · exact q1.elim
/-- {x} -/
def fFmt : F1 := pure1 fun
  | .str y => if y.length ≤ 1000000 then some (.str y) else none
  | .int i => if i.natAbs.log2 < 1920 then some (.str (toString i)) else none
  | _ => none
theorem de_fmt (he : DE X c W e me) : DE X c W (.FormattedValue e (-1) none pos) (eUn fFmt me) := by
  refine pe_imp (pe_fmt he) fun σ H Q q => ?_
  obtain ⟨M, ρ, G, env, R, q⟩ := q
  refine ⟨M, ρ, G, env, R, (TQ.bind (R := RE c) q).imp fun v H1 ⟨ρ1, G1, e1, g1, s1, r1, q1⟩ => ?_⟩
  cases e1 with
  | o i => exact q1.elim
  | d x =>
    cases x with
    | str y =>
      have q2 : TQ (RE c) c W M ρ1 σ H1 (lift ((if y.length ≤ 1000000 then some (DL.D.str y) else none).map fun z => (EV.d z, G1))) Q := q1
      split at q2
      · rename_i hl
        exact .inl ⟨y, Rep.of_str r1, Nat.le_trans hl (by decide), TQ.ok q2 s1 Rep.str⟩
      · exact q2.elim
    | int i =>
      have q2 : TQ (RE c) c W M ρ1 σ H1 (lift ((if i.natAbs.log2 < 1920 then some (DL.D.str (toString i)) else none).map fun z => (EV.d z, G1))) Q := q1
      split at q2
      · rename_i hl
        exact .inr ⟨i, Rep.of_int r1, hl, TQ.ok q2 s1 Rep.str⟩
      · exact q2.elim
    | _ => exact q1.elim
/-! f-strings of two parts or more -/
def jsO : List EM → Str → En → GS → Out Str
  | [], acc, _, G => .ok acc G
  | m :: ms, acc, env, G => (m env G).bind fun x G1 => match x with
    | .d (.str y) => if (acc ++ y).length ≤ 1000000 then jsO ms (acc ++ y) env G1 else .st
    | _ => .st
def eJs (ms : List EM) : EM := fun env G => (jsO ms Str.empty env G).bind fun z G1 => .ok (.d (.str z)) G1
theorem js_run {env : En} : ∀ (ms : List EM) (acc : Str) (M : Addr → Prop) (ρ : List Addr) (G : GS) (H : Hp) (Q : Str → Hp → Prop), Rl c M ρ G env σ H →
    TQ (fun M ρ H (e : Str) (v : Str) => e = v) c W M ρ σ H (jsO ms acc env G) Q → tJs (ms.map (tD c W)) acc σ H Q
  | [], acc, M, ρ, G, H, Q, R, q => q acc ρ H Ge.refl R.s rfl
  | m :: ms, acc, M, ρ, G, H, Q, R, q => by
    refine ⟨M, ρ, G, env, R, (TQ.bind (R := RE c) q).imp fun v H1 ⟨ρ1, G1, e1, g1, s1, r1, q1⟩ => ?_⟩
    split at q1
    · rename_i y
      split at q1
      · rename_i hl
        exact ⟨y, Rep.of_str r1, Nat.le_trans hl (by decide), js_run ms (acc ++ y) M ρ1 G1 H1 Q (R.ge g1 s1) q1⟩
      · exact q1.elim
    · exact q1.elim
theorem de_js {v1 v2 : Expr} {rest : List Expr} {ms : List EM} (h : PJ X (v1 :: v2 :: rest) (ms.map (tD c W))) : DE X c W (.JoinedStr (v1 :: v2 :: rest) pos) (eJs ms) := by
  refine pe_imp (pe_joined h) fun σ H Q q => ?_
  obtain ⟨M, ρ, G, env, R, q⟩ := q
  refine js_run ms Str.empty M ρ G H _ R ?_
  have q' : TQ (RE c) c W M ρ σ H ((jsO ms Str.empty env G).bind fun z G1 => .ok (.d (.str z)) G1) Q := q
  cases hj : jsO ms Str.empty env G with
  | ok z G1 => rw [hj] at q'; exact fun v ρ' H' g s e => by subst e; exact q' _ ρ' H' g s Rep.str
  | er cl fs G1 => rw [hj] at q'; exact q'
  | st => rw [hj] at q'; exact q'
/-! str, repr -/
/-! in of whole numbers; is of bools -/
def whols : List DL.D → Option (List Int)
  | [] => some []
  | .int x :: r => (whols r).map (x :: ·)
  | _ => none
theorem whols_of : ∀ {ds : List DL.D} {zs : List Int}, whols ds = some zs → ds = zs.map DL.D.int
  | [], _, h => by cases h; rfl
  | .int x :: r, zs, h => by
    unfold whols at h
    cases hr : whols r with
    | none => rw [hr] at h; cases h
    | some ys => rw [hr] at h; cases h; rw [whols_of hr]; rfl
  | .str _ :: _, _, h => by cases h
  | .non :: _, _, h => by cases h
  | .bl _ :: _, _, h => by cases h
  | .tup _ :: _, _, h => by cases h
  | .lst _ :: _, _, h => by cases h
  | .ins _ _ :: _, _, h => by cases h
  | .cls _ :: _, _, h => by cases h
  | .ty _ :: _, _, h => by cases h
theorem reps_int : ∀ {zs : List Int} {vs : List V}, All2 (Rep c M ρ H) (zs.map DL.D.int) vs → vs = zs.map V.int
  | [], _, .nil => rfl
  | z :: zs, _, .cons r t => by rw [r.of_int, reps_int t]; rfl
theorem any_int {i : Int} : ∀ zs : List Int, inV (.int i) (zs.map V.int) = zs.any (· == i)
  | [] => rfl
  | z :: zs => by
    have h := any_int (i := i) zs
    unfold inV at h ⊢
    rw [List.map_cons, List.any_cons, List.any_cons, h]
    rfl
theorem flat_int : ∀ zs : List Int, (zs.map V.int).all flatV = true
  | [] => rfl
  | z :: zs => by rw [List.map_cons, List.all_cons, flat_int zs]; rfl
def fInI : F2 := pure2 fun
  | .int i, .lst xs => (whols xs).map fun zs => .bl (zs.any (· == i))
  | .int i, .tup xs => (whols xs).map fun zs => .bl (zs.any (· == i))
  | _, _ => none
theorem dop_inI (hK : c.K = X.K) : OpR X (compareOp .In) (V2 c fInI) := opr_imp op_in_seq fun x y H Q q0 => by
  obtain ⟨M, ρ, G, a, b, z, s, ra, rb, hz, q⟩ := v2_pure q0
  clear q0
  split at hz
  · rename_i i xs
    cases hi : whols xs with
    | none => rw [hi] at hz; cases hz
    | some zs =>
      rw [hi] at hz
      cases hz
      obtain ⟨p, vs, rfl, z, rr⟩ := Rep.of_lst rb
      have e := whols_of hi
      subst e
      have ev := reps_int rr
      subst ev
      refine ⟨p, _, rfl, .inl (by rw [← hK]; exact z.sq), by rw [ra.of_int]; rfl, flat_int _, ?_⟩
      rw [ra.of_int, any_int]
      exact q _ _ same_refl .bl
  · rename_i i xs
    cases hi : whols xs with
    | none => rw [hi] at hz; cases hz
    | some zs =>
      rw [hi] at hz
      cases hz
      obtain ⟨p, vs, rfl, z, rr⟩ := Rep.of_tup rb
      have e := whols_of hi
      subst e
      have ev := reps_int rr
      subst ev
      refine ⟨p, _, rfl, .inr (by rw [← hK]; exact z.sq), by rw [ra.of_int]; rfl, flat_int _, ?_⟩
      rw [ra.of_int, any_int]
      exact q _ _ same_refl .bl
  · cases hz
def fIsNotB : F2 := pure2 fun
  | .bl a, .bl b => some (.bl (!decide (a = b)))
  | _, _ => none
end
end DL
set_option Elab.async false
set_option linter.all false
set_option maxRecDepth 100000
set_option maxHeartbeats 4000000
/-! super().__init__(..) of an own error over the hand layer. -/
namespace SX
open PySem PySem.Spec PyProof.Rows L2 PySem.W NdefX
/-- the bound __init__ of the error at x -/
abbrev mw (x : Addr) : Obj := kxs_mw "ValueError.__init__" x
section
variable {P : Program} {w : World} {A : Around} {E : Value → Shared → Prop} {s : Shared}
variable {nm q : Str} {C Nn : Addr} {bs bm : List Value} {hdct : Bool} {sn : List Str} {sub : List Value} {ab : Bool} {col : Option Bool} {dd : Option Addr} {k0 k1 k2 k3 k5 : Option Value}
theorem mw_call {b x t0 : Addr} {rs : List Value} {Q : Value → Shared → Prop} (hC : s.heap.get? C = some (excClassObj nm q C Nn bs bm hdct sn sub ab col dd k0 k1 k2 k3 k5 "ValueError.__new__")) (hx : s.heap.get? x = some (PySem.HandSPX.excO C t0)) (hb : s.heap.get? b = some (mw x))
    (hl : rs.length ≤ sizeLine) (hq : ∀ h' t1, (∀ y o, y ≠ x → s.heap.get? y = some o → h'.get? y = some o) → h'.get? x = some (PySem.HandSPX.excO C t1) → Q .none { s with heap := h' }) : wpAny (model P w) A (call (.ref b) rs) Q E s := by
  obtain ⟨h, g, d, t, os⟩ := s
  refine wpAny_call (codeAny_of_tree ?_)
  show wpAny _ A.in1 (callAny (.ref b) ⟨rs, []⟩) _ _ _
  simp only [callAny]
  refine wpAny_bind (wpAny_load hb ?_)
  have e1 : (Value.type "method-wrapper" == Value.type "method" || Value.type "method-wrapper" == Value.type "builtin_function_or_method" || Value.type "method-wrapper" == Value.type "method-wrapper") = true := by decide
  simp only [mw, kxs_mw, e1, if_true]
  refine KFB.if_so (by decide) ?_
  refine wpAny_bind (check_bound_init PySem.F.excBase_ValueError.toExcCallFacts hC hx rfl ?_)
  refine wpAny_bind (wpAny_pure (wpAny_pure ?_))
  refine ⟨plainId_quiet PySem.F.excBase_ValueError.init.plain _, codeAny_builtin PySem.F.excBase_ValueError.initEntry ?_⟩
  exact exc_init_tree (cls := .ref C) (t0 := t0) (dv := none) (c2 := .none) (c3 := .none) (b4 := .bool false) hx hl fun h' k e' _ => hq h' _ k e'
end
/-- what the text says of a method f of the class at D that says super() -/
structure SupF (P : Program) (K : PySem.W.Frag) (G : NF) (f cc D : Addr) (sf : Str) : Prop where
  cl : G.cl = [(("__class__" : Str), cc)]
  fn : ∃ oc od fd osl ar, K.lookup f = some ⟨oc, od, .func fd, osl⟩ ∧ (fd.params.posonlyargs ++ fd.params.args).head? = some ar ∧ ar.arg = sf
  code : ∃ c1 d1 vs s1 file tf, K.lookup G.c = some ⟨c1, d1, .fields vs, s1⟩ ∧ vs[2]? = some (.str file tf) ∧ ((P.main.file : Str) == file) = true
  cell : ∃ c1 d1 s1, K.lookup cc = some ⟨c1, d1, .cell (some (.ref D)), s1⟩
  clsD : ∃ cd, clsIn K D = some cd
  sup : nsIn K mainGlobals "super" = some none
  ks : G.scope.names.lookup ("super" : Str) = some .globalImplicit
  kc : G.scope.names.lookup ("__class__" : Str) = some .free
  ka : G.scope.names.lookup sf = some .local
  kk : G.scope.kind = .function
  top : (P.main.scope.names.lookup ("super" : Str)).isSome = false
section
variable {CX : CXT} {P : Program} {w : World} {K : PySem.W.Frag} {mg : Str → Option Value} {base : Heap} {N : List Str} {G : NF} {f cc D C a : Addr} {A : Around} {outer : List Env} {s0 s : Shared} {H0 H : Hp} {E : XK} {sf : Str} {pins : List (Addr × Obj)} {σ : L2.St}
/-- super() where an attribute of it is asked: a record for the object at a -/
theorem sup_base {body : List Stmt} {p0 p1 : Pos} {attr : Str} {whole : Sem Value} {ox : Obj} {Q : Value → Shared → Prop} {EE : Value → Shared → Prop} (S : SupF P K G f cc D sf) (I : Inv (ncx CX P w K mg base N G f A outer s0 H0 E) pins σ H s)
    (h0 : N[0]? = some sf) (hs : σ[0]? = some (some (.ref a))) (ha : s.heap.get? a = some ox) (hcl : ox.cls = .ref C) (hnc : ∀ z, ox.data ≠ .cls z) (hsub : mroIn K C (.ref D) = some true) (hat : (attr == ("__class__" : Str)) = false) (hm : mg "super" = none)
    (h : ∀ so s', Inv (ncx CX P w K mg base N G f A outer s0 H0 E) ((so, ks_superObj D a C) :: pins) σ H s' → Q (.ref so) s') :
    _root_.PySem.wpAt (model P w) (A.deeper (envF G f s0.heap.objs.size)) (.func body (envF G f s0.heap.objs.size)) (attributeBase (.Call (.Name "super" p0) [] [] p1) attr (envF G f s0.heap.objs.size) whole) Q EE s := by
  obtain ⟨oc, od, fd, osl, ar, hf, hp, har⟩ := S.fn
  obtain ⟨c1, d1, vs, s1, file, tf, hcode, hvs, hfile⟩ := S.code
  obtain ⟨c2, d2, s2, hcell⟩ := S.cell
  obtain ⟨cd, hD⟩ := S.clsD
  have kin : K.In s.heap := I.kIn
  obtain ⟨oD, hD1, hD2⟩ : ∃ oD, s.heap.get? D = some oD ∧ oD.data = .cls cd := by
    unfold clsIn at hD
    split at hD
    · rename_i e1 e2 e3 e4 ho
      cases hD
      exact ⟨_, kin _ _ ho, rfl⟩
    · cases hD
  obtain ⟨m, hn, hl⟩ := I.loc
  obtain ⟨u, r, l⟩ := hl 0 sf _ h0 hs (.inl S.ka)
  obtain rfl : u = Value.ref a := r
  have hlook : m sf = some (.ref a) := by
    rcases l with ⟨_, z⟩ | ⟨z, _⟩
    · exact z
    · have z' : G.scope.names.lookup sf = some .cell ∨ G.scope.names.lookup sf = some .free := z
      rw [S.ka] at z'
      rcases z' with z' | z' <;> cases z'
  obtain ⟨mb, hb1, hb2⟩ := I.mod.blt
  have kf : (envF G f s0.heap.objs.size).scope.kind = .function := S.kk
  refine ks_wpAt_super_base (env := envF G f s0.heap.objs.size) S.ks S.kc hat rfl (kin _ _ hf) rfl hp rfl (kin _ _ hcode) rfl hvs hfile S.top ?_
  refine ks_loadName_global kf S.ks (Calls.loadGlobal_builtin (env := envF G f s0.heap.objs.size) (I.mod.glob.keeps I.bk) hm (hb1.keeps I.bk) ((hb2 _ (by decide)).trans (show bootBuiltins "super" = some (.type "super") from ?_)) ⟨rfl, ?_⟩)
  · exact PyProof.Rows.Boot.«super»
  refine wpAny_loadName_free kf S.kc (c := cc) (by show G.cl.lookup _ = _; rw [S.cl]; rfl) ⟨_, kin _ _ hcell, rfl⟩ ?_
  rw [har]
  refine wpAny_loadName_local kf S.ka hn hlook ?_
  refine ks_wpAny_isType_cls (h := s.heap) (g := s.gens) hD1 hD2 ⟨rfl, ?_⟩
  refine ks_wpAny_call_super (h := s.heap) hD1 hD2 ha hcl hnc (looks_mroIn kin hsub) fun h' e k => ?_
  exact h _ _ (ClX.pin_new I k (Nat.le_refl _) e fun v z => nomatch z)
/-- super().__init__(e, ..) of an own error: nothing of it is told -/
theorem sup_init {body : List Stmt} {p0 p1 ap pos : Pos} {e : Expr} {es : List Expr} {t : TA} {Q : Value → Shared → Prop} (S : SupF P K G f cc D sf) (I : Inv (ncx CX P w K mg base N G f A outer s0 H0 E) pins σ H s)
    (h0 : N[0]? = some sf) (hs : σ[0]? = some (some (.ref a))) (T : OexC K C) (ea : H a = some (exo a C none)) (hsub : mroIn K C (.ref D) = some true) (hst : nsIn K cStatics "thirdparty.any" = some none) (hsi : ks_superIn K C D "__init__" = some (some (.builtin "ValueError.__init__"))) (hm : mg "super" = none)
    (ha : PA (ncx CX P w K mg base N G f A outer s0 H0 E) (e :: es) t)
    (ht : t σ H fun vs H1 => vs.length ≤ 1000 ∧ H1 a = some (exo a C none) ∧ ∀ s', Inv (ncx CX P w K mg base N G f A outer s0 H0 E) pins σ H1 s' → Q .none s')
    (he : starEach (e :: es) (envF G f s0.heap.objs.size) = (false, eval e (envF G f s0.heap.objs.size)) :: starEach es (envF G f s0.heap.objs.size) := by rfl) (hpl : (backTo pos (starEach es (envF G f s0.heap.objs.size))).any (·.1) = false := by rfl) {pl : Sem Bool}
    (hev : eval (.Call (.Attribute (.Call (.Name "super" p0) [] [] p1) "__init__" ap) (e :: es) [] pos) (envF G f s0.heap.objs.size) = (do
      let ov ← attributeBase (.Call (.Name "super" p0) [] [] p1) "__init__" (envF G f s0.heap.objs.size) (eval (.Call (.Name "super" p0) [] [] p1) (envF G f s0.heap.objs.size))
      standAt ap.atName
      let (f', first) ← holding [ov] (getMethod ov "__init__" pl)
      callWith pos f' first (backTo pos (starEach (e :: es) (envF G f s0.heap.objs.size))) []) := by rfl) :
    _root_.PySem.wpAt (model P w) (A.deeper (envF G f s0.heap.objs.size)) (.func body (envF G f s0.heap.objs.size)) (eval (.Call (.Attribute (.Call (.Name "super" p0) [] [] p1) "__init__" ap) (e :: es) [] pos) (envF G f s0.heap.objs.size)) Q
      (ncx CX P w K mg base N G f A outer s0 H0 E).xe s := by
  obtain ⟨nm, q, Nn, bs, bm, sn, sub, ab, col, dd, k0, k1, k2, k3, k5, hC, hbm⟩ := T.cls
  obtain ⟨t1, ho⟩ := exo_at I.hok ea
  refine ks_wpAt_MethodCall (sup_base S I h0 hs ho rfl (fun z y => nomatch y) hsub (by decide) hm fun so s1 I1 => ?_) hev
  have kin : K.In s1.heap := I1.kIn
  obtain ⟨t2, ho1⟩ := exo_at I1.hok ea
  have hcl : clsIn K C = some { name := nm, bases := bs, mro := .ref C :: bm, ns := Nn, qualname := q, hasDict := true, slotNames := sn, subclasses := sub, abstract := ab, collection := col, hasDel := false } := by unfold clsIn; rw [hC] <;> rfl
  have hve : mroIn K C (.type "ValueError") = some true := by
    have hr : PySem.HandSPX.refsVE (.ref C :: bm) = true := hbm
    unfold mroIn
    rw [hcl, Option.bind_some, if_neg (show ¬ (List.isEmpty (Value.ref C :: bm) = true) from Bool.false_ne_true), PySem.HandSPX.refsVE_contains "ValueError" _ hr]
    decide +kernel
  have IA : InstAt s1.heap a { cls := .ref C, dict := none, data := .fields #[.ref t2, .none, .none, .none, .bool false, .none] } C none := ⟨ho1, rfl, rfl, trivial⟩
  have hne : a ≠ C := ks_ne kin IA hcl
  have hso : s1.heap.get? so = some (ks_superObj D a C) := ClX.pin_at I1
  unfold ks_superIn at hsi
  rw [hcl] at hsi
  have hsi' : alongIn K "__init__" (((Value.ref C :: bm).dropWhile (· != .ref D)).drop 1) = some (some (.builtin "ValueError.__init__")) := hsi
  obtain ⟨hh, g, d, tk, os⟩ := s1
  refine kxs_getMethod kxs_ValueError hso (looks_opaque kin hst) (l₀ := .ref C :: bm) ?_ rfl kin hsi' (IA.type.andThen (looks_mroIn kin hve)) hne (by decide) ?_
  · exact fun A Q E s k q => wpAny_bind ((looks_clsIn kin hcl) A _ E s k (wpAny_pure q))
  have I2 : Inv (ncx CX P w K mg base N G f A outer s0 H0 E) ((hh.objs.size, mw a) :: (so, ks_superObj D a C) :: pins) σ H ⟨hh.push (mw a), g, d, tk + 1, os⟩ :=
    ClX.pin_new (s := ⟨hh, g, d, tk, os⟩) I1 (fun _ _ z => Heap.get?_push_of_some _ z) (Nat.le_refl _) (Heap.get?_push_size hh rfl) (fun v z => nomatch z)
  show wpAny _ _ (callWith pos (.ref hh.objs.size) [] _ []) _ _ _
  rw [he]
  refine kxs_callWith (i := "ValueError.__init__") (x := a) (by show (false || (backTo pos (starEach es (envF G f s0.heap.objs.size))).any (·.1)) = false; rw [hpl]; rfl) (Calls.evalArgs_plain ?_)
  have hrun := ha.run pos _ _ σ H _ I2 ht
  have he' : starEach (e :: es) (ncx CX P w K mg base N G f A outer s0 H0 E).env = (false, eval e (envF G f s0.heap.objs.size)) :: starEach es (envF G f s0.heap.objs.size) := he
  rw [he'] at hrun
  refine thn hrun fun us s2 ⟨vs, H1, I3, r, hl, ea1, k⟩ => ⟨ClX.pin_at I3, ?_⟩
  obtain ⟨t3, ho3⟩ := exo_at I3.hok ea1
  obtain ⟨h2, g2, d2, tk2, os2⟩ := s2
  refine mw_call (s := ⟨h2, g2, d2, tk2, os2⟩) (I3.kIn _ _ hC) ho3 (ClX.pin_at I3) (by show us.length ≤ sizeLine; rw [← r.length, sizeLine_eq]; omega) fun h' t4 kk hx => ?_
  have J := I3.write (t' := tk2) (x := a) (e := a) (o := exo a C none) (by rw [ea1]; exact True.intro) (.inl rfl) kk ⟨_, hx⟩ (exo_ok hx)
  have eu : upd H1 a (exo a C none) = H1 := by
    funext b
    by_cases hb : b = a
    · rw [hb, upd_same, ea1]
    · rw [upd_ne hb]
  rw [eu] at J
  exact k _ (ClX.unpin (ClX.unpin J))
end
end SX
set_option Elab.async false
set_option linter.all false
set_option maxRecDepth 100000
set_option maxHeartbeats 4000000
/-! An own error over ValueError by its __init__, raised where nothing is handled. -/
namespace SX
open PySem PySem.Spec PyProof.Rows L2 PySem.W NdefX
section
variable {CX : CXT} {P : Program} {w : World} {K : PySem.W.Frag} {mg : Str → Option Value} {base : Heap} {N ps : List Str} {G : NF} {f cc D : Addr} {k : Nat} {sf : Str} {dV kV doc pm ctv oc : Value} {od an : Option Addr} {osl : Array (Option Value)} {sp : Sp}
/-- a method that says super(), by its body; the body runs where its own frame is known -/
theorem fn_sup (S : SupF P K G f cc D sf) (lk : K.lookup f = some ⟨oc, od, .func (fnX G.name G.qual G.params G.body G.scope G.cl dV kV doc pm an (.ref G.c) ctv), osl⟩) (hcd : codeIn K (.ref G.c) G.qual = true) (Sc : NScope N ps [("__class__" : Str)] G.scope) (len : ∀ vs H Q E, sp vs H Q E → vs.length = ps.length)
    (hb : ∀ (A : Around) (outer : List Env) (s : Shared) (H : Hp) (vs : List V) (Q : VK) (E : XK), Room k (A.deeper (envF G f s.heap.objs.size)) → sp vs H Q E → ∀ s1, Inv (ncx CX P w K mg base N G f A outer s H E) [] (startF N vs [none]) H s1 →
      _root_.PySem.wpAt (model P w) (A.deeper (envF G f s.heap.objs.size)) (.func G.body (envF G f s.heap.objs.size)) (execs G.body (envF G f s.heap.objs.size)) (SP (ncx CX P w K mg base N G f A outer s H E) [] { nx := fun _ H' => Q .non H', rt := Q }) (ncx CX P w K mg base N G f A outer s H E).xe s1) :
    FnOk P w K mg base CX (k + 1) f (fnX G.name G.qual G.params G.body G.scope G.cl dV kV doc pm an (.ref G.c) ctv) ps sp := by
  refine ⟨len, fun A outer s H args us vs Q E hr e0 hbd r hsp => ?_⟩
  have hl := len _ _ _ _ hsp
  have kin : K.In s.heap := e0.mod.kin.keeps fun b o e => (e0.bs b o e).1
  have lim : s.heap.NoLimit := e0.mod.nolimit.keeps fun b o e => (e0.bs b o e).1
  refine codeAny_call_function hr.depth (kin _ _ lk) rfl Sc.co Sc.gen rfl (codeRec_of kin hcd) (hbd _ _ _ _ ?_)
  refine wpAny_newFunctionEnv Sc.nocell (fun ⟨n, _⟩ hy => Sc.par n (List.of_mem_zip hy).1) (fun h₁ hns hsb => ⟨lim.fresh _ hsb, ?_⟩) Sc.kind
  show codeAny _ _ (.func G.body (envF G f s.heap.objs.size)) _ _
  have kp : ∀ b o, s.heap.get? b = some o → h₁.get? b = some o := fun b o e => hsb.extBut b o (Nat.ne_of_lt (Heap.lt_size e)) (Heap.get?_push_of_some _ e)
  obtain ⟨c1, d1, s1, hcell⟩ := S.cell
  have C : CellsAt G.cl [("__class__" : Str)] [none] s.heap H := by
    have key : ∀ y c, G.cl.lookup y = some c → y = "__class__" ∧ c = cc := fun y c e => by
      rw [S.cl] at e
      by_cases h : y = "__class__"
      · subst h
        have e' : some cc = some c := e
        exact ⟨rfl, (Option.some.inj e').symm⟩
      · have h' : (y == ("__class__" : Str)) = false := by simpa using h
        simp [List.lookup, h'] at e
    have hbase := e0.mod.kin _ _ hcell
    refine ⟨rfl, fun y c e => ?_, fun x y c e1 e2 => ?_, fun i y e => ?_⟩
    · obtain ⟨_, rfl⟩ := key y c e
      exact ⟨(e0.bs _ _ hbase).2, _, _, (e0.bs _ _ hbase).1, rfl⟩
    · exact (key x c e1).1.trans (key y c e2).1.symm
    · have hi : i = 0 := by
        have := (List.getElem?_eq_some_iff.mp e).1
        simpa using this
      subst hi
      have hy : y = "__class__" := by simpa using e.symm
      subst hy
      exact ⟨cc, by rw [S.cl]; rfl, fun v z => by cases z⟩
  have I := inv_startN (CX := CX) (f := f) (E := E) (tk := s.toks + (ps.zip us).length) Sc hr.hd e0 hl r C hns kp
  refine ks_codeAny_funcAt (ks_wpAt_mono (hb A outer s H vs Q E (hr.deeper _) hsp _ I) (fun fl s' hs => ?_) fun e s' hs => hs)
  have fin : ∀ {σ' : L2.St} {H' : Hp} {v : V} {u : Value}, Inv (ncx CX P w K mg base N G f A outer s H E) [] σ' H' s' → RelV v u → Q v H' → CE outer P w H s Q u s' :=
    fun {σ' H' v u} J rv q => ⟨v, H', J.os, J.bare, J.base, J.hok, rv, q⟩
  cases fl with
  | ret u =>
    obtain ⟨v, σ', H', J, rv, q⟩ := hs
    exact fin J rv q
  | next =>
    obtain ⟨σ', H', J, q⟩ := hs
    exact fin (v := V.non) (u := Value.none) J rfl q
  | brk =>
    obtain ⟨_, _, _, q⟩ := hs
    exact False.elim q
  | cont =>
    obtain ⟨_, _, _, q⟩ := hs
    exact False.elim q
end
section
variable {X : Cx} {e : Expr} {es : List Expr} {ta : TA} {p pos : Pos}
/-- C(e, ..) where the exception has no context -/
theorem pmkN_oex {CX : CXT} {x : Str} {C fI : Addr} {k : Nat} {fd : FuncData} {ps : List Str} {sp : Sp} (T : OexC X.K C) (iC : findIn X.K (.ref C) "__init__" = some (some (.ref fI))) (tI : typeIn X.K (.ref fI) = some (.type "function")) (Fi : FnOk X.prog X.w X.K X.mg X.base CX k fI fd ps sp) (hr : Room (k + 1) X.A)
    (hb : Binds X.K fd ps []) (hx : Passes CX X (fun _ _ _ => False)) (hg : Gl X x) (hm : X.mg x = some (.ref C)) (ha : PA X (e :: es) ta) (hdb : (x == ("__debug__" : Str)) = false := by decide)
    (he : starEach (e :: es) X.env = (false, eval e X.env) :: starEach es X.env := by rfl) (hpl : (backTo pos (starEach es X.env)).any (·.1) = false := by rfl) : L2N.PMk X (.Call (.Name x p) (e :: es) [] pos) (tMkO C sp [] ta) := by
  intro pins s σ H Q I h
  obtain ⟨nm, q, Nn, bs, bm, sn, sub, ab, col, dd, k0, k1, k2, k3, k5, hC, hbm⟩ := T.cls
  refine wpAny_Call_Name_kw (ld_glob I hg hm ?_ hdb)
  refine callWith_K (h₀ := X.base) I.ok.mod.kin T.kC (thn (ha.run pos pins s σ H _ I h) fun us s1 ⟨vs, H1, I1, r1, hz, q1⟩ => ⟨I1.kIn, ?_⟩) he hpl
  show wpAny _ _ (call (.ref C) us) _ _ _
  obtain ⟨hp, g, dr, tk, os⟩ := s1
  have hsz : hp.objs.size ≤ hp.objs.size + 1 := Nat.le_succ _
  have hq := q1 (hp.objs.size + 1) (I1.hok.fresh hsz)
  rw [List.append_nil] at hq
  have kk : ∀ b o, hp.get? b = some o → ((hp.push (kdv_tup us)).push (PySem.HandSPX.excO C hp.objs.size)).get? b = some o := fun b o z => Heap.get?_push_of_some _ (Heap.get?_push_of_some _ z)
  have hget : ((hp.push (kdv_tup us)).push (PySem.HandSPX.excO C hp.objs.size)).get? (hp.objs.size + 1) = some (PySem.HandSPX.excO C hp.objs.size) := by heap_get
  have I2 := I1.laid (t' := tk) (a := hp.objs.size + 1) (o := exo (hp.objs.size + 1) C none) (h' := (hp.push (kdv_tup us)).push (PySem.HandSPX.excO C hp.objs.size)) kk hsz (exo_ok hget)
  have r2 : Vals (V.ref (hp.objs.size + 1) :: vs) (Value.ref (hp.objs.size + 1) :: us) := .cons rfl r1
  have hl : (Value.ref (hp.objs.size + 1) :: us).length = ps.length := r2.length.symm.trans (Fi.len _ _ _ _ hq)
  have bd := hb _ (Value.ref (hp.objs.size + 1) :: us) I2.kIn (by rw [List.append_nil]; exact hl)
  rw [List.append_nil] at bd
  refine wpAny_call (PySem.HandSPX.call_own PySem.F.excBase_ValueError (fun Y => PySem.HandSPX.refsVE_contains Y bm hbm) (I1.kIn _ _ hC) (looks_findIn I1.kIn iC) (fun sf => bind_fn I1.kIn sf tI) (by rw [← Paired.length r1, sizeLine_eq]; omega)
    (codeAny_mono (Fi.run _ X.stack _ _ ⟨Value.ref (hp.objs.size + 1) :: us, []⟩ _ _ _ (fun _ _ _ => False) (hr.make C us []) (I2.env0.make C us []) bd r2 hq) fun rs s' hq' => ?_))
  match rs, hq' with
  | .error er, z => exact hx pins σ _ _ er s' I2 z
  | .ok .next, z => exact z.elim
  | .ok .brk, z => exact z.elim
  | .ok .cont, z => exact z.elim
  | .ok (.ret u), ⟨v, H2, os2, bare2, un2, hok2, rv, ev, d, fs, ea, ed, hd1, q2⟩ =>
    subst ev
    obtain ⟨h2, g2, d2, t2, os'⟩ := s'
    obtain ⟨t0, Gh, J, kG, ge, hoe, na⟩ := mk_end0 (d2 := d2) (t2 := t2) I1 hsz kk un2 hok2 os2 bare2 ea ed hd1
    exact ⟨rv, _, _, _, ⟨Gh, g2, d2, t2, os'⟩, _, .ref C, some d, rfl, J, kG, ge, hoe, ⟨rfl, rfl, fun vs z => by cases z; rfl⟩, rfl, rfl, na, rfl, bare2, raises_own T.exC T.tyC, q2⟩
end
end SX
set_option Elab.async false
set_option linter.all false
set_option maxRecDepth 100000
set_option maxHeartbeats 4000000
/-! Own errors of one field: made, raised. -/
namespace DL
open PySem L2 PyProof.Rows NdefX
section
variable {c : RC} {M : Addr → Prop} {ρ : List Addr} {H H' : Hp} {a C : Addr} {dx : Option Addr}
theorem exo_lst {e C : Addr} {d : Option Addr} {xs : List V} : exo e C d ≠ .lst xs := fun z => by
  have z' : HO.ext _ = HO.lst xs := z
  cases z'
/-- a heap of records of the name q -/
theorem exo_code {e C : Addr} {d : Option Addr} {b : Addr} {q : Str} : exo e C d ≠ LamX.CodeO b q := fun z => by
  unfold exo LamX.CodeO at z
  injection z with z
  have h := congrFun z ⟨Array.replicate (b + 1) { cls := .none, data := .fields #[.none, .str q 0] }, {}⟩
  have g : ∀ k o, (⟨Array.replicate (b + 1) { cls := .none, data := .fields #[.none, .str q 0] }, {}⟩ : Heap).get? k = some o → o = { cls := .none, data := .fields #[.none, .str q 0] } := fun k o hk => by
    have := ((Heap.get?_eq_some _ _ _).mp hk).1
    rw [Array.getElem?_replicate] at this
    split at this
    · exact (Option.some.inj this).symm
    · cases this
  obtain ⟨t1, w⟩ : ∃ t1 : Addr, (⟨Array.replicate (b + 1) { cls := .none, data := .fields #[.none, .str q 0] }, {}⟩ : Heap).get? e = some ({ cls := .ref C, dict := d, data := .fields #[.ref t1, .none, .none, .none, .bool false, .none] } : Obj) := by
    rw [h]
    exact ⟨_, _, 0, (Heap.get?_eq_some _ _ _).mpr ⟨by rw [Array.getElem?_replicate, if_pos (Nat.lt_succ_self b)], rfl⟩, rfl, rfl⟩
  have := congrArg Obj.cls (g _ _ w)
  cases this
theorem exo_ins {e C k : Addr} {d : Option Addr} {y : Addr} {gs : List (Str × V)} : exo e C d ≠ .ins k y gs := fun z => by
  have z' : HO.ext _ = HO.ins k y gs := z
  cases z'
/-- all that is read stands, but what is at a -/
structure Off (a : Addr) (H H' : Hp) : Prop where
  at_ : ∃ e C d, H a = some (exo e C d)
  keep : ∀ b o, b ≠ a → H b = some o → H' b = some o
theorem Off.rd {u : HO} {b : Addr} (f : Off a H H') (hu : ∀ e C d, exo e C d ≠ u) (r : Rd H b u) : Rd H' b u := by
  obtain ⟨e, C, d, z⟩ := f.at_
  have ne : b ≠ a := fun q => by
    rw [q] at r
    rcases r with r | ⟨o, r⟩
    · rw [z] at r; exact hu _ _ _ (Option.some.inj r)
    · rw [z] at r; exact exo_frz (Option.some.inj r)
  rcases r with r | ⟨o, r⟩
  · exact .inl (f.keep _ _ ne r)
  · exact .inr ⟨o, f.keep _ _ ne r⟩
theorem RepN.off (f : Off a H H') : ∀ {n : Nat} {d : D} {v : V}, RepN c M ρ H n d v → RepN c M ρ H' n d v := by
  intro n
  induction n with
  | zero => intro d v h; cases d <;> exact h
  | succ n ih =>
    intro d v h
    cases d with
    | tup xs => obtain ⟨b, vs, e, z, r⟩ := h; exact ⟨b, vs, e, z.imp (fun q => ⟨q.1, f.rd (fun _ _ _ => exo_tup) q.2⟩) id, r.imp fun _ _ q => ih q⟩
    | lst xs => obtain ⟨b, vs, e, z, r⟩ := h; exact ⟨b, vs, e, z.imp (fun q => ⟨q.1, f.rd (fun _ _ _ => exo_lst) q.2⟩) id, r.imp fun _ _ q => ih q⟩
    | ins k fs =>
      obtain ⟨b, dx, gs, e, z, e2, nm, r⟩ := h
      refine ⟨b, dx, gs, e, z, f.keep _ _ (fun q => ?_) e2, nm, r.imp fun _ _ q => ih q⟩
      obtain ⟨_, _, _, z⟩ := f.at_
      rw [q, z] at e2; exact exo_ins (Option.some.inj e2)
    | _ => exact h
theorem Rep.off (f : Off a H H') {d : D} {v : V} (h : Rep c M ρ H d v) : Rep c M ρ H' d v := let ⟨n, q⟩ := h; ⟨n, q.off f⟩
theorem RepE.off (f : Off a H H') {d : EV} {v : V} (h : RepE c M ρ H d v) : RepE c M ρ H' d v := by
  cases d with
  | d x => exact Rep.off f h
  | o i => exact h
theorem SR.off {G : GS} (f : Off a H H') (s : SR c M ρ G H) (na : ¬ M a) (nb : ¬ c.B a) : SR c M ρ G H' := by
  have ne : ∀ b, b ≠ a → H b ≠ none → H' b ≠ none := fun b hb h => by
    cases e : H b with
    | none => exact absurd e h
    | some o => rw [f.keep _ _ hb e]; simp
  refine ⟨s.len, s.nd, s.sep, fun i xs e => ?_, fun b m => ne b (fun q => na (q ▸ m)) (s.mt b m), fun b m => ne b (fun q => nb (q ▸ m)) (s.bt b m), fun i k e => ?tb⟩
  case tb =>
    obtain ⟨p, t⟩ := s.tb i k e
    obtain ⟨x1, x2, x3, y⟩ := f.at_
    exact ⟨p, tabs_keep t (fun ps z => f.keep _ _ (fun w => by rw [w, y] at z; unfold exo at z; cases z) z) fun b z => f.keep _ _ (fun w => exo_code (Option.some.inj (y.symm.trans ((congrArg H w).symm.trans z)))) z⟩
  obtain ⟨b, vs, p, q, r⟩ := s.at_ i xs e
  refine ⟨b, vs, p, f.keep _ _ (fun z => ?_) q, r.imp fun _ _ h => h.off f⟩
  obtain ⟨_, _, _, y⟩ := f.at_
  rw [z, y] at q; exact exo_lst (Option.some.inj q)
end
/-- the __init__ of an error of one field, the value it takes: ok -/
def SpE (K : PySem.W.Frag) (Cf : String → Addr) (N : String → List Str) (cl : String) (fld : Str) (ok : D → Bool) : Sp := fun vs H Q E => ∃ (B : Addr → Prop) (ρ : List Addr) (G : GS) (a : Addr) (x : D) (v : V), vs = [.ref a, v] ∧ H a = some (exo a (Cf cl) none) ∧ SR ⟨K, Cf, N, B, 0, 0⟩ nM ρ G H ∧
  Rep ⟨K, Cf, N, B, 0, 0⟩ nM ρ H x v ∧ ok x = true ∧ ∀ (d : Addr) (ρ' : List Addr) (H' : Hp), Ge nM ρ H ρ' H' → SR ⟨K, Cf, N, B, 0, 0⟩ nM ρ' G H' → H' d = none → d ≠ a → Q .non (upd (upd H' d (exd d [(fld, v)])) a (exo a (Cf cl) (some d)))
section
variable {P : Program} {w : World} {K : PySem.W.Frag} {mg : Str → Option Value} {base : Heap} {Cf : String → Addr} {Nf : String → List Str} {N : List Str} {F : NF} {f cc : Addr} {k : Nat} {sf pf fld cl : Str} {cn : String} {doc pm ctv oc : Value} {od : Option Addr} {osl : Array (Option Value)}
theorem fn_err1 {p0 p1 ap pos pos2 q1 q2 q3 pos3 : Pos} {e : Expr} {m : EM} {ok : D → Bool} (S : SX.SupF P K F f cc (Cf cn) sf) (lk : K.lookup f = some ⟨oc, od, .func (F.fd doc pm ctv), osl⟩) (hcd : PySem.W.codeIn K (.ref F.c) F.qual = true) (Sc : NScope N [sf, pf] [("__class__" : Str)] F.scope)
    (T : OexC K (Cf cn)) (hst : PySem.W.nsIn K cStatics "thirdparty.any" = some none) (hsi : PySem.W.ks_superIn K (Cf cn) (Cf cn) "__init__" = some (some (.builtin "ValueError.__init__"))) (hsub : PySem.W.mroIn K (Cf cn) (.ref (Cf cn)) = some true) (hm : mg "super" = none)
    (hno : PySem.W.findIn K (.ref (Cf cn)) fld = some none)
    (hbody : F.body = [.Expr (.Call (.Attribute (.Call (.Name "super" p0) [] [] p1) "__init__" ap) [e] [] pos) pos2, .Assign [.Attribute (.Name sf q1) fld q2] (.Name pf q3) pos3])
    (he : ∀ (A : Around) (outer : List Env) (s : Shared) (H : Hp) (E : XK) (B : Addr → Prop), DE (ncx (L2N.CX P w) P w K mg base N F f A outer s H E) ⟨K, Cf, Nf, B, 0, 0⟩ (fun cls d _ H => E cls d H) e m)
    (hok : ∀ x G, ok x = true → ∃ y, m (Sl.no :: Sl.ev (.d x) :: List.replicate (N.length - 2) Sl.no) G = .ok y G) (d1 : (sf == ("__debug__" : Str)) = false := by decide) (d2 : (sf == ("__classdict__" : Str)) = false := by decide) (d3 : (pf == ("__debug__" : Str)) = false := by decide) (d4 : (pf == ("__classdict__" : Str)) = false := by decide)
    (nd : pf ≠ sf := by decide) (hstar : ∀ env, starEach [e] env = (false, eval e env) :: starEach [] env := by intro _; rfl) {pl : Env → Sem Bool}
    (hev : ∀ env, eval (.Call (.Attribute (.Call (.Name "super" p0) [] [] p1) "__init__" ap) [e] [] pos) env = (do
      let ov ← attributeBase (.Call (.Name "super" p0) [] [] p1) "__init__" env (eval (.Call (.Name "super" p0) [] [] p1) env)
      standAt ap.atName
      let (f', first) ← holding [ov] (getMethod ov "__init__" (pl env))
      callWith pos f' first (backTo pos (starEach [e] env)) []) := by intro _; rfl)
    (hsw : ∀ env, swapsWith (.Call (.Attribute (.Call (.Name "super" p0) [] [] p1) "__init__" ap) [e] [] pos) none pos2.line env = pure false := by intro _; rfl) : FnOk P w K mg base (L2N.CX P w) (k + 1) f (F.fd doc pm ctv) [sf, pf] (SpE K Cf Nf cn fld ok) := by
  have hpre : N.take 3 = [sf, pf, ("__class__" : Str)] := Sc.pre
  have hlen : 3 ≤ N.length := by have := congrArg List.length hpre; rw [List.length_take] at this; simp at this; omega
  have g0 : N[0]? = some sf := by rw [← List.getElem?_take_of_lt (j := 3) (by omega), hpre]; rfl
  have g1 : N[1]? = some pf := by rw [← List.getElem?_take_of_lt (j := 3) (by omega), hpre]; rfl
  have lf : F.scope.names.lookup sf = some .local := Sc.par _ (by simp)
  have lp : F.scope.names.lookup pf = some .local := Sc.par _ (by simp)
  refine SX.fn_sup S lk hcd Sc (fun vs H Q E ⟨_, _, _, _, _, _, h, _⟩ => by rw [h]; rfl) fun A outer s H vs Q E hr hsp s1 I => ?_
  obtain ⟨B, ρ, G, a, x, v, rfl, ea, s0, rx, hx, q⟩ := hsp
  rw [hbody]
  have hs0 : (startF N [V.ref a, v] [none])[0]? = some (some (.ref a)) := rfl
  have hs1 : (startF N [V.ref a, v] [none])[1]? = some (some v) := rfl
  obtain ⟨y, hy⟩ := hok x G hx
  have R : Rl ⟨K, Cf, Nf, B, 0, 0⟩ nM ρ G (Sl.no :: Sl.ev (.d x) :: List.replicate (N.length - 2) Sl.no) (startF N [V.ref a, v] [none]) H := by
    refine ⟨s0, by unfold startF; simp; omega, fun _ => 0, fun i sl z => ?_, fun i j o u z => ?_⟩
    · match i, z with
      | 0, z => cases z; trivial
      | 1, z => cases z; exact ⟨v, hs1, rx⟩
      | i + 2, z =>
        have z' : (List.replicate (N.length - 2) Sl.no)[i]? = some sl := z
        rw [List.eq_of_mem_replicate (List.mem_of_getElem? z')]
        trivial
    · have := List.mem_of_getElem? z
      simp at this
  have nρ : a ∉ ρ := fun hm => by
    obtain ⟨i, hi⟩ := List.getElem?_of_mem hm
    have hl : i < G.length := by rw [← s0.len]; exact (List.getElem?_eq_some_iff.mp hi).1
    cases hg : G[i] with
    | lst xs =>
      obtain ⟨b, ws, p, z, _⟩ := s0.at_ i xs (by rw [List.getElem?_eq_getElem hl, hg])
      rw [hi] at p; cases p
      rw [ea] at z; exact exo_lst (Option.some.inj z)
    | tb k9 =>
      obtain ⟨p, ps9, z, _⟩ := s0.tb i k9 (by rw [List.getElem?_eq_getElem hl, hg])
      rw [hi] at p; cases p
      rw [ea] at z; unfold exo at z; cases z
  refine ks_wpAt_execs_cons (ks_wpAt_Expr_any (SX.sup_init S I g0 hs0 T ea hsub hst hsi hm (da_cons (he A outer s H E B) da_nil (hstar _)) ⟨nM, ρ, G, _, R, ?_⟩ (hstar _) (by rfl) (hev _)) (by unfold interactive; simp [Sc.kind]) (hsw _))
  show TQ _ _ _ _ _ _ _ ((m _ G).bind fun z G1 => (Out.ok [] G1).bind fun zs G2 => .ok (z :: zs) G2) _
  rw [hy]
  intro us ρ' H' ge s' r
  refine ⟨by rw [← r.length]; exact Nat.le_of_ble_eq_true rfl, ge.keep _ _ ea nρ, fun s2 J => ?_⟩
  have hc : PSs (ncx (L2N.CX P w) P w K mg base N F f A outer s H E) [.Assign [.Attribute (.Name sf q1) fld q2] (.Name pf q3) pos3] (tOst K fld (tVar 0) (tVar 1)) :=
    pss_one (ps_ost (pe_var g0 (.inl lf) d1 d2) (pe_var g1 (.inl lp) d3 d4) (by rfl))
  refine wpAt_of_wpAny (hc.run [] s2 _ H' { nx := fun _ H' => Q .non H', rt := Q } J ⟨v, hs1, .ref a, hs0, a, Cf cn, rfl, T, hno, .inl ⟨ge.keep _ _ ea nρ, fun d hd hda => q d ρ' H' ge s' hd hda⟩⟩)
end
/-- raise C(e), of one field -/
def sEr (cl : String) (ok : D → Bool) (m : EM) : SM := fun env G => ofE (m env G) env fun e G1 => match e with
  | .d x => if ok x = true then .er cl [x] env G1 else .st
  | _ => .st
section
variable {X : Cx} {c : RC} {W : WX} {e : Expr} {m : EM} {p pos pos' : Pos}
theorem pass_no : Passes (L2N.CX X.prog X.w) X (fun _ _ _ => False) := fun _ _ _ _ _ _ _ ⟨_, _, _, _, _, _, _, _, _, _, _, _, h⟩ => h.elim
theorem ds_raise1 {x fld : Str} {cl : String} {fI : Addr} {k : Nat} {fd : FuncData} {ps : List Str} {ok : D → Bool} (T : OexC X.K (c.C cl)) (iC : PySem.W.findIn X.K (.ref (c.C cl)) "__init__" = some (some (.ref fI))) (tI : PySem.W.typeIn X.K (.ref fI) = some (.type "function"))
    (Fi : FnOk X.prog X.w X.K X.mg X.base (L2N.CX X.prog X.w) k fI fd ps (SpE X.K c.C c.N cl fld ok)) (hN : (c.N cl).take 1 = [fld]) (hK : c.K = X.K) (hr : Room (k + 1) X.A) (hb : Binds X.K fd ps []) (hc : X.calm = true) (tk : L2N.Takes X W) (hg : Gl X x) (hm : X.mg x = some (.ref (c.C cl))) (ha : DE X c W e m)
    (hdb : (x == ("__debug__" : Str)) = false := by decide) (he : starEach [e] X.env = (false, eval e X.env) :: starEach [] X.env := by rfl) : DS X c W (.Raise (some (.Call (.Name x p) [e] [] pos)) none pos') (sEr cl ok m) := by
  refine ps_imp (L2N.ps_raise hc tk (SX.pmkN_oex T iC tI Fi hr hb pass_no hg hm (da_cons ha da_nil he) hdb he (by rfl))) fun Dn σ H q => ?_
  obtain ⟨M, ρ, G, env, R, q⟩ := q
  refine ⟨M, ρ, G, env, R, ?_⟩
  show TQ (RA c) c W M ρ σ H ((m env G).bind fun z G1 => (Out.ok [] G1).bind fun zs G2 => .ok (z :: zs) G2) _
  unfold sEr at q
  cases hm1 : m env G with
  | st => rw [hm1] at q; exact q.elim
  | er cl' fs G1 => rw [hm1] at q; exact fun dd gs ρ' H' g s e' f => q M ρ' σ H' dd gs g.gr (R.ge g s) e' f
  | ok z G1 =>
    rw [hm1] at q
    cases z with
    | o i => exact q.elim
    | d x1 =>
      have q' : SQ c W M ρ H (if ok x1 = true then .er cl [x1] env G1 else .st) Dn := q
      split at q'
      · rename_i hx
        intro vs ρ1 H1 g s r
        cases r with
        | @cons _ v _ _ rv rn =>
        cases rn
        refine ⟨by simp, fun a na => ?_⟩
        have sm : Same H1 (upd H1 a (exo a (c.C cl) none)) := same_upd na
        have sI : SR (sub c M) nM ρ1 G1 (upd H1 a (exo a (c.C cl) none)) := s.in_.same sm
        refine ⟨(sub c M).B, ρ1, G1, a, x1, v, rfl, upd_same, by rw [← hK]; exact sI, by rw [← hK]; exact Rep.cv cv_in (Rep.grow rv (Gr.same sm)), hx, fun d ρ' H' ge s' hd hda => ?_⟩
        rw [← hK] at s'
        have s2 : SR c M ρ' G1 H' := SR.out s'
        have hd1 : H1 d = none := by
          cases z : H1 d with
          | none => rfl
          | some o =>
            obtain ⟨o', y⟩ := ge.there d o (sm d o z)
            rw [hd] at y; cases y
        refine ⟨rfl, d, [(fld, v)], upd_same, by rw [upd_ne hda, upd_same], hd1, ?_⟩
        have hlook : ∀ b, b ≠ a → H1 b ≠ none → b ≠ d := fun b _ z y => z (y ▸ hd1)
        obtain ⟨HF, hHF⟩ : ∃ HF : Hp, HF = upd (del (upd (upd H' d (exd d [(fld, v)])) a (exo a (c.C cl) (some d))) a) d (.xd [(fld, v)]) := ⟨_, rfl⟩
        rw [← hHF]
        have hF : ∀ b o, b ≠ a → H' b = some o → HF b = some o := fun b o hb z => by
          have hbd : b ≠ d := fun y => by rw [y, hd] at z; cases z
          rw [hHF, upd_ne hbd, del_ne hb, upd_ne hb, upd_ne hbd]
          exact z
        have aρ : a ∉ ρ1 := fun hm' => by
          obtain ⟨i, hi⟩ := List.getElem?_of_mem hm'
          have hl : i < G1.length := by rw [← s.len]; exact (List.getElem?_eq_some_iff.mp hi).1
          cases hg' : G1[i] with
          | lst xs =>
            obtain ⟨b, ws, p', z, _⟩ := s.at_ i xs (by rw [List.getElem?_eq_getElem hl, hg'])
            rw [hi] at p'; cases p'
            rw [na] at z; cases z
          | tb k9 =>
            obtain ⟨p', ps9, z, _⟩ := s.tb i k9 (by rw [List.getElem?_eq_getElem hl, hg'])
            rw [hi] at p'; cases p'
            rw [na] at z; cases z
        have off : Off a H' HF := ⟨⟨_, _, _, ge.keep _ _ upd_same aρ⟩, hF⟩
        have nMa : ¬ M a := fun z => s.mt a z na
        have nBa : ¬ c.B a := fun z => s.bt a z na
        have sF : SR c M ρ' G1 HF := s2.off off nMa nBa
        have g1 : Ge M ρ1 H1 ρ' HF := by
          obtain ⟨ext, e1, e2⟩ := ge.grow
          refine ⟨fun b o z nb => ?_, fun b o z => ?_, ext, e1, fun b hb => ?_⟩
          · have hba : b ≠ a := fun y => by rw [y, na] at z; cases z
            exact hF b o hba (ge.keep b o (sm b o z) nb)
          · have hba : b ≠ a := fun y => by rw [y, na] at z; cases z
            obtain ⟨o', y⟩ := ge.there b o (sm b o z)
            exact ⟨o', hF b o' hba y⟩
          · have := e2 b hb
            by_cases hba : b = a
            · rw [hba, upd_same] at this; cases this
            · rw [upd_ne hba] at this; exact this
        refine q' M ρ' σ HF d [(fld, v)] (g.trans g1).gr (R.ge (g.trans g1) sF) (by rw [hHF, upd_same]) ⟨by simpa using hN.symm, .cons (Rep.grow rv g1.gr) .nil⟩
      · exact q'.elim
end
end DL
set_option Elab.async false
set_option linter.all false
set_option maxRecDepth 100000
set_option maxHeartbeats 4000000
/-! try .. except C as e; e.f; calls within an except suite. -/
namespace DL
open PySem L2 PyProof.Rows
/-- e.f of the error that slot i holds -/
def eXf (i : Nat) (cl : String) (j : Nat) : EM := fun env G => match env[i]? with
  | some (.exn k fs) => if k = cl then (match fs[j]? with
    | some x => .ok (.d x) G
    | none => .st) else .st
  | _ => .st
/-- holds no object of the frame's own -/
def plainS : Sl → Bool
  | .no => true
  | .ev _ => true
  | _ => false
def afterO (i : Nat) (o : OutS) : OutS := match o with
  | .nx env G => if (env.set i .no).all plainS = true then .nx (env.set i .no) G else .st
  | .bk env G => if (env.set i .no).all plainS = true then .bk (env.set i .no) G else .st
  | .ct env G => if (env.set i .no).all plainS = true then .ct (env.set i .no) G else .st
  | .rt e G => .rt e G
  | _ => .st
/-- try: mb, except as slot i: ms, where only the error cl comes -/
def sTryAs (i : Nat) (cl : String) (mb ms : SM) : SM := fun env G => match mb env G with
  | .er k fs env1 G1 => if k = cl ∧ env1.all plainS = true ∧ i < env1.length then afterO i (ms (env1.set i (.exn cl fs)) G1) else .st
  | o => o
section
variable {c : RC} {M M' : Addr → Prop} {ρ ρ' : List Addr} {G : GS} {env : En} {σ : L2.St} {H H' : Hp}
theorem rl_plain {c' : RC} (v : Cv c M c' M' ρ) (s : SR c' M' ρ G H) (R : Rl c M ρ G env σ H) (h : env.all plainS = true) : Rl c' M' ρ G env σ H := by
  obtain ⟨oa, h1, _⟩ := R.e
  refine ⟨s, R.len, oa, fun i sl e => ?_, fun i j o u e => ?_⟩
  · have hp := List.all_eq_true.mp h sl (List.mem_of_getElem? e)
    match sl, hp, h1 i sl e with
    | .no, _, _ => trivial
    | .ev x, _, ⟨u, a, b⟩ => exact ⟨u, a, b.cv v⟩
  · have hp := List.all_eq_true.mp h _ (List.mem_of_getElem? e)
    cases hp
/-- into the suite -/
theorem rl_suite {a dd : Addr} {cl : String} {fs : List D} {gs : List (Str × V)} {i : Nat} (R : Rl c M ρ G env σ H) (h : env.all plainS = true) (hx : H dd = some (.xd gs)) (f : Flds c M ρ H cl fs gs) (hi : i < σ.length) :
    Rl ⟨c.K, c.C, c.N, c.B, a, dd⟩ nM ρ G (env.set i (.exn cl fs)) (σ.set i (some (.ref a))) H := by
  have v : Cv c M ⟨c.K, c.C, c.N, c.B, a, dd⟩ nM ρ := ⟨rfl, rfl, rfl, fun b z => ⟨z.1, fun y => y, z.2.2⟩⟩
  have s : SR ⟨c.K, c.C, c.N, c.B, a, dd⟩ nM ρ G H := R.s.cv v (fun b hb => ⟨(R.s.sep b hb).1, fun z => z⟩) (fun _ z => z.elim) R.s.bt
  have nρ : dd ∉ ρ := fun hm => by
    obtain ⟨j, hj⟩ := List.getElem?_of_mem hm
    have hl : j < G.length := by rw [← R.s.len]; exact (List.getElem?_eq_some_iff.mp hj).1
    cases hg : G[j] with
    | lst xs =>
      obtain ⟨b, ws, p, z, _⟩ := R.s.at_ j xs (by rw [List.getElem?_eq_getElem hl, hg])
      rw [hj] at p; cases p
      rw [hx] at z; cases z
    | tb k9 =>
      obtain ⟨p, ps9, z, _⟩ := R.s.tb j k9 (by rw [List.getElem?_eq_getElem hl, hg])
      rw [hj] at p; cases p
      rw [hx] at z; cases z
  obtain ⟨oa, h1, _⟩ := R.e
  have R' := rl_plain v s R h
  obtain ⟨ob, h2, _⟩ := R'.e
  refine ⟨s, by simpa using R.len, ob, fun j sl e => ?_, fun j k o u e => ?_⟩
  · by_cases hj : j = i
    · subst hj
      have hl : j < env.length := by simpa using (List.getElem?_eq_some_iff.mp e).1
      rw [List.getElem?_set_self hl] at e; cases e
      exact ⟨List.getElem?_set_self hi, ⟨fun z => z, nρ⟩, gs, hx, flds_cv v f⟩
    · rw [List.getElem?_set_ne (Ne.symm hj)] at e
      have sg : (σ.set i (some (V.ref a)))[j]? = σ[j]? := List.getElem?_set_ne (Ne.symm hj)
      have hp := List.all_eq_true.mp h sl (List.mem_of_getElem? e)
      match sl, hp, h2 j sl e with
      | .no, _, _ => trivial
      | .ev x, _, ⟨u, p, q⟩ => exact ⟨u, by rw [sg]; exact p, q⟩
  · by_cases hj : j = i
    · subst hj
      have hl : j < env.length := by simpa using (List.getElem?_eq_some_iff.mp e).1
      rw [List.getElem?_set_self hl] at e; cases e
    · rw [List.getElem?_set_ne (Ne.symm hj)] at e
      have hp := List.all_eq_true.mp h _ (List.mem_of_getElem? e)
      cases hp
/-- out of it: the name goes -/
theorem rl_out {a dd : Addr} {i : Nat} (R : Rl ⟨c.K, c.C, c.N, c.B, a, dd⟩ M ρ G env σ H) (h : (env.set i .no).all plainS = true) : Rl c M ρ G (env.set i .no) (σ.set i none) H := by
  have v : Cv ⟨c.K, c.C, c.N, c.B, a, dd⟩ M c M ρ := ⟨rfl, rfl, rfl, fun b z => z⟩
  have s : SR c M ρ G H := R.s.cv v R.s.sep R.s.mt R.s.bt
  obtain ⟨oa, h1, _⟩ := R.e
  refine ⟨s, by simpa using R.len, oa, fun j sl e => ?_, fun j k o u e => ?_⟩
  · have hp := List.all_eq_true.mp h sl (List.mem_of_getElem? e)
    by_cases hj : j = i
    · subst hj
      have hl : j < env.length := by simpa using (List.getElem?_eq_some_iff.mp e).1
      rw [List.getElem?_set_self hl] at e; cases e
      trivial
    · rw [List.getElem?_set_ne (Ne.symm hj)] at e
      have sg : (σ.set i none)[j]? = σ[j]? := List.getElem?_set_ne (Ne.symm hj)
      match sl, hp, h1 j sl e with
      | .no, _, _ => trivial
      | .ev x, _, ⟨u, p, q⟩ => exact ⟨u, by rw [sg]; exact p, q.cv v⟩
  · have hp := List.all_eq_true.mp h _ (List.mem_of_getElem? e)
    cases hp
end
section
variable {X : Cx} {c : RC} {W : WX}
theorem takesS {a : Addr} {pn : List (Addr × Obj)} : L2N.Takes (X.suite a pn) W0 := fun u s' ⟨_, _, _, _, _, _, _, _, _, _, _, _, _, _, _, _, z⟩ => z
theorem de_xf {a dd : Addr} {oe : Obj} {pn : List (Addr × Obj)} {n en : Str} {i j : Nat} {cl : String} {p pos : Pos} (T : XfC X.K (c.C cl)) (hno : PySem.W.findIn X.K (.ref (c.C cl)) n = some none) (hix : ixf n (c.N cl) = some j)
    (hz : L2N.Zn (.ref (c.C cl)) (some dd) oe) (hf : ∃ vs, oe.data = .fields vs) (he : PE (X.suite a ((a, oe) :: pn)) (.Name en p) (tVar i)) (hb : attributeBase (.Name en p) n X.env (eval (.Name en p) X.env) = eval (.Name en p) X.env := by rfl) :
    DE (X.suite a ((a, oe) :: pn)) ⟨c.K, c.C, c.N, c.B, a, dd⟩ W (.Attribute (.Name en p) n pos) (eXf i cl j) := by
  refine pe_imp (pe_xf T hno hz.zc hf he hb) fun σ H Q q => ?_
  obtain ⟨M, ρ, G, env, R, q⟩ := q
  unfold eXf at q
  obtain ⟨oa, h1, _⟩ := R.e
  split at q
  · rename_i k fs hk
    split at q
    · rename_i hc
      subst hc
      split at q
      · rename_i x hx
        obtain ⟨hs, _, gs, hd, f⟩ := h1 i _ hk
        obtain ⟨v, hl, r⟩ := flds_get f hix hx
        exact ⟨_, hs, rfl, rfl, dd, gs, v, rfl, hd, hl, q.ok R.s r⟩
      · exact q.elim
    · exact q.elim
  · exact q.elim
theorem SQ.after {c' : RC} {a dd : Addr} {i : Nat} {M : Addr → Prop} {ρ : List Addr} {H : Hp} {o : OutS} {Dn : Ends} (h : SQ c W M ρ H (afterO i o) Dn) :
    SQ ⟨c.K, c.C, c.N, c.B, a, dd⟩ W0 nM ρ H o { nx := fun σ' H' => Dn.nx (σ'.set i none) H', rt := Dn.rt, bk := fun σ' H' => Dn.bk (σ'.set i none) H', ct := fun σ' H' => Dn.ct (σ'.set i none) H' } := by
  have gr : ∀ {M' : Addr → Prop} {ρ' : List Addr} {H' : Hp}, Gr nM ρ H M' ρ' H' → Gr M ρ H M' ρ' H' := fun g => ⟨fun a o e n _ => g.keep a o e n fun z => z, g.there, g.grow, fun a z => (g.mine a z).elim (fun y => y.elim) .inr⟩
  cases o with
  | nx env G =>
    have h' : SQ c W M ρ H (if (env.set i .no).all plainS = true then .nx (env.set i .no) G else .st) Dn := h
    split at h'
    · rename_i hp
      exact fun M' ρ' σ' H' g R => h' M' ρ' _ H' (gr g) (rl_out R hp)
    · exact h'.elim
  | bk env G =>
    have h' : SQ c W M ρ H (if (env.set i .no).all plainS = true then .bk (env.set i .no) G else .st) Dn := h
    split at h'
    · rename_i hp
      exact fun M' ρ' σ' H' g R => h' M' ρ' _ H' (gr g) (rl_out R hp)
    · exact h'.elim
  | ct env G =>
    have h' : SQ c W M ρ H (if (env.set i .no).all plainS = true then .ct (env.set i .no) G else .st) Dn := h
    split at h'
    · rename_i hp
      exact fun M' ρ' σ' H' g R => h' M' ρ' _ H' (gr g) (rl_out R hp)
    · exact h'.elim
  | rt e G => exact fun M' ρ' v H' g s r => h M' ρ' v H' (gr g) (SR.cv (c := ⟨c.K, c.C, c.N, c.B, a, dd⟩) (M := M') ⟨rfl, rfl, rfl, fun b z => z⟩ s s.sep s.mt s.bt) (RepE.cv (c := ⟨c.K, c.C, c.N, c.B, a, dd⟩) (M := M') (c' := c) (M' := M') ⟨rfl, rfl, rfl, fun b z => z⟩ r)
  | er cl fs e G => exact h.elim
  | st => exact h
theorem ds_tryas {x n : Str} {cl : String} {i : Nat} {body suite : List Stmt} {b₀ : Stmt} {np pos pos' : Pos} {mb ms : SM} {hc0 : Value} (hs : X.stack = X.env :: X.outer) (hf : X.env.frame = some X.env.locals) (hN : X.N.Nodup) (hi : X.N[i]? = some n) (hln : X.env.kindOf n = some .local)
    (hc : Names X x hc0) (tk : L2N.Takes X W) (hex : PySem.W.exmOne X.K (.ref (c.C cl)) hc0 = some true)
    (hb : ∀ (W : WX) (pn : List (Addr × Obj)) (xe : Value → Shared → Prop), L2N.Takes (X.tr pn xe) W → DSs (X.tr pn xe) c W body mb)
    (hsu : ∀ (a dd : Addr) (oe : Obj) (pn : List (Addr × Obj)), L2N.Zn (.ref (c.C cl)) (some dd) oe → (∃ vs, oe.data = .fields vs) → DSs (X.suite a ((a, oe) :: pn)) ⟨c.K, c.C, c.N, c.B, a, dd⟩ W0 (b₀ :: suite) ms) :
    DS X c W (.Try body [.ExceptHandler (some (.Name x np)) (some n) (b₀ :: suite) pos'] [] [] pos) (sTryAs i cl mb ms) := by
  have hps := L2N.ps_try_as (X := X) (x := x) (n := n) (c := hc0) (i := i) (body := body) (suite := suite) (b₀ := b₀) (np := np) (pos := pos) (pos' := pos') (Wout := W) (tb := fun W => tDS c W mb)
    (ts := fun a cls d Dn σ H => ∃ dd, cls = .ref (c.C cl) ∧ d = some dd ∧ tDS ⟨c.K, c.C, c.N, c.B, a, dd⟩ W0 ms Dn σ H) hs hf hN hi hln hc tk (fun W pn xe tk' _ => hb W pn xe tk') (fun a oe cls d pn hz hfl => ⟨fun pins s σ H D I q => ?_⟩)
  · refine ps_imp hps fun Dn σ H q => ?_
    obtain ⟨M, ρ, G, env, R, q⟩ := q
    refine ⟨M, ρ, G, env, R, ?_⟩
    unfold sTryAs at q
    cases hm : mb env G with
    | nx e G1 => rw [hm] at q; exact q
    | bk e G1 => rw [hm] at q; exact q
    | ct e G1 => rw [hm] at q; exact q
    | rt e G1 => rw [hm] at q; exact q
    | st => rw [hm] at q; exact q
    | er k fs env1 G1 =>
      rw [hm] at q
      have q' : SQ c W M ρ H (if k = cl ∧ env1.all plainS = true ∧ i < env1.length then afterO i (ms (env1.set i (.exn cl fs)) G1) else .st) Dn := q
      split at q'
      · rename_i hk
        obtain ⟨rfl, hp, hl⟩ := hk
        intro M' ρ' σ' H' dd gs g R' hx f
        refine ⟨true, hex, fun _ a na => ⟨dd, rfl, rfl, nM, ρ', G1, _, rl_suite R' hp hx f (Nat.lt_of_lt_of_le hl R'.len), SQ.after (c' := c) (SQ.grow q' g)⟩, fun z => by cases z⟩
      · exact q'.elim
  · obtain ⟨dd, rfl, rfl, q⟩ := q
    exact (hsu a dd oe pn hz hfl).run pins s σ H D I q
end
/-! ### defs called where an error is handled -/
open L2H in
abbrev FnGH (P : Program) (w : World) (K : PySem.W.Frag) (mg : Str → Option Value) (base : Heap) (C : String → Addr) (N : String → List Str) (k : Nat) (f : Addr) (n : Ar) (g : FM) : Prop := ∃ fd ps, Binds K fd ps [] ∧ L2H.FnH P w K mg base (L2N.CX P w) k f fd ps (Spd K C N n g)
section
variable {P : Program} {w : World} {K : PySem.W.Frag} {mg : Str → Option Value} {base : Heap} {C : String → Addr} {N : String → List Str}
theorem fngh_of {x qual : Str} {st : Stmt} {f : Addr} {fd : FuncData} {Nm ps : List Str} {k : Nat} {m : SM} (F : Fun K x qual st f fd) (S : FnScope Nm ps (defScope st)) (bd : Binds K fd ps [])
    (hb : ∀ (cdv : Value) (A : Around) (outer : List Env) (s : Shared) (H : Hp) (E : XK) (B : Addr → Prop) (p : Addr × Obj), L2H.RoomH k (A.deeper (envOfC qual (defScope st) s.heap.objs.size f cdv)) → L2H.Hot1 A p →
      DSs (L2H.cxH (L2N.CX P w) P w K mg base Nm qual (defScope st) f cdv A outer s H E p) ⟨K, C, N, B, 0, 0⟩ (fun cls d _ H => E cls d H) (defBody st) m) : FnGH P w K mg base C N (k + 1) f (arN ps.length) (runB Nm.length m) := by
  have hlN : ps.length ≤ Nm.length := by have := congrArg List.length S.pre; rw [List.length_take] at this; omega
  refine ⟨fd, ps, bd, ?_⟩
  obtain ⟨oc, od, kV, doc, pm, an, cdv, ct, osl, rfl, lk, hcd⟩ := F.ex
  refine L2H.fn_ofH lk hcd S (fun vs H Q E h => by simpa [arN] using h.1) fun A outer s H vs Q E p hot hr hsp => ?_
  obtain ⟨hl, B, ρ, G, es, s0, r, q⟩ := hsp
  exact ⟨_, hb cdv A outer s H E B p hr hot, nM, ρ, G, _, rl_start s0 r (by rw [show vs.length = ps.length by simpa [arN] using hl]; exact hlN), sq_of q⟩
end
section
variable {X : Cx} {c : RC} {W : WX} {e a b : Expr} {es : List Expr} {ma mb : EM} {mr : AM} {pos p : Pos}
theorem de_callH {x : Str} {k : Nat} {n : Ar} {f : Addr} {g : FM} (F : FnGH X.prog X.w X.K X.mg X.base c.C c.N k f n g) (hK : c.K = X.K) (hr : L2H.RoomH k X.A) (hh : L2H.HotC X) (hg : Gl X x) (hm : X.mg x = some (.ref f)) (hk : PySem.W.keepIn X.K (.ref f) = true) (tk : L2N.Takes X W) (ha : DA X c W (e :: es) mr)
    (hdb : (x == ("__debug__" : Str)) = false := by decide) (he : starEach (e :: es) X.env = (false, eval e X.env) :: starEach es X.env := by rfl) (hpl : (backTo pos (starEach es X.env)).any (·.1) = false := by rfl) :
    DE X c W (.Call (.Name x p) (e :: es) [] pos) (eCall n g mr) := by
  obtain ⟨fd, ps, bd, F⟩ := F
  refine ⟨fun pins s σ H Q I h => ?_⟩
  obtain ⟨M, ρ, G, env, R, q⟩ := h
  refine wpAny_Call_Name_kw (ld_glob I hg hm ?_ hdb)
  have h' : tDA c W mr σ H fun vs H1 => Spd c.K c.C c.N n g vs H1 Q (WE W σ) := ⟨M, ρ, G, env, R, (TQ.bind (R := RA c) q).imp fun v H1 ⟨ρ1, G1, e1, g1, s1, r1, q1⟩ => spd_of s1 r1 q1⟩
  refine PySem.W.callWith_K (h₀ := X.base) I.ok.mod.kin hk (thn (PA.run ha pos pins s σ H _ I h') fun us s1 ⟨vs, H1, I1, r, q⟩ => ⟨I1.kIn, ?_⟩) he hpl
  rw [hK] at q
  exact L2H.run_fnH (E := fun σ => WE W σ) F hr hh bd (L2N.passAt tk σ) I1 r q
/-- in the suite -/
theorem hot_suite {a : Addr} {oe : Obj} {cls : Value} {d : Option Addr} {pn : List (Addr × Obj)} (hz : L2N.Zn cls d oe) (hf : ∃ vs, oe.data = .fields vs) : L2H.HotC (X.suite a ((a, oe) :: pn)) := by
  obtain ⟨vs, hd⟩ := hf
  exact ⟨(a, oe), ⟨rfl, vs, hd, hz.2.2 vs hd⟩, List.mem_cons_self⟩
theorem room_suite {k : Nat} {a : Addr} {pn : List (Addr × Obj)} (r : Room k X.A) : L2H.RoomH k (X.suite a pn).A := ⟨r.dp, r.un⟩
end
end DL
set_option Elab.async false
set_option linter.all false
set_option maxRecDepth 100000
set_option maxHeartbeats 4000000
/-! what a printed text says of an own error of one field. -/
namespace DL
open PySem L2 PyProof.Rows NdefX
abbrev nfo (st : Stmt) (nm qual : Str) (cc c : Addr) : NF := ⟨nm, qual, defArgs st, defBody st, defScope st, [(("__class__" : Str), cc)], c⟩
structure ErrF (P : Program) (K : PySem.W.Frag) (mg : Str → Option Value) (Ca f : Addr) (fd : FuncData) (st : Stmt) (nm qual sf pf fld : Str) : Prop where
  ex : ∃ (cc c : Addr) (oc doc pm ctv : Value) (od : Option Addr) (osl : Array (Option Value)), fd = (nfo st nm qual cc c).fd doc pm ctv ∧ K.lookup f = some ⟨oc, od, .func ((nfo st nm qual cc c).fd doc pm ctv), osl⟩ ∧ PySem.W.codeIn K (.ref c) qual = true ∧ SX.SupF P K (nfo st nm qual cc c) f cc Ca sf
  T : OexC K Ca
  ini : PySem.W.findIn K (.ref Ca) "__init__" = some (some (.ref f))
  ty : PySem.W.typeIn K (.ref f) = some (.type "function")
  hst : PySem.W.nsIn K cStatics "thirdparty.any" = some none
  hsi : PySem.W.ks_superIn K Ca Ca "__init__" = some (some (.builtin "ValueError.__init__"))
  hsub : PySem.W.mroIn K Ca (.ref Ca) = some true
  hm : mg "super" = none
  hno : PySem.W.findIn K (.ref Ca) fld = some none
  bd : Binds K fd [sf, pf] []
  xf : XfC K Ca
theorem clsIn_of {K : PySem.W.Frag} {C : Addr} (T : OexC K C) : ∃ cd, PySem.W.clsIn K C = some cd := by
  obtain ⟨nm, q, N, bs, bm, sn, sub, ab, col, dd, k0, k1, k2, k3, k5, hC, hbm⟩ := T.cls
  exact ⟨_, by unfold PySem.W.clsIn; rw [hC] <;> rfl⟩
/-- the values whose text is short -/
def okI : D → Bool
  | .int i => decide (i.natAbs.log2 < 1920)
  | _ => false
theorem jsO_ok {env : En} {G : GS} : ∀ (ms : List EM) (acc : Str), (∀ m ∈ ms, ∃ y : Str, m env G = .ok (.d (.str y)) G ∧ y.length ≤ 2000) → acc.length + 2000 * ms.length ≤ 1000000 → ∃ z, jsO ms acc env G = .ok z G
  | [], acc, _, _ => ⟨acc, rfl⟩
  | m :: ms, acc, h, hl => by
    obtain ⟨y, hy, hyl⟩ := h m List.mem_cons_self
    have hla : (acc ++ y).length ≤ acc.length + 2000 := by rw [Str.length_append]; omega
    have hll : 2000 * (m :: ms).length = 2000 * ms.length + 2000 := by simp [Nat.mul_add]
    obtain ⟨z, hz⟩ := jsO_ok ms (acc ++ y) (fun m' hm => h m' (List.mem_cons_of_mem _ hm)) (by omega)
    refine ⟨z, ?_⟩
    unfold jsO
    rw [hy]
    show (if (acc ++ y).length ≤ 1000000 then jsO ms (acc ++ y) env G else .st) = _
    rw [if_pos (by omega), hz]
theorem eJs_ok {env : En} {G : GS} {ms : List EM} (h : ∀ m ∈ ms, ∃ y : Str, m env G = .ok (.d (.str y)) G ∧ y.length ≤ 2000) (hl : ms.length ≤ 100) : ∃ y, eJs ms env G = .ok y G := by
  obtain ⟨z, hz⟩ := jsO_ok ms Str.empty h (by have : Str.empty.length = 0 := rfl; omega)
  exact ⟨_, by unfold eJs; rw [hz]; rfl⟩
theorem fmt_ok {i : Int} {env : En} {G : GS} {j : Nat} (he : env[j]? = some (.ev (.d (.int i)))) (hi : i.natAbs.log2 < 1920) : ∃ y : Str, eUn fFmt (eVar j) env G = .ok (.d (.str y)) G ∧ y.length ≤ 2000 := by
  refine ⟨toString i, ?_, Nat.le_trans (PyProof.Rows.int_text_len_1921 hi) (by decide)⟩
  unfold eUn eVar
  rw [he]
  show lift (fFmt (.d (.int i)) G) = _
  unfold fFmt pure1
  show lift ((if i.natAbs.log2 < 1920 then some (D.str (toString i)) else none).map fun z => (EV.d z, G)) = _
  rw [if_pos hi]
  rfl
theorem str_ok {x : Str} {env : En} {G : GS} (h : x.length ≤ 2000 := by decide) : ∃ y : Str, eC (.str x) env G = .ok (.d (.str y)) G ∧ y.length ≤ 2000 := ⟨x, rfl, h⟩
section
variable {P : Program} {w : World} {K : PySem.W.Frag} {mg : Str → Option Value} {base : Heap} {Cf : String → Addr} {Nf : String → List Str} {N : List Str} {f : Addr} {sf pf fld nm qual : Str} {cn : String} {fd : FuncData} {st : Stmt}
theorem err_ok {p0 p1 ap pos pos2 q1 q2 q3 pos3 : Pos} {e : Expr} {m : EM} {ok : D → Bool} (T : ErrF P K mg (Cf cn) f fd st nm qual sf pf fld) (Sc : NScope N [sf, pf] [("__class__" : Str)] (defScope st))
    (hbody : defBody st = [.Expr (.Call (.Attribute (.Call (.Name "super" p0) [] [] p1) "__init__" ap) [e] [] pos) pos2, .Assign [.Attribute (.Name sf q1) fld q2] (.Name pf q3) pos3])
    (he : ∀ (cc c : Addr) (A : Around) (outer : List Env) (s : Shared) (H : Hp) (E : XK) (B : Addr → Prop), DE (ncx (L2N.CX P w) P w K mg base N (nfo st nm qual cc c) f A outer s H E) ⟨K, Cf, Nf, B, 0, 0⟩ (fun cls d _ H => E cls d H) e m)
    (hok : ∀ x G, ok x = true → ∃ y, m (Sl.no :: Sl.ev (.d x) :: List.replicate (N.length - 2) Sl.no) G = .ok y G) (d1 : (sf == ("__debug__" : Str)) = false := by decide) (d2 : (sf == ("__classdict__" : Str)) = false := by decide) (d3 : (pf == ("__debug__" : Str)) = false := by decide) (d4 : (pf == ("__classdict__" : Str)) = false := by decide)
    (nd : pf ≠ sf := by decide) (hstar : ∀ env, starEach [e] env = (false, eval e env) :: starEach [] env := by intro _; rfl) {pl : Env → Sem Bool}
    (hev : ∀ env, eval (.Call (.Attribute (.Call (.Name "super" p0) [] [] p1) "__init__" ap) [e] [] pos) env = (do
      let ov ← attributeBase (.Call (.Name "super" p0) [] [] p1) "__init__" env (eval (.Call (.Name "super" p0) [] [] p1) env)
      standAt ap.atName
      let (f', first) ← holding [ov] (getMethod ov "__init__" (pl env))
      callWith pos f' first (backTo pos (starEach [e] env)) []) := by intro _; rfl)
    (hsw : ∀ env, swapsWith (.Call (.Attribute (.Call (.Name "super" p0) [] [] p1) "__init__" ap) [e] [] pos) none pos2.line env = pure false := by intro _; rfl) : FnOk P w K mg base (L2N.CX P w) 1 f fd [sf, pf] (SpE K Cf Nf cn fld ok) := by
  obtain ⟨cc, c, oc, doc, pm, ctv, od, osl, rfl, lk, hcd, S⟩ := T.ex
  exact fn_err1 (k := 0) S lk hcd Sc T.T T.hst T.hsi T.hsub T.hm T.hno hbody (he cc c) hok d1 d2 d3 d4 nd hstar hev hsw
end
theorem roomH_units {k : Nat} {A : Around} (r : L2H.RoomH k A) : A.units + 64 < cLine := by have := r.un; omega
end DL
namespace L2H
theorem RoomH.units {k : Nat} {A : PySem.Around} (r : RoomH k A) : A.units + 64 < PySem.cLine := DL.roomH_units r
end L2H
set_option Elab.async false
set_option linter.all false
set_option maxRecDepth 100000
set_option maxHeartbeats 4000000
/-! isinstance(e, C) of the error that a suite handles. -/
namespace DL
open PySem L2 PyProof.Rows
end DL
set_option Elab.async false
set_option linter.all false
set_option maxRecDepth 100000
set_option maxHeartbeats 4000000
/-! names in a chain, pairs unpacked, instances called, a class in a variable called. -/
namespace DL
open PySem L2 PyProof.Rows StX ClX
/-! ### x = y = e -/
def sSet2 (i j : Nat) (m : EM) : SM := fun env G => ofE (m env G) env fun e G1 => .nx ((env.set i (.ev e)).set j (.ev e)) G1
/-- (x, y, ..) = e: one slot after another -/
def setAll : List Nat → List D → En → Option En
  | [], [], env => some env
  | i :: is, x :: xs, env => setAll is xs (env.set i (.ev (.d x)))
  | _, _, _ => none
def sUnp (is : List Nat) (m : EM) : SM := fun env G => ofE (m env G) env fun e G1 => match e with
  | .d (.tup xs) => (match setAll is xs env with
    | some env' => .nx env' G1
    | none => .st)
  | _ => .st
section
variable {X : Cx} {c : RC} {W : WX} {e t1 t2 : Expr} {es : List Expr} {me : EM} {pos : Pos}
/-- names as targets -/
def gNames : List Nat → TGs
  | [] => gNil
  | i :: is => gCons (gName i) (gNames is)
theorem gnames_run {M : Addr → Prop} {ρ : List Addr} {G : GS} {H : Hp} {Q : L2.St → Hp → Prop} : ∀ (is : List Nat) (xs : List D) (vs : List V) (env env' : En) (σ : L2.St), Rl c M ρ G env σ H → All2 (Rep c M ρ H) xs vs → setAll is xs env = some env' →
    (∀ σ', Rl c M ρ G env' σ' H → Q σ' H) → gNames is vs σ H Q
  | [], [], _, env, env', σ, R, .nil, h, k => by
    cases h
    exact ⟨rfl, k σ R⟩
  | i :: is, x :: xs, _, env, env', σ, R, .cons (b := v) r t, h, k => by
    refine ⟨v, _, rfl, ?_⟩
    exact gnames_run is xs _ (env.set i (.ev (.d x))) env' (σ.set i (some v)) (R.set (x := .d x) r) t h k
  | [], _ :: _, _, _, _, _, _, _, h, _ => by cases h
  | _ :: _, [], _, _, _, _, _, _, h, _ => by cases h
theorem ds_unp {is : List Nat} {n k : Nat} {pt : Pos} (hc : X.calm = true) (hK : c.K = X.K) (he : DE X c W e me) (hg : PGs X es (gNames is)) (hl : is.length = n) (hn : (assignEach es X.env).length = n := by rfl) (hst : (assignEach es X.env).findIdx? (·.1) = none := by rfl)
    (hs : swapsWithSole [.Tuple es k pt] e pos.line X.env = pure false := by rfl) (hw : swappedStores [.Tuple es k pt] e X.env = pure none := by rfl) (h1 : (assignEach [.Tuple es k pt] X.env).map (·.2) = [assign (.Tuple es k pt) X.env] := by rfl) :
    DS X c W (.Assign [.Tuple es k pt] e pos) (sUnp is me) := by
  refine ps_imp (ps_asg he (pg_tup (n := n) hc hg hn hst) hs hw h1) fun Dn σ H q => ?_
  obtain ⟨M, ρ, G, env, R, q⟩ := q
  refine ⟨M, ρ, G, env, R, (SQ.ofE (R := RE c) R q).imp fun v H1 ⟨ρ1, G1, e1, g1, R1, r1, q1⟩ => ?_⟩
  split at q1
  · rename_i xs
    split at q1
    · rename_i env' hx
      obtain ⟨a, vs, rfl, z, rr⟩ := Rep.of_tup r1
      have len : ∀ (is : List Nat) (xs : List D) (env env' : En), setAll is xs env = some env' → xs.length = is.length := by
        intro is
        induction is with
        | nil => intro xs env env' h; cases xs <;> first | rfl | cases h
        | cons i is ih => intro xs env env' h; cases xs with
          | nil => cases h
          | cons x xs => simp [ih xs _ _ h]
      refine ⟨a, vs, rfl, by rw [← hK]; exact z.sq, by rw [← rr.length, len _ _ _ _ hx, hl], gnames_run is xs vs env env' σ R1 rr hx fun σ' R' => ?_⟩
      exact q1 M ρ1 σ' H1 Gr.refl R'
    · exact q1.elim
  · exact q1.elim
end
/-! ### instances called -/
def eCallO (ms : List (String × (Ar × FM))) (mo : EM) (r : AM) : EM := eMeth ms mo r
section
variable {X : Cx} {c : RC} {W : WX} {e fe : Expr} {es : List Expr} {me mf : EM} {mr : AM} {pos p : Pos} {lv : Nat} {ms : List (String × (Ar × FM))}
/-- cls(..), the class in slot i -/
def eMakeV (i : Nat) (cl : String) (A : Ar) (g : IM) (r : AM) : EM := fun env G => match env[i]? with
  | some (.ev (.d (.cls k))) => if k = cl then eMake cl A g r env G else .st
  | _ => .st
end
end DL
set_option Elab.async false
set_option linter.all false
set_option maxRecDepth 100000
set_option maxHeartbeats 4000000
/-! keywords; super().__init__(..) of a plain class. -/
namespace DL
open PySem L2 PyProof.Rows StX ClX NdefX
/-- n written values, then k keywords' values -/
def aApp (n k : Nat) (a b : AM) : AM := fun env G => (a env G).bind fun xs G1 => (b env G1).bind fun ys G2 => if xs.length = n ∧ ys.length = k then .ok (xs ++ ys) G2 else .st
/-! ### super().m(.., k = v) -/
/-! ### super().__init__(.., k = v) -/
end DL
set_option Elab.async false
set_option linter.all false
set_option maxRecDepth 100000
set_option maxHeartbeats 4000000
/-! own truth in a test; texts in a tuple of texts. -/
namespace DL
open PySem PySem.Calls PySem.Spec L2 PyProof.Rows StX ClX
def truO (cl : String) (A : Ar) (g : FM) : EV → GS → Option (Bool × GS) := fun e G => match e with
  | .d (.ins k fs) => if k = cl ∧ A 1 = true then (match g [.d (.ins k fs)] G with
    | .ok (.d (.bl b)) G' => some (b, G')
    | _ => none) else none
  | _ => none
def texts : List DL.D → Option (List Str)
  | [] => some []
  | .str x :: r => (texts r).map (x :: ·)
  | _ => none
section
variable {X : Cx} {c : RC} {M : Addr → Prop} {ρ : List Addr} {H : Hp}
theorem texts_of : ∀ {xs : List DL.D} {zs : List Str} {vs : List V}, texts xs = some zs → All2 (Rep c M ρ H) xs vs → vs = zs.map V.str
  | [], _, _, h, .nil => by cases h; rfl
  | .str x :: r, zs, _, h, .cons r1 t => by
    unfold texts at h
    cases hr : texts r with
    | none => rw [hr] at h; cases h
    | some ys =>
      rw [hr] at h
      cases h
      rw [r1.of_str, texts_of hr t]
      rfl
  | .non :: _, _, _, h, _ => by cases h
  | .bl _ :: _, _, _, h, _ => by cases h
  | .int _ :: _, _, _, h, _ => by cases h
  | .tup _ :: _, _, _, h, _ => by cases h
  | .lst _ :: _, _, _, h, _ => by cases h
  | .ins _ _ :: _, _, _, h, _ => by cases h
  | .cls _ :: _, _, _, h, _ => by cases h
  | .ty _ :: _, _, _, h, _ => by cases h
theorem any_str {x : Str} : ∀ zs : List Str, inV (.str x) (zs.map V.str) = zs.any (· == x)
  | [] => rfl
  | z :: zs => by
    have h := any_str (x := x) zs
    unfold inV at h ⊢
    rw [List.map_cons, List.any_cons, List.any_cons, h]
    rfl
theorem flat_str : ∀ zs : List Str, (zs.map V.str).all flatV = true
  | [] => rfl
  | z :: zs => by rw [List.map_cons, List.all_cons, flat_str zs]; rfl
def gInS (neg : Bool) : DL.D → DL.D → Option DL.D
  | .str x, .lst xs => (texts xs).map fun zs => .bl (zs.any (· == x) != neg)
  | .str x, .tup xs => (texts xs).map fun zs => .bl (zs.any (· == x) != neg)
  | _, _ => none
theorem ins_core {neg : Bool} {a b z : DL.D} {x y : V} {G : GS} {Q : VK} (hK : c.K = X.K) (s : SR c M ρ G H) (ra : Rep c M ρ H a x) (rb : Rep c M ρ H b y) (hz : gInS neg a b = some z) (q : ∀ (v : V) (H' : Hp), Same H H' → Rep c M ρ H' z v → Q v H') : rIn X.K neg x y H Q := by
  unfold gInS at hz
  split at hz
  · rename_i t xs
    cases hi : texts xs with
    | none => rw [hi] at hz; cases hz
    | some zs =>
      rw [hi] at hz
      cases hz
      obtain ⟨p, vs, rfl, z, rr⟩ := Rep.of_lst rb
      have ev := texts_of hi rr
      subst ev
      refine ⟨p, _, rfl, .inl (by rw [← hK]; exact z.sq), by rw [ra.of_str]; rfl, flat_str _, ?_⟩
      rw [ra.of_str, any_str]
      cases neg with
      | true => rw [if_pos rfl, show (!zs.any (· == t)) = (zs.any (· == t) != true) by cases zs.any (· == t) <;> rfl]; exact q _ _ same_refl .bl
      | false => rw [if_neg Bool.false_ne_true]; rw [show zs.any (· == t) = (zs.any (· == t) != false) by cases zs.any (· == t) <;> rfl]; exact q _ _ same_refl .bl
  · rename_i t xs
    cases hi : texts xs with
    | none => rw [hi] at hz; cases hz
    | some zs =>
      rw [hi] at hz
      cases hz
      obtain ⟨p, vs, rfl, z, rr⟩ := Rep.of_tup rb
      have ev := texts_of hi rr
      subst ev
      refine ⟨p, _, rfl, .inr (by rw [← hK]; exact z.sq), by rw [ra.of_str]; rfl, flat_str _, ?_⟩
      rw [ra.of_str, any_str]
      cases neg with
      | true => rw [if_pos rfl, show (!zs.any (· == t)) = (zs.any (· == t) != true) by cases zs.any (· == t) <;> rfl]; exact q _ _ same_refl .bl
      | false => rw [if_neg Bool.false_ne_true]; rw [show zs.any (· == t) = (zs.any (· == t) != false) by cases zs.any (· == t) <;> rfl]; exact q _ _ same_refl .bl
  · cases hz
def fNotInS : F2 := pure2 (gInS true)
theorem dop_notinS (hK : c.K = X.K) : OpR X (compareOp .NotIn) (V2 c fNotInS) := opr_imp op_notIn_seq fun x y H Q q0 => by
  obtain ⟨M, ρ, G, a, b, z, s, ra, rb, hz, q⟩ := v2_pure q0
  exact ins_core hK s ra rb hz q
end
end DL
set_option Elab.async false
set_option linter.all false
set_option maxRecDepth 100000
set_option maxHeartbeats 4000000
/-! what a printed text says of defs with keyword-only parameters, of an __init__ that says super(). -/
namespace DL
open PySem L2 PyProof.Rows StX ClX NdefX
end DL
set_option Elab.async false
set_option linter.all false
set_option maxRecDepth 100000
set_option maxHeartbeats 4000000
namespace DL
open PySem L2 PyProof.Rows StX ClX NdefX
end DL
set_option Elab.async false
set_option linter.all false
set_option maxRecDepth 100000
set_option maxHeartbeats 4000000
/-! tuples cut and joined; == of own classes that share their __eq__, with a plain value at the right -/
namespace DL
open PySem L2 PyProof.Rows StX ClX NdefX
section
variable {X : Cx} {c : RC} {W : WX} {e : Expr} {me : EM} {pos p2 : Pos} {M : Addr → Prop} {ρ : List Addr} {σ : L2.St} {H : Hp} {G : GS} {lv : Nat} {A : Ar} {g : FM} {f : Addr}
def eSlT (m : EM) (lo hi : OM) : EM := fun env G => (m env G).bind fun x G1 => (lo env G1).bind fun l G2 => (hi env G2).bind fun h G3 => match x with
  | .d (.tup xs) => .ok (.d (.tup (cutL xs l h))) G3
  | _ => .st
theorem all2_app {α β : Type} {R : α → β → Prop} : ∀ {xs : List α} {ys : List β} {us : List α} {vs : List β}, All2 R xs ys → All2 R us vs → All2 R (xs ++ us) (ys ++ vs)
  | _, _, _, _, .nil, k => k
  | _, _, _, _, .cons h t, k => .cons h (all2_app t k)
end
end DL
set_option Elab.async false
set_option linter.all false
set_option maxRecDepth 100000
set_option maxHeartbeats 4000000
/-! == of tuples that hold own instances -/
namespace DL
open PySem PySem.Calls PySem.Spec L2 PyProof.Rows StX ClX NdefX
end DL
set_option Elab.async false
set_option linter.all false
set_option maxRecDepth 100000
set_option maxHeartbeats 4000000
namespace DL
open PySem L2 PyProof.Rows StX ClX
/-! ### the frame's own lists -/
section
variable {X : Cx} {c : RC} {W : WX} {e o a : Expr} {es : List Expr} {sts : List Stmt} {me mi : EM} {mr : AM} {mb : SM} {pos p p2 apos : Pos} {M : Addr → Prop} {ρ : List Addr} {σ : L2.St} {H : Hp} {G : GS} {env : En}
/-- from here on the list is read alone -/
def frzE (i : Nat) (env : En) : En := match (env[i]? : Option Sl) with
  | some (.own (.lst xs)) => env.set i (.ev (.d (.lst xs)))
  | _ => env
def sFrz (i : Nat) (m : SM) : SM := fun env G => m (frzE i env) G
abbrev FM' := En → GS → Out (List D × GS)
def sOwn (i : Nat) (m : FM') : SM := fun env G => ofE (m env G) env fun p _ => .nx (env.set i (.own (.lst p.1))) p.2
def nLst (r : AM) : FM' := fun env G => (r env G).bind fun xs G1 => match datas xs with
  | some ds => if ds.length ≤ lstMax then .ok (ds, G1) G1 else .st
  | none => .st
def nLc (k : Nat) (vs : List Nat) (mr : LM) (mt : BM) (me : EM) : FM' := eLcG (fun ys G => .ok (ys, G) G) k vs mr mt me
end
end DL
set_option Elab.async false
set_option linter.all false
set_option maxRecDepth 100000
set_option maxHeartbeats 4000000
namespace DL
open PySem L2 PyProof.Rows StX ClX
def oL (i : Nat) (env : En) : Option (List D) := match (env[i]? : Option Sl) with
  | some (.own (.lst xs)) => some xs
  | _ => none
section
variable {X : Cx} {c : RC} {W : WX} {e o a : Expr} {es : List Expr} {sts : List Stmt} {me mi : EM} {mr : AM} {mb : SM} {pos p p2 apos : Pos} {M : Addr → Prop} {ρ : List Addr} {σ : L2.St} {H : Hp} {G : GS} {env : En}
/-- one value handed in -/
theorem tq_one {Q : List V → Hp → Prop} (h : TQ (RE c) c W M ρ σ H (me env G) fun v H1 => Q [v] H1) : TQ (RA c) c W M ρ σ H (aCons me aNil env G) Q := by
  unfold aCons
  cases hm : me env G with
  | st => rw [hm] at h; exact h
  | er cl fs G1 => rw [hm] at h; exact h
  | ok x G1 =>
    rw [hm] at h
    intro vs ρ1 H1 g s r
    cases r with
    | cons r t => cases t; exact h _ ρ1 H1 g s r
/-- x.append(e) -/
def sApp (i : Nat) (m : EM) : SM := fun env G => match oL i env with
  | some xs => ofE (m env G) env fun e G1 => (match e with
    | .d x => if xs.length < lstMax then .nx (env.set i (.own (.lst (xs ++ [x])))) G1 else .st
    | _ => .st)
  | none => .st
/-- x[i] = e -/
def sOSub (i : Nat) (mi me : EM) : SM := fun env G => match oL i env with
  | some xs => ofE (me env G) env fun x G1 => ofE (mi env G1) env fun j G2 => (match x, j with
    | .d x, .d (.int j) => (match ixN xs.length j with
      | some j => .nx (env.set i (.own (.lst (xs.set j x)))) G2
      | none => .st)
    | _, _ => .st)
  | none => .st
/-- x[e] -/
def eOIx (i : Nat) (mi : EM) : EM := fun env G => match oL i env with
  | some xs => (mi env G).bind fun j G1 => (match j with
    | .d (.int j) => (match atI xs j with
      | some x => .ok (.d x) G1
      | none => .st)
    | _ => .st)
  | none => .st
/-- len(x) -/
def eOLen (i : Nat) : EM := fun env G => match oL i env with
  | some xs => .ok (.d (.int xs.length)) G
  | none => .st
/-- list(e), its value new -/
def lOf : List EV → Option (List D)
  | [.d (.lst ds)] => some ds
  | [.d (.tup ds)] => some ds
  | _ => none
def nList (r : AM) : FM' := fun env G => (r env G).bind fun xs G1 => match lOf xs with
  | some ds => .ok (ds, G1) G1
  | none => .st
end
end DL
set_option Elab.async false
set_option linter.all false
set_option maxRecDepth 100000
set_option maxHeartbeats 4000000
/-! texts: {x!r}, {x} of an own class -/
namespace DL
open PySem PySem.Calls PySem.Spec L2 PyProof.Rows StX ClX
section
variable {P : Program} {w : World} {K : PySem.W.Frag} {mg : Str → Option Value} {base : Heap} {C : String → Addr} {N : String → List Str} {j k : Nat} {f : Addr} {sp : Sp} {CX : CXT} {m : Str} {cl : String} {A : Ar} {g : FM}
theorem fnr_up (F : FnR P w K mg base CX j f sp) (h : j ≤ k) : FnR P w K mg base CX k f sp := fun A outer s H us vs Q E hr => F A outer s H us vs Q E (hr.mono h)
theorem HasM.up (h : HasM P w K mg base C N j m cl A g) (hk : j ≤ k) : HasM P w K mg base C N k m cl A g := ⟨h.cl, h.no, let ⟨f, a, b⟩ := h.fn; ⟨f, a, fnr_up b hk⟩⟩
end
end DL
set_option Elab.async false
set_option linter.all false
set_option maxRecDepth 100000
set_option maxHeartbeats 4000000
/-! keyword-only defaults left out, methods and defs called with keywords, properties -/
namespace DL
open PySem L2 PyProof.Rows StX ClX
def dflF (ds : List D) (g : FM) : FM := fun es G => g (es ++ ds.map EV.d) G
def dflI (ds : List D) (g : IM) : IM := fun es G => g (es ++ ds.map EV.d) G
section
variable {X : Cx} {c : RC} {W : WX} {e o : Expr} {es : List Expr} {kws : List Keyword} {me mo : EM} {mr mk : AM} {pos p apos : Pos} {M : Addr → Prop} {ρ : List Addr} {σ : L2.St} {H : Hp} {G : GS} {env : En} {pl : Sem Bool} {lv : Nat} {m : Str}
/-- o.m(e, .., k = v, ..) -/
def eMethK (cl : String) (A : Ar) (g : FM) (mo : EM) (r : AM) : EM := fun env G => (mo env G).bind fun x G1 => match x with
  | .d (.ins k fs) => if k = cl then (r env G1).bind fun xs G2 => if A (xs.length + 1) = true then g (.d (.ins k fs) :: xs) G2 else .st else .st
  | _ => .st
/-- o.p, a property -/
def eProp (cl : String) (A : Ar) (g : FM) (mo : EM) : EM := fun env G => (mo env G).bind fun x G1 => match x with
  | .d (.ins k fs) => if k = cl ∧ A 1 = true then lift (toOpt (g [.d (.ins k fs)] G1)) else .st
  | _ => .st
end
end DL
set_option Elab.async false
set_option linter.all false
set_option maxRecDepth 100000
set_option maxHeartbeats 4000000
/-! try with several clauses `except C as e`: each error that can come is told with the clause that takes it -/
namespace DL
open PySem L2 PyProof.Rows
abbrev TEnt := String × Nat × SM
/-- try: mb, the errors that can come with slot and suite -/
def sTryN (T : List TEnt) (mb : SM) : SM := fun env G => match mb env G with
  | .er k fs env1 G1 => match T.find? fun t => t.1 == k with
    | some t => if env1.all plainS = true ∧ t.2.1 < env1.length then afterO t.2.1 (t.2.2 (env1.set t.2.1 (.exn k fs)) G1) else .st
    | none => .st
  | o => o
end DL
set_option Elab.async false
set_option linter.all false
set_option maxRecDepth 100000
set_option maxHeartbeats 4000000
/-! list + list; `not x` of an own class as a value -/
namespace DL
open PySem L2 PyProof.Rows StX ClX
section
variable {X : Cx} {c : RC} {W : WX} {e : Expr} {me : EM} {cl : String} {A : Ar} {g : FM} {f : Addr} {lv : Nat} {pos : Pos}
/-- not x, x of an own class with its own truth -/
def eNotO (cl : String) (A : Ar) (g : FM) (me : EM) : EM := fun env G => (me env G).bind fun x G1 => match truO cl A g x G1 with
  | some (b, G2) => .ok (.d (.bl (!b))) G2
  | none => .st
end
end DL
set_option Elab.async false
set_option linter.all false
set_option maxRecDepth 100000
set_option maxHeartbeats 4000000
/-! texts by signs: iterated, asked for a sign, sliced, indexed; an own list asked for a text -/
namespace DL
open PySem L2 PyProof.Rows StX ClX
def chD (x : Str) : List D := x.cps.toList.map fun c => .str ⟨#[c]⟩
def lStr (m : EM) : LM := fun env G => (m env G).bind fun e G1 => match e with
  | .d (.str x) => .ok (chD x) G1
  | _ => .st
section
variable {X : Cx} {c : RC} {W : WX} {e a b tg : Expr} {me ma mb : EM} {pos p2 : Pos} {M : Addr → Prop} {ρ : List Addr} {σ : L2.St} {H : Hp} {G : GS}
theorem itr_str {x : Str} : ItR c M ρ (Its x) (chD x) H := fun M2 ρ2 H2 g2 i => by
  refine ⟨fun d hd => ?_, fun hl => ?_⟩
  · unfold chD at hd
    rw [List.getElem?_map] at hd
    cases e : x.cps.toList[i]? with
    | none => rw [e] at hd; cases hd
    | some c0 =>
      rw [e] at hd
      cases hd
      have e' : x.cps[i]? = some c0 := by rw [← Array.getElem?_toList]; exact e
      obtain ⟨hi, _⟩ := Array.getElem?_eq_some_iff.mp e'
      refine ⟨hi, fun v H3 ⟨e3, c1, e1, ev⟩ => ?_⟩
      subst e3
      rw [e'] at e1
      cases e1
      subst ev
      exact ⟨same_refl, Rep.str⟩
  · show x.cps.size ≤ i
    simpa [chD] using hl
theorem di_str (he : DE X c W e me) : DI X c W tg e (lStr me) := by
  refine pi_imp (pi_str he) fun σ H R q => ?_
  obtain ⟨M, ρ, G, env, R0, q⟩ := q
  refine ⟨M, ρ, G, env, R0, (tdi_of (Rr := RE c) R0 q (fun x G1 => ?_)).imp fun v H1 ⟨ρ1, G1, x, ds, g, s, r, hd, hJ⟩ => ?_⟩
  · skip
    split
    · exact .inl ⟨_, rfl⟩
    · exact .inr rfl
  · skip
    split at hd
    · rename_i x
      injection hd with hd _
      subst hd
      exact ⟨x, Rep.of_str r, hJ _ itr_str⟩
    · cases hd
/-- s[i] -/
def fIxT : F2 := fun x y G => match x, y with
  | .d (.str z), .d (.int i) => if z.length ≤ lstMax then (match atI z.cps.toList i with
    | some c => some (.d (.str ⟨#[c]⟩), G)
    | none => none) else none
  | _, _ => none
theorem dixT : IxR X (V2 c fIxT) := by
  intro value slice pins s σ H x y v u Q I rx ry ⟨M, ρ, G, a, b, sr, ra, rb, q⟩ hs
  unfold fIxT at q
  split at q
  · rename_i z i
    cases Rep.of_str ra
    cases Rep.of_int rb
    split at q
    · rename_i hl
      cases hz : atI z.cps.toList i with
      | none => rw [hz] at q; exact q.elim
      | some c0 =>
        rw [hz] at q
        exact ix_str value slice pins s σ H _ _ v u Q I rx ry ⟨z, i, c0, rfl, rfl, lst_ok hl, hz, q _ ρ H Ge.refl sr Rep.str⟩ hs
    · exact q.elim
  · exact q.elim
/-- s[lo:hi] -/
def eSlS (m : EM) (lo hi : OM) : EM := fun env G => (m env G).bind fun x G1 => (lo env G1).bind fun l G2 => (hi env G2).bind fun h G3 => match x with
  | .d (.str z) => if z.length ≤ lstMax then .ok (.d (.str (cutS z l h))) G3 else .st
  | _ => .st
theorem de_slS {lo hi : Option Expr} {ml mh : OM} (he : DE X c W e me) (hl : DO X c W lo ml) (hh : DO X c W hi mh) : DE X c W (.Subscript e (.Slice lo hi none p2) pos) (eSlS me ml mh) := by
  refine pe_imp (pe_slice sl_str he hl hh) fun σ H Q q => ?_
  obtain ⟨M, ρ, G, env, R, q⟩ := q
  refine ⟨M, ρ, G, env, R, (TQ.bind (R := RE c) q).imp fun v H1 ⟨ρ1, G1, e1, g1, s1, r1, q1⟩ => ?_⟩
  refine ⟨M, ρ1, G1, env, R.ge g1 s1, (TQ.bind (R := RO) q1).imp fun l H2 ⟨ρ2, G2, l', g2, s2, r2, q2⟩ => ?_⟩
  refine ⟨M, ρ2, G2, env, (R.ge g1 s1).ge g2 s2, (TQ.bind (R := RO) q2).imp fun h H3 ⟨ρ3, G3, h', g3, s3, r3, q3⟩ => ?_⟩
  obtain rfl : l = l' := r2.symm
  obtain rfl : h = h' := r3.symm
  split at q3
  · split at q3
    · rename_i hz
      exact ⟨_, Rep.of_str r1, lst_ok hz, q3.ok s3 Rep.str⟩
    · exact q3.elim
  · exact q3.elim
end
end DL
set_option Elab.async false
set_option linter.all false
set_option maxRecDepth 100000
set_option maxHeartbeats 4000000
/-! cls(*xs) -/
namespace DL
open PySem L2 PyProof.Rows StX ClX
end DL
set_option Elab.async false
set_option linter.all false
set_option maxRecDepth 100000
set_option maxHeartbeats 4000000
/-! sorted of texts -/
namespace DL
open PySem PySem.Spec L2 PyProof.Rows StX ClX
end DL
set_option Elab.async false
set_option linter.all false
set_option maxRecDepth 100000
set_option maxHeartbeats 4000000
/-! sets of keys that can be walked: any kind of key -/
namespace DL
open PySem PySem.Spec L2 PyProof.Rows StX ClX
/-- one more key -/
def putL {K : Type} [DecidableEq K] (l : List K) (k : K) : List K := if k ∈ l then l else l ++ [k]
def ddp {K : Type} [DecidableEq K] (l : List K) : List K := l.foldl putL []
section
variable {P : Program} {w : World} {K : Type} [DecidableEq K] {knd : PySem.KeyKind P w K}
structure Ent (knd : PySem.KeyKind P w K) (k : K) (e : Int × Value) : Prop where
  is : knd.is k e.2 = true
  hash : e.1 = knd.hash k
  scan : e.2.scannable = true
/-- entries and a table for the keys l -/
structure KTab (knd : PySem.KeyKind P w K) (l : List K) (es : Array (Int × Value)) (t : SetTable) : Prop where
  ents : ∃ l0 : List K, l0.Perm l ∧ All2 (Ent knd) l0 es.toList
  nd : l.Nodup
  few : l.length < scanBound
  fits : t.fits es.size = true
  up : Ris t.place.toList
  led : w.params.followText "set-order" = true ∨ t.led = true
/-- the set at a -/
def KSet (knd : PySem.KeyKind P w K) (h : Heap) (a : Addr) (l : List K) : Prop := ∃ o es ep t, h.get? a = some o ∧ o.ExactSet ∧ o.data = .set es ep t ∧ KTab knd l es t
variable {l : List K} {es : Array (Int × Value)} {t : SetTable}
theorem KTab.size (T : KTab knd l es t) : es.size = l.length := by
  obtain ⟨l0, p, h⟩ := T.ents
  rw [← Array.length_toList, ← h.length, p.length_eq]
theorem KTab.plain (T : KTab knd l es t) (b : Bool) : KTab knd l es (if b = true then t else { t with plain := false }) := by
  cases b
  · exact ⟨T.ents, T.nd, T.few, SetTable.fits_plain_off T.fits, T.up, T.led⟩
  · exact T
variable {A : Around} {E : Value → Shared → Prop} {s : Shared} {a : Addr}
end
end DL
set_option Elab.async false
set_option linter.all false
set_option maxRecDepth 100000
set_option maxHeartbeats 4000000
/-! set comprehensions of ints and texts, sorted of such a set -/
namespace DL
open PySem PySem.Spec L2 PyProof.Rows StX ClX PpSet
/-- the set of the keys l at a, as a tracked thing -/
def KSO (P : Program) (w : World) (a : Addr) (l : List Key) : HO := .ext fun h => KSet (mixKind P w) h a l
end DL
set_option Elab.async false
set_option linter.all false
set_option maxRecDepth 100000
set_option maxHeartbeats 4000000
/-! sorted of a set of texts; a set comprehension inside sorted -/
namespace DL
open PySem PySem.Spec L2 PyProof.Rows StX ClX PpSet
end DL
set_option Elab.async false
set_option linter.all false
set_option maxRecDepth 100000
set_option maxHeartbeats 4000000
/-! sorted({text for x in xs if ..}) -/
namespace DL
open PySem L2 PyProof.Rows StX ClX
section
variable {X : Cx} {c : RC} {W : WX} {elt e tg : Expr} {ifs : List Expr} {mr : LM} {mt : BM} {me : EM} {pos p : Pos} {M : Addr → Prop} {ρ : List Addr} {σ : L2.St} {H : Hp} {G : GS} {scope : Scope} {own : List (Str × Nat)} {k : Nat} {P : Program} {w : World}
/-- while the new set at D grows -/
structure KcI (P : Program) (w : World) (c : RC) (M : Addr → Prop) (ρ1 : List Addr) (H1 : Hp) (D : Addr) (ρ' : List Addr) (G' : GS) (envw : En) (σw : L2.St) (H : Hp) (done : List Str) : Prop where
  g : Ge M ρ1 H1 ρ' H
  nd : D ∉ ρ'
  s : SR c (fun a => M a ∨ a = D) ρ' G' H
  len : envw.length ≤ σw.length
  e : ∃ oa : Nat → Addr, (∀ (i : Nat) (sl : Sl), envw[i]? = some sl → SlR c (fun a => M a ∨ a = D) ρ' H oa σw i sl) ∧ (∀ (i j : Nat) (o u : OW), envw[i]? = some (.own o) → envw[j]? = some (.own u) → oa i = oa j → i = j) ∧ ∀ (i : Nat) (o : OW), envw[i]? = some (.own o) → oa i ≠ D
  at_ : H D = some (KSO P w D ((ddp done).map Sum.inr))
theorem KcI.r {ρ1 : List Addr} {H1 : Hp} {D : Addr} {ρ' : List Addr} {G' : GS} {envw : En} {σw : L2.St} {done : List Str} (L : KcI P w c M ρ1 H1 D ρ' G' envw σw H done) : Rl c (fun a => M a ∨ a = D) ρ' G' envw σw H :=
  let ⟨oa, h1, h2, _⟩ := L.e; ⟨L.s, L.len, oa, h1, h2⟩
end
end DL
set_option Elab.async false
set_option linter.all false
set_option maxRecDepth 100000
set_option maxHeartbeats 4000000
/-! sorted({text for x in xs if ..}): the rule -/
namespace DL
open PySem L2 PyProof.Rows StX ClX
end DL
set_option Elab.async false
set_option linter.all false
set_option maxRecDepth 100000
set_option maxHeartbeats 4000000
/-! set(xs) of a list or a tuple of keys; sorted(set(xs)) -/
namespace DL
open PySem PySem.Spec L2 PyProof.Rows StX ClX PpSet
end DL
set_option Elab.async false
set_option linter.all false
set_option maxRecDepth 100000
set_option maxHeartbeats 4000000
/-! sorted(set(xs)) of texts -/
namespace DL
open PySem PySem.Spec L2 PyProof.Rows StX ClX PpSet
end DL
set_option Elab.async false
set_option linter.all false
set_option maxRecDepth 100000
set_option maxHeartbeats 4000000
/-! starred arguments anywhere, of lists of the store too; makes with them -/
namespace DL
open PySem L2 PyProof.Rows StX ClX
def aStX (m : EM) (r : AM) : AM := fun env G => (m env G).bind fun x G1 => match x with
  | .d (.tup xs) => (r env G1).bind fun ys G2 => .ok (xs.map .d ++ ys) G2
  | .d (.lst xs) => (r env G1).bind fun ys G2 => .ok (xs.map .d ++ ys) G2
  | .o k => (match (G1[k]? : Option GO) with
    | some (GO.lst xs) => (r env G1).bind fun ys G2 => .ok (xs ++ ys) G2
    | _ => .st)
  | _ => .st
section
variable {X : Cx} {c : RC} {W : WX} {e e2 : Expr} {es : List Expr} {me : EM} {mr : AM} {pos p sp_ : Pos}
variable {x : Str} {cl : String} {A : Ar} {g : IM} {k i : Nat} {f : Addr}
/-- what a make with all of a list or a tuple needs -/
theorem star_tdX {M : Addr → Prop} {ρ : List Addr} {G : GS} {env : En} {σ : L2.St} {H : Hp} {Q : VK} (hK : c.K = X.K) (R : Rl c M ρ G env σ H) (q : TQ (RE c) c W M ρ σ H (eMake cl A g (aStX me aNil) env G) Q) :
    tD c W me σ H fun y H1 => ∃ a xs, y = V.ref a ∧ (SqT X.K H1 a xs ∨ SqL X.K H1 a xs) ∧ ∀ x dx, H1 x = Option.none → H1 dx = Option.none → dx ≠ x → SpI c.K c.C c.N cl A g (V.ref x :: xs) (upd (upd H1 dx (.own x)) x (.ins (c.C cl) dx [])) (fun v H2 => v = .non ∧ Q (.ref x) H2) (WE W σ) := by
  refine ⟨M, ρ, G, env, R, ?_⟩
  have q' := TQ.bind (R := RA c) q
  refine (TQ.bind (R := RE c) q').imp fun v H1 ⟨ρ1, G1, e1, g1, s1, r1, q1⟩ => ?_
  rw [← hK]
  have go : ∀ {xs : List EV} {vs : List V}, All2 (RepE c M ρ1 H1) xs vs → TQ (RA c) c W M ρ1 σ H1 ((aNil env G1).bind fun ys G2 => .ok (xs ++ ys) G2) (fun vs H2 => ∃ ρ2 G2 e2, Ge M ρ H ρ2 H2 ∧ SR c M ρ2 G2 H2 ∧ RA c M ρ2 H2 e2 vs ∧ TQ (RE c) c W M ρ2 σ H2 (if A e2.length = true then mkO cl (g e2 G2) else .st) Q) →
      ∀ x dx, H1 x = Option.none → H1 dx = Option.none → dx ≠ x → SpI c.K c.C c.N cl A g (V.ref x :: vs) (upd (upd H1 dx (.own x)) x (.ins (c.C cl) dx [])) (fun v H2 => v = .non ∧ Q (.ref x) H2) (WE W σ) := fun {xs vs} rr q1 x dx hx hd hne => by
    obtain ⟨ρ2, G2, e2, g2, s2, r2, q2⟩ := q1 vs ρ1 H1 Ge.refl s1 (by rw [List.append_nil]; exact rr)
    exact spi_of s2 r2 q2 hx hd hne
  split at q1
  · rename_i xs
    obtain ⟨a, vs, rfl, z, rr⟩ := Rep.of_tup r1
    exact ⟨a, vs, rfl, .inl z.sq, go (map_d rr) q1⟩
  · rename_i xs
    obtain ⟨a, vs, rfl, z, rr⟩ := Rep.of_lst r1
    exact ⟨a, vs, rfl, .inr z.sq, go (map_d rr) q1⟩
  · rename_i k
    split at q1
    · rename_i xs hk
      obtain ⟨a, ha, rfl⟩ := r1
      obtain ⟨b, vs, hb, hL, rr⟩ := s1.at_ k xs hk
      rw [ha] at hb
      cases hb
      exact ⟨a, vs, rfl, .inr (.inl (.inl hL)), go rr q1⟩
    · exact q1.elim
  · exact q1.elim
theorem de_makeVX {i k : Nat} {sp_ : Pos} (Mc : Mk X.K (c.C cl) f) (F : FnI X.prog X.w X.K X.mg X.base c.C c.N k f cl A g) (hK : c.K = X.K) (hr : Room (k + 1) X.A) (tk : L2N.Takes X W) (hv : PE X (.Name x p) (tVar i)) (he : DE X c W e me)
    (ht : eval (.Call (.Name x p) [.Starred e sp_] [] pos) X.env = (do callWith pos (← eval (.Name x p) X.env) [] (backTo pos (starEach [.Starred e sp_] X.env)) (backToKw pos (keywordEach [] X.env))) := by rfl)
    (hst : starEach [.Starred e sp_] X.env = [(true, eval e X.env)] := by rfl) : DE X c W (.Call (.Name x p) [.Starred e sp_] [] pos) (eMakeV i cl A g (aStX me aNil)) := by
  refine ⟨fun pins s σ H Q I h => ?_⟩
  obtain ⟨M, ρ, G, env, R, q⟩ := h
  unfold eMakeV at q
  obtain ⟨oa, h1, _⟩ := R.e
  split at q
  · rename_i k' hk
    split at q
    · rename_i hcl
      subst hcl
      obtain ⟨v, hs, r⟩ := h1 i _ hk
      obtain rfl := Rep.of_cls r
      have t0 : tVar i σ H fun y H1 => y = .ref (c.C k') ∧ H1 = H := ⟨_, hs, rfl, rfl⟩
      refine Call_ (thn (hv.run pins s σ H _ I t0) fun u s1 ⟨y, H1, I1, ry, ey, eh⟩ => ?_) ht
      subst ey eh
      obtain rfl : u = Value.ref (c.C k') := ry
      refine PySem.W.callWith_S (h₀ := X.base) I.ok.mod.kin Mc.kp (thn (PE.run he pins s1 σ H1 _ I1 (star_tdX hK R q)) fun v s2 ⟨y, H2, I2, ry, a, xs, ey, hxs, q2⟩ => ?_) hst
      subst ey
      obtain rfl : v = Value.ref a := ry
      refine star_any I2 hxs fun us s3 I3 rv => ⟨I3.kIn, ?_⟩
      rw [hK] at q2
      exact run_makeA Mc F hr (L2N.passAt tk σ) I3 rv q2
    · exact q.elim
  · exact q.elim
end
end DL
set_option Elab.async false
set_option linter.all false
set_option maxRecDepth 100000
set_option maxHeartbeats 4000000
/-! append to a list of the store -/
namespace DL
open PySem L2 PyProof.Rows StX ClX
section
variable {X : Cx} {c : RC} {W : WX} {e o : Expr} {me mo : EM} {pos p p2 apos : Pos} {M : Addr → Prop} {ρ : List Addr} {σ : L2.St} {H : Hp} {G : GS}
theorem sr_lay {k : Nat} {xs ys : List EV} {vs us : List V} {a : Addr} (s : SR c M ρ G H) (hk : G[k]? = some (GO.lst xs)) (ha : ρ[k]? = some a) (hH : H a = some (.lst vs)) (rr : All2 (RepE c M ρ H) ys us) :
    Ge M ρ H ρ (upd H a (.lst us)) ∧ SR c M ρ (G.set k (GO.lst ys)) (upd H a (.lst us)) := by
  have hm := List.mem_of_getElem? ha
  have g : Ge M ρ H ρ (upd H a (.lst us)) := ⟨fun b o e n => by rw [upd_ne (fun z => n (by rw [z]; exact hm))]; exact e, fun b o e => by
    by_cases h : b = a
    · exact ⟨_, by rw [h]; exact upd_same⟩
    · exact ⟨o, by rw [upd_ne h]; exact e⟩, [], by simp, by simp⟩
  have alive : ∀ b, H b ≠ none → (upd H a (.lst us)) b ≠ none := fun b h => by
    by_cases hb : b = a
    · rw [hb, upd_same]; simp
    · rw [upd_ne hb]; exact h
  refine ⟨g, by rw [List.length_set]; exact s.len, s.nd, s.sep, fun i zs e => ?_, fun b m => alive b (s.mt b m), fun b m => alive b (s.bt b m), fun i q e => by
      have ne : k ≠ i := fun z => by subst z; rw [List.getElem?_set_self (List.getElem?_eq_some_iff.mp hk).1] at e; cases e
      rw [List.getElem?_set_ne ne] at e
      obtain ⟨p, t⟩ := s.tb i q e
      exact ⟨p, tabs_upd t hH (fun _ z => by cases z) fun _ => lst_code⟩⟩
  by_cases hi : k = i
  · subst hi
    rw [List.getElem?_set_self (List.getElem?_eq_some_iff.mp hk).1] at e
    cases e
    exact ⟨a, _, ha, upd_same, repEs_grow rr g.gr⟩
  · rw [List.getElem?_set_ne hi] at e
    obtain ⟨b, ws, h1, h2, h3⟩ := s.at_ i zs e
    have hb : b ≠ a := fun z => hi (by
      subst z
      exact (List.getElem_inj s.nd).mp ((List.getElem?_eq_some_iff.mp ha).2.trans (List.getElem?_eq_some_iff.mp h1).2.symm))
    exact ⟨b, ws, h1, by rw [upd_ne hb]; exact h2, repEs_grow h3 g.gr⟩
def sAppS (mo me : EM) : SM := fun env G => ofE (mo env G) env fun o G1 => match o with
  | .o k => (match (G1[k]? : Option GO) with
    | some (GO.lst _) => ofE (me env G1) env fun x G2 => (match (G2[k]? : Option GO) with
      | some (GO.lst xs) => if xs.length < lstMax then .nx env (G2.set k (GO.lst (xs ++ [x]))) else .st
      | _ => .st)
    | _ => .st)
  | _ => .st
theorem ds_appS (ho : DE X c W o mo) (he : DE X c W e me)
    (hbase : attributeBase o "append" X.env (eval o X.env) = eval o X.env := by rfl)
    (hfew : ((backTo p2 (starEach [e] X.env)).all (fun x => !x.1) && (backToKw p2 (keywordEach [] X.env)).all (fun x => x.1.isSome)
      && decide ([e].length + ([] : List Keyword).length + (if ([] : List Keyword).isEmpty then 0 else 1) < 30)) = true := by rfl)
    (hline : (apos.endLine == p2.line) = true := by rfl) (hs : starEach [e] X.env = (false, eval e X.env) :: starEach [] X.env := by rfl) (hplain : (backTo p2 (starEach [] X.env)).any (·.1) = false := by rfl)
    (hsw : swapsWith (.Call (.Attribute o "append" apos) [e] [] p2) none pos.line X.env = pure false := by rfl) :
    DS X c W (.Expr (.Call (.Attribute o "append" apos) [e] [] p2) pos) (sAppS mo me) := by
  refine ps_imp (ps_expr (pe_bm PySem.F.plainAttrs_list PySem.F.slot_list_append PySem.F.type_list_append mt_append ho (da_cons he da_nil hs) hbase hfew hline hs hplain) hsw) fun Dn σ H q => ?_
  obtain ⟨M, ρ, G, env, R, q⟩ := q
  refine ⟨M, ρ, G, env, R, (SQ.ofE (R := RE c) R q).imp fun v H1 ⟨ρ1, G1, o1, g1, R1, r1, q1⟩ => ?_⟩
  cases o1 with
  | d z => exact (show False from q1).elim
  | o k =>
    have q2 : SQ c W M ρ1 H1 (match (G1[k]? : Option GO) with
      | some (GO.lst _) => ofE (me env G1) env fun x G2 => (match (G2[k]? : Option GO) with
        | some (GO.lst xs) => if xs.length < lstMax then .nx env (G2.set k (GO.lst (xs ++ [x]))) else .st
        | _ => .st)
      | _ => .st) Dn := q1
    split at q2
    · rename_i xs0 hx0
      obtain ⟨a, ha, rfl⟩ := r1
      obtain ⟨a', vs0, ha', hH0, rr0⟩ := R1.s.at_ k xs0 hx0
      rw [ha] at ha'
      cases ha'
      refine ⟨.inl ⟨rfl, vs0, .inl (.inl hH0)⟩, M, ρ1, G1, env, R1, tq_one ((SQ.ofE (R := RE c) R1 q2).imp fun u H2 ⟨ρ2, G2, x2, g2, R2, r2, q3⟩ => ?_)⟩
      split at q3
      · rename_i xs hx
        split at q3
        · rename_i hl
          obtain ⟨ext, e1, _⟩ := g2.grow
          have ha2 : ρ2[k]? = some a := by rw [e1, List.getElem?_append_left (List.getElem?_eq_some_iff.mp ha).1]; exact ha
          obtain ⟨a3, vs, ha3, hH, rr⟩ := R2.s.at_ k xs hx
          rw [ha2] at ha3
          cases ha3
          obtain ⟨g3, s3⟩ := sr_lay (ys := xs ++ [x2]) (us := vs ++ [u]) R2.s hx ha2 hH (rr.append (.cons r2 .nil))
          exact ⟨a, vs, u, rfl, rfl, hH, by rw [← rr.length]; exact Nat.lt_of_lt_of_le hl (by decide), q3 M ρ2 σ _ g3.gr (R2.ge g3 s3)⟩
        · exact q3.elim
      · exact q3.elim
    · exact q2.elim
end
end DL
set_option Elab.async false
set_option linter.all false
set_option maxRecDepth 100000
set_option maxHeartbeats 4000000
/-! x[i], x of an own class -/
namespace DL
open PySem L2 PyProof.Rows StX ClX
def eGetO (cl : String) (A : Ar) (g : FM) (mo mi : EM) : EM := fun env G => (mo env G).bind fun x G1 => (mi env G1).bind fun y G2 => match x with
  | .d (.ins k fs) => if k = cl ∧ A 2 = true then g [.d (.ins k fs), y] G2 else .st
  | _ => .st
end DL
set_option Elab.async false
set_option linter.all false
set_option maxRecDepth 100000
set_option maxHeartbeats 4000000
/-! slices of lists, tuples, texts in one rule -/
namespace DL
open PySem L2 PyProof.Rows StX ClX
def slD : DL.D → Option Int → Option Int → Option DL.D
  | .lst xs, l, h => some (.lst (cutL xs l h))
  | .tup xs, l, h => some (.tup (cutL xs l h))
  | .str z, l, h => if z.length ≤ lstMax then some (.str (cutS z l h)) else none
  | _, _, _ => none
def eSlA (m : EM) (lo hi : OM) : EM := fun env G => (m env G).bind fun x G1 => (lo env G1).bind fun l G2 => (hi env G2).bind fun h G3 => match x with
  | .d x => (match slD x l h with
    | some y => .ok (.d y) G3
    | none => .st)
  | _ => .st
end DL
set_option Elab.async false
set_option linter.all false
set_option maxRecDepth 100000
set_option maxHeartbeats 4000000
/-! tuple == tuple of own instances whose data differ at any depth -/
namespace DL
open PySem PySem.Spec L2 PyProof.Rows StX ClX
end DL
set_option Elab.async false
set_option linter.all false
set_option maxRecDepth 100000
set_option maxHeartbeats 4000000
/-! enumerate of a list or a tuple; pairs as targets of for and of a comprehension -/
namespace DL
open PySem PySem.Spec L2 PyProof.Rows StX ClX
set_option maxHeartbeats 1000000 in
theorem en1_new {v : Value} {o : Obj} {Fh : Heap → Prop} (B : Begins v o Fh) :
    Meets (Builtin.«enumerate.__new__» ⟨[.type "enumerate", v], []⟩) (fun _ R s => Fh s.heap ∧
      R (.ok (.ret (.ref (s.heap.push o).objs.size))) { s with heap := (s.heap.push o).push { cls := .type "enumerate", data := .fields #[.none, .bool false, .ref s.heap.objs.size, rawInt 0, .none, .none] } }) :=
  .of_wp fun prog w A R s h => by
    obtain ⟨hp, gn, dr, tk, os⟩ := s; obtain ⟨h1, h⟩ := h
    have hs := sub_enumerate
    have qi : ∀ {A2 : Around} {E2 : Value → Shared → Prop} {Q2 : Value → Shared → Prop}, Q2 (.ref hp.objs.size) ⟨hp.push o, gn, dr, tk, os⟩ → wpAny (model prog w) A2 (pyIter v) Q2 E2 ⟨hp, gn, dr, tk, os⟩ :=
      fun q => B.iter prog w _ _ ⟨hp, gn, dr, tk, os⟩ _ h1 q
    wp_walk using qi
    refine wpAny_stack_any fun _ => wpAny_pure ?_
    split
    · rename_i c _ _ _ _ _
      cases (c == Value.type "enumerate") <;> (wp_walk using qi; exact ⟨_, rfl, h⟩)
    · wp_walk using qi
      exact ⟨_, rfl, h⟩
theorem en1_call {prog : Program} {w : World} {A : Around} {E : Value → Shared → Prop} {s : Shared} {v : Value} {o : Obj} {Fh : Heap → Prop} {Q : Value → Shared → Prop} (B : Begins v o Fh) (h1 : Fh s.heap)
    (h : ∀ h', IsEnum h' (s.heap.objs.size + 1) s.heap.objs.size 0 .none → h'.get? s.heap.objs.size = some o → (∀ b o, s.heap.get? b = some o → h'.get? b = some o) → Q (.ref (s.heap.objs.size + 1)) { s with heap := h' }) :
    wpAny (model prog w) A (call (.type "enumerate") [v]) Q E s := by
  refine callType_new F.called_enumerate (by decide) (F.typeCall_enumerate_1 _) (F.newCall_enumerate_1 _) (fun obj => F.args_object_init_2 obj _) F.entry_enumerate_new (en1_new B) ⟨h1, ?_⟩
  have z : (s.heap.push o).objs.size = s.heap.objs.size + 1 := Heap.size_push ..
  show _ ∧ _
  rw [z]
  have he : IsEnum ((s.heap.push o).push { cls := .type "enumerate", data := .fields #[.none, .bool false, .ref s.heap.objs.size, rawInt 0, .none, .none] }) (s.heap.objs.size + 1) s.heap.objs.size 0 .none := by
    have a := Heap.get?_push_size (s.heap.push o) (o := { cls := .type "enumerate", data := .fields #[.none, .bool false, .ref s.heap.objs.size, rawInt 0, .none, .none] }) rfl
    rw [z] at a
    exact a
  exact ⟨⟨_, he, rfl⟩, h _ he (Heap.get?_push_of_some _ (Heap.get?_push_size _ B.free)) fun b o x => Heap.get?_push_of_some _ (Heap.get?_push_of_some _ x)⟩
/-- the tuple at a as it stands at each turn, each item in a new pair -/
def ItT (K : PySem.W.Frag) (a : Addr) : It :=
  ⟨fun i H => ∃ (xs : List V) (x : V), SqT K H a xs ∧ xs[i]? = some x, fun i H v H' => ∃ T x, v = .ref T ∧ H T = none ∧ H' = upd H T (.tup [.int (i : Nat), x]) ∧ ∀ xs, SqT K H a xs → xs[i]? = some x, fun i H => ∃ xs : List V, SqT K H a xs ∧ xs.length ≤ i⟩
theorem draws_stop {prog : Program} {w : World} {A : Around} (hh : A.handled = none) (it t : Addr) (items : Array Value) (n : Nat) (hn : items[n]? = none) :
    Draws prog w A it [it, t] n (fun _ _ => False) (fun i h => i = n ∧ h.IsTupleIter it t i ∧ h.IsTuple t items) where
  live := fun _ _ st => let ⟨o, ho, _⟩ := st.2.1; ⟨o, ho⟩
  frame := fun _ _ _ st hk => ⟨st.1, st.2.1.at fun o e => hk it (by simp) o e, st.2.2.at fun o e => hk t (by simp) o e⟩
  item := fun i s Q E hi st _ => absurd st.1 (Nat.ne_of_lt hi)
  done := fun s Q E st hE => PySem.wpAny_nextOf_tuple_end hh st.2.1 st.2.2 hn hE
theorem turn_enT {P : Program} {w : World} {K : PySem.W.Frag} {elts : List Expr} {kk : Nat} {tpos : Pos} (a e it : Addr) :
    Turn P w K (.Tuple elts kk tpos) (ItT K a) [e, it] e (fun i h => (∃ old, IsEnum h e it ((i : Nat) : Int) old) ∧ h.IsTupleIter it a i ∧ e ≠ it) where
  mem := by simp
  obj := fun i h st b hb => by
    obtain ⟨⟨old, he⟩, ⟨o, ho, hc, hd⟩, _⟩ := st
    have e' : b = e ∨ b = it := by simpa using hb
    rcases e' with z | z
    · rw [z]; exact ⟨_, he, fun v q => nomatch q⟩
    · rw [z]; exact ⟨o, ho, fun v q => by rw [hd] at q; cases q⟩
  keep := fun i h h' st k => let ⟨⟨old, he⟩, hi, hne⟩ := st; ⟨⟨old, k e (by simp) _ he⟩, hi.at fun o q => k it (by simp) o q, hne⟩
  item := by
    intro X hP hw hK hc i pins s σ H E I hf st hg
    subst hP hw hK
    obtain ⟨⟨old, he⟩, hit, hne⟩ := st
    obtain ⟨xs, x, hq, hx⟩ := hg
    obtain ⟨its, rv, p, _⟩ := I.tuple hq
    obtain ⟨u, hu, ru⟩ := rv.get hx
    have p : s.heap.IsTuple a its.toArray := p
    obtain ⟨oa, ha, hca, hda⟩ := id p
    obtain ⟨oi, hi, hci, hdi⟩ := id hit
    have nai : a ≠ it := fun z => by
      subst z
      rw [ha] at hi
      cases hi
      rw [hca] at hci
      exact absurd hci (by decide +kernel)
    have nea : e ≠ a := fun z => by
      subst z
      have q : s.heap.get? e = _ := he
      rw [ha] at q
      cases q
      exact absurd (show Value.type "enumerate" = Value.type "tuple" from hca) (by decide +kernel)
    have hel : e < s.heap.objs.size := Heap.lt_size he
    have hil : it < s.heap.objs.size := Heap.lt_size hi
    have hlt : i < its.toArray.size := by
      rw [List.size_toArray, ← rv.length]
      exact (List.getElem?_eq_some_iff.mp hx).1
    refine wpAny_pyNext_enum_itemC (Draws.tuple (A := X.A.in1) (I.ok.hd hc) it a nai its.toArray) he ⟨hit, p⟩ hlt hne (by simp [hne, nea]) fun x2 h' tk hP ho hst hT hsz hk => ?_
    obtain ⟨hit', _⟩ := hst
    have ex2 : x2 = u := by
      have h1 : its.toArray[i]? = some x2 := hP
      rw [show its.toArray[i]? = some u by simpa using hu] at h1
      cases h1
      rfl
    subst ex2
    refine ⟨_, rfl, wpAny_letOwnedTupleGo_enum (s := { s with heap := h', toks := tk + 1 }) ho fun h'' he' sb => ?_⟩
    have hT2 : h''.get? s.heap.objs.size = some { cls := .type "tuple", data := .seq #[.int i tk, x2] } := (sb.2 _ (Nat.ne_of_gt hel)).trans hT
    have new : ObjOk X.prog X.w (upd H s.heap.objs.size (.tup [.int (i : Nat), x])) h'' s.heap.objs.size (.tup [.int (i : Nat), x]) :=
      ⟨by show 2 ≤ sizeLine; decide, [.int i tk, x2], .cons ⟨_, rfl⟩ (.cons ru .nil), ⟨_, hT2, rfl, _, rfl⟩⟩
    have I1 : Inv X pins σ (upd H s.heap.objs.size (.tup [.int (i : Nat), x])) { s with heap := h'', toks := tk + 1 } :=
      I.turnedNew (ch := [e, it]) (fun b ob hb q => (sb.2 b (fun z => hb (by simp [z]))).trans (hk b ob (fun z => hb (by simp [z])) (fun z => hb (by simp [z])) q)) hf (Nat.le_refl _) new
    refine ⟨.ref s.heap.objs.size, _, I1, rfl, ⟨_, x, rfl, I.hok.fresh (Nat.le_refl _), rfl, fun ys hy => by rw [I.tuple_inj hy hq]; exact hx⟩, ⟨⟨x2, ?_⟩, hit'.at fun o q => (sb.2 it (Ne.symm hne)).trans q, hne⟩, fun b hb => ?_⟩
    · have e1 : ((i + 1 : Nat) : Int) = (i : Int) + 1 := by omega
      rw [e1]; exact he'
    · have hb' : b < s.heap.objs.size := by
        have e' : b = e ∨ b = it := by simpa using hb
        rcases e' with z | z
        · rw [z]; exact hel
        · rw [z]; exact hil
      rw [upd_ne (Nat.ne_of_lt hb')]
      exact (hf b hb).1
  done := by
    intro X hP hw hK hc i pins s σ H E I hf st hg
    subst hP hw hK
    obtain ⟨⟨old, he⟩, hit, hne⟩ := st
    obtain ⟨xs, hq, hx⟩ := hg
    obtain ⟨its, rv, p, _⟩ := I.tuple hq
    obtain ⟨f0, f1, f2, f3, f4, f5⟩ := hf it (by simp)
    have hl := rv.length
    exact wpAny_pyNext_enum_endD (draws_stop (A := X.A.in1) (I.ok.hd hc) it a its.toArray i (by simp; omega)) he ⟨rfl, hit, (show s.heap.IsTuple a its.toArray from p)⟩ fun h' eb => ⟨rfl, I.turned (t' := s.toks) (fun b o hb q => eb b o hb q) f0 f1 f3 f4 f5⟩
  self := fun A i s Q E st h => let ⟨⟨_, he⟩, _⟩ := st; wpAny_pyIter_enum he h
def iEnA (K : PySem.W.Frag) (ta : TA) : TI := fun σ H R => ta σ H fun vs H1 => ∃ a xs, vs = [.ref a] ∧ SqT K H1 a xs ∧ R (ItT K a) H1
theorem pi_enT {X : Cx} {e : Expr} {ta : TA} {p pos tpos : Pos} {elts : List Expr} {kk : Nat} (hg : Gl X "enumerate") (hm : X.mg "enumerate" = none) (ha : PA X [e] ta) (hs : starEach [e] X.env = [(false, eval e X.env)] := by rfl) :
    PI X (.Tuple elts kk tpos) (.Call (.Name "enumerate" p) [e] [] pos) (iEnA X.K ta) := by
  refine ⟨fun pins s σ H R I h => ?_⟩
  refine Call_ (ld_blt I hg hm boot_enumerate (PyProof.Rows.callWith_type1 (thn (ha.run pos pins s σ H _ I h) fun us s1 ⟨vs, H1, I1, r1, q1⟩ => ?_) hs rfl))
  obtain ⟨a, xs, ex, hq, q⟩ := q1
  subst ex
  cases r1 with
  | cons r rr =>
    cases rr
    cases r
    obtain ⟨its, rv, p', _⟩ := I1.tuple hq
    have p' : s1.heap.IsTuple a its.toArray := p'
    refine en1_call (begins_tuple a its.toArray) p' fun h' he hit hk => wpAny_pyIter_enum he ?_
    have I2 : Inv X pins σ H1 { s1 with heap := h' } := I1.kept (t' := s1.toks) hk
    refine ⟨s1.heap.objs.size + 1, [s1.heap.objs.size + 1, s1.heap.objs.size], _, _, H1, rfl, I2, turn_enT a (s1.heap.objs.size + 1) s1.heap.objs.size, ⟨⟨.none, he⟩, ⟨_, hit, rfl, rfl⟩, Nat.succ_ne_self _⟩, fun b hb => ?_, q⟩
    have e' : b = s1.heap.objs.size + 1 ∨ b = s1.heap.objs.size := by simpa using hb
    have hle : s1.heap.objs.size ≤ b := by
      rcases e' with z | z
      · rw [z]; exact Nat.le_add_right _ _
      · rw [z]; exact Nat.le_refl _
    exact I1.fpOk hle (I1.hok.fresh hle)
/-! ### what is walked, pair by pair -/
def ItR2 (c : RC) (M : Addr → Prop) (ρ : List Addr) (J : It) (ds : List DL.D) (H : Hp) : Prop := ∀ (M2 : Addr → Prop) (ρ2 : List Addr) (G2 : GS) (H2 : Hp), Gr M ρ H M2 ρ2 H2 → SR c M2 ρ2 G2 H2 → ∀ i, (∀ d, ds[i]? = some d → J.go i H2 ∧ ∀ x H3, J.yld i H2 x H3 → Same H2 H3 ∧ Rep c M2 ρ2 H3 d x) ∧ (ds.length ≤ i → J.stop i H2)
def tDI2 (c : RC) (W : WX) (m : LM) : TI := fun σ H R => ∃ M ρ G env, Rl c M ρ G env σ H ∧ (match m env G with
  | .ok ds G' => ∀ J ρ' H', Ge M ρ H ρ' H' → SR c M ρ' G' H' → ItR2 c M ρ' J ds H' → R J H'
  | .er cl fs G' => ∀ dd gs ρ' H', Ge M ρ H ρ' H' → SR c M ρ' G' H' → H' dd = some (.xd gs) → Flds c M ρ' H' cl fs gs → W (.ref (c.C cl)) (some dd) σ H'
  | .st => False)
def DI2 (X : Cx) (c : RC) (W : WX) (tg e : Expr) (m : LM) : Prop := PI X tg e (tDI2 c W m)
def enumL : Nat → List DL.D → List DL.D
  | _, [] => []
  | k, x :: xs => .tup [.int (k : Nat), x] :: enumL (k + 1) xs
theorem enumL_len : ∀ (k : Nat) (xs : List DL.D), (enumL k xs).length = xs.length
  | _, [] => rfl
  | k, x :: xs => by show (enumL (k + 1) xs).length + 1 = xs.length + 1; rw [enumL_len]
theorem enumL_get : ∀ (xs : List DL.D) (k i : Nat), (enumL k xs)[i]? = (xs[i]?).map fun x => .tup [.int ((k + i : Nat) : Int), x]
  | [], _, i => by simp [enumL]
  | x :: xs, k, 0 => by simp [enumL]
  | x :: xs, k, i + 1 => by
    show (enumL (k + 1) xs)[i]? = _
    rw [enumL_get xs (k + 1) i, List.getElem?_cons_succ]
    have : k + 1 + i = k + (i + 1) := by omega
    rw [this]
def lEnumT (r : AM) : LM := fun env G => (r env G).bind fun xs G1 => match xs with
  | [.d (.tup ys)] => .ok (enumL 0 ys) G1
  | _ => .st
section
variable {X : Cx} {c : RC} {W : WX} {e tg : Expr} {mr : AM} {pos p : Pos} {M : Addr → Prop} {ρ : List Addr} {σ : L2.St} {H : Hp} {G : GS}
theorem tdi2_of {α β : Type} {Rr : (Addr → Prop) → List Addr → Hp → α → β → Prop} {m : En → GS → Out α} {k : α → GS → Out (List DL.D)} {env : En} {R : It → Hp → Prop} (Rl0 : Rl c M ρ G env σ H)
    (h : (match (m env G).bind k with
  | .ok ds G' => ∀ J ρ' H', Ge M ρ H ρ' H' → SR c M ρ' G' H' → ItR2 c M ρ' J ds H' → R J H'
  | .er cl fs G' => ∀ dd gs ρ' H', Ge M ρ H ρ' H' → SR c M ρ' G' H' → H' dd = some (.xd gs) → Flds c M ρ' H' cl fs gs → W (.ref (c.C cl)) (some dd) σ H'
  | .st => False)) (hk : ∀ x G1, (∃ ds, k x G1 = .ok ds G1) ∨ k x G1 = .st) :
    TQ Rr c W M ρ σ H (m env G) fun v H1 => ∃ ρ1 G1 x ds, Ge M ρ H ρ1 H1 ∧ SR c M ρ1 G1 H1 ∧ Rr M ρ1 H1 x v ∧ k x G1 = .ok ds G1 ∧ ∀ J, ItR2 c M ρ1 J ds H1 → R J H1 := by
  cases hm : m env G with
  | ok x G1 =>
    rw [hm] at h
    intro v ρ1 H1 g s r
    rcases hk x G1 with ⟨ds, hd⟩ | hd
    · refine ⟨ρ1, G1, x, ds, g, s, r, hd, fun J hJ => ?_⟩
      have z : (Out.ok x G1).bind k = .ok ds G1 := hd
      rw [z] at h
      exact h J ρ1 H1 g s hJ
    · have z : (Out.ok x G1).bind k = .st := hd
      rw [z] at h
      exact h.elim
  | er cl fs G1 => rw [hm] at h; exact h
  | st => rw [hm] at h; exact h
theorem di_enT {elts : List Expr} {kk : Nat} {tpos : Pos} (hK : c.K = X.K) (hg : Gl X "enumerate") (hm : X.mg "enumerate" = none) (ha : DA X c W [e] mr) (hs : starEach [e] X.env = [(false, eval e X.env)] := by rfl) :
    DI2 X c W (.Tuple elts kk tpos) (.Call (.Name "enumerate" p) [e] [] pos) (lEnumT mr) := by
  refine pi_imp (pi_enT hg hm ha hs) fun σ H R q => ?_
  obtain ⟨M, ρ, G, env, R0, q⟩ := q
  refine ⟨M, ρ, G, env, R0, (tdi2_of (Rr := RA c) R0 q (fun x G1 => ?_)).imp fun v H1 ⟨ρ1, G1, x, ds, g, s, r, hd, hJ⟩ => ?_⟩
  · skip
    split
    · exact .inl ⟨_, rfl⟩
    · exact .inr rfl
  · skip
    split at hd
    · rename_i ys
      injection hd with hd _
      subst hd
      cases r with
      | cons r t =>
        cases t
        obtain ⟨a, vs, rfl, z, rr⟩ := Rep.of_tup r
        refine ⟨a, vs, rfl, by rw [← hK]; exact z.sq, hJ _ fun M2 ρ2 G2 H2 g2 s2 i => ⟨fun d hd => ?_, fun hl => ?_⟩⟩
        · have z2 := z.grow g2
          have r2 := reps_grow rr g2
          rw [enumL_get] at hd
          cases hy : ys[i]? with
          | none => rw [hy] at hd; cases hd
          | some y =>
            rw [hy] at hd
            cases hd
            obtain ⟨v, hv, rv⟩ := r2.get hy
            refine ⟨⟨vs, v, by rw [← hK]; exact z2.sq, hv⟩, fun x H3 ⟨T, x', ex, hT, eH, fx⟩ => ?_⟩
            have hx' := fx vs (by rw [← hK]; exact z2.sq)
            rw [hv] at hx'
            cases hx'
            subst ex eH
            have sm : Same H2 (upd H2 T (.tup [.int (i : Nat), v])) := same_upd hT
            refine ⟨sm, Rep.tup (.inl ⟨s2.fresh hT, .inl upd_same⟩) (.cons ?_ (.cons (Rep.grow rv (Gr.same sm)) .nil))⟩
            rw [Nat.zero_add]
            exact Rep.int
        · rw [enumL_len] at hl
          exact ⟨vs, by rw [← hK]; exact (z.grow g2).sq, by rw [← rr.length]; exact hl⟩
    · cases hd
end
end DL
set_option Elab.async false
set_option linter.all false
set_option maxRecDepth 100000
set_option maxHeartbeats 4000000
/-! for x, y in ..; [.. for x, y in ..] -/
namespace DL
open PySem L2 PyProof.Rows StX ClX
def unpE (is : List Nat) (d : DL.D) (env : En) : Option En := match d with
  | .tup xs => setAll is xs env
  | _ => none
theorem setAll_len : ∀ {is : List Nat} {xs : List DL.D} {env env' : En}, setAll is xs env = some env' → xs.length = is.length
  | [], [], _, _, _ => rfl
  | [], _ :: _, _, _, h => nomatch h
  | _ :: _, [], _, _, h => nomatch h
  | i :: is, x :: xs, env, env', h => by
    have h' : setAll is xs (env.set i (.ev (.d x))) = some env' := h
    simp [setAll_len h']
section
variable {X : Cx} {c : RC} {W : WX} {e elt tg : Expr} {ifs : List Expr} {mr : LM} {mt : BM} {me : EM} {pos p : Pos} {M : Addr → Prop} {ρ : List Addr} {σ : L2.St} {H : Hp} {G : GS} {K : PySem.W.Frag} {is : List Nat} {n : Nat}
theorem unp_rep {d : DL.D} {env env' : En} {u : V} (h : unpE is d env = some env') (r : Rep c M ρ H d u) : ∃ a vs xs, u = .ref a ∧ ZT c M ρ H a vs ∧ All2 (Rep c M ρ H) xs vs ∧ setAll is xs env = some env' := by
  cases d with
  | tup xs =>
    obtain ⟨a, vs, e, z, rr⟩ := Rep.of_tup r
    exact ⟨a, vs, xs, e, z, rr, h⟩
  | _ => cases h
/-! ### for -/
def forT (is : List Nat) (b : SM) : List DL.D → En → GS → OutS
  | [], env, G => .nx env G
  | d :: ds, env, G => match unpE is d env with
    | some env2 => loopO (b env2 G) (forT is b ds)
    | none => .st
theorem forT_none {b : SM} {d : DL.D} {ds : List DL.D} {env : En} {G : GS} (h : unpE is d env = none) : forT is b (d :: ds) env G = .st := by
  show (match unpE is d env with | some env2 => _ | none => _) = _
  rw [h]
theorem forT_some {b : SM} {d : DL.D} {ds : List DL.D} {env env2 : En} {G : GS} (h : unpE is d env = some env2) : forT is b (d :: ds) env G = loopO (b env2 G) (forT is b ds) := by
  show (match unpE is d env with | some env2 => _ | none => _) = _
  rw [h]
def sForT (is : List Nat) (m : LM) (b : SM) : SM := fun env G => ofE (m env G) env fun ds G1 => forT is b ds env G1
theorem ds_forT {es : List Expr} {kk : Nat} {pt : Pos} {body : List Stmt} {mb : SM} (hp : PassesOwn (model X.prog X.w) X.A X.env X.xe) (hc : X.calm = true) (hK : c.K = X.K) (hi : DI2 X c W (.Tuple es kk pt) e mr) (hg : PGs X es (gNames is)) (hl : is.length = n) (hb : DSs X c W body mb) (hn : (assignEach es X.env).length = n := by rfl) (hst : (assignEach es X.env).findIdx? (·.1) = none := by rfl)
    (hs : ∀ x, foldedSetIterable e X.env x = pure x := by intro _; rfl) : DS X c W (.For (.Tuple es kk pt) e body [] pos) (sForT is mr mb) := by
  refine ps_imp (ps_for hp hc hi (pg_tup (n := n) hc hg hn hst) hb hs) fun Dn σ H q => ?_
  obtain ⟨M, ρ, G, env, R0, q⟩ := q
  refine ⟨M, ρ, G, env, R0, ?_⟩
  unfold sForT at q
  cases hm : mr env G with
  | st => rw [hm] at q; exact q
  | er cl fs G1 => rw [hm] at q; exact fun dd gs ρ' H' g s z f => q M ρ' σ H' dd gs g.gr (R0.ge g s) z f
  | ok ds G1 =>
    rw [hm] at q
    intro J ρ1 H1 g1 s1 hJ
    have q1 : SQ c W M ρ1 H1 (forT is mb ds env G1) Dn := SQ.grow q g1.gr
    let Pv : Nat → L2.St → Hp → Prop := fun i σ H => ∃ M' ρ' G' env', Gr M ρ1 H1 M' ρ' H ∧ Rl c M' ρ' G' env' σ H ∧ SQ c W M' ρ' H (forT is mb (ds.drop i) env' G') Dn
    refine ⟨fun i m σ H => m = ds.length - i ∧ i ≤ ds.length ∧ Pv i σ H, ⟨ds.length, by simp, Nat.zero_le _, M, ρ1, G1, env, Gr.refl, R0.ge g1 s1, q1⟩, ?_⟩
    rintro i m σ2 H2 ⟨rfl, hi, M', ρ', G', env', g', R', q'⟩
    have z := hJ M' ρ' G' H2 g' R'.s i
    by_cases hlt : i < ds.length
    · refine .inr ?_
      obtain ⟨zg, zy⟩ := z.1 ds[i] (List.getElem?_eq_getElem hlt)
      refine ⟨zg, Pv (i + 1), fun σ' H' p' => ⟨ds.length - (i + 1), by omega, rfl, hlt, p'⟩, fun x H' y => ?_⟩
      obtain ⟨sm, rx⟩ := zy x H' y
      rw [List.drop_eq_getElem_cons hlt] at q'
      cases hu : unpE is ds[i] env' with
      | none =>
        rw [forT_none hu] at q'
        exact (show False from q').elim
      | some env2 =>
        rw [forT_some hu] at q'
        obtain ⟨pa, us, xs, ex, zz, rr, hx⟩ := unp_rep hu rx
        refine ⟨pa, us, ex, by rw [← hK]; exact zz.sq, by rw [← rr.length, setAll_len hx, hl], gnames_run is xs us _ env2 _ (R'.same sm) rr hx fun σ4 R2 => ⟨M', ρ', G', env2, R2, ?_⟩⟩
        have q2 : SQ c W M' ρ' H' (loopO (mb env2 G') (forT is mb (ds.drop (i + 1)))) Dn := SQ.grow q' (Gr.same sm)
        exact SQ.loop q2 fun env3 G2 M2 ρ2 σ3 H3 g3 R3 q3 => ⟨M2, ρ2, G2, env3, (g'.trans (Gr.same sm)).trans g3, R3, q3⟩
    · have e : i = ds.length := by omega
      subst e
      rw [List.drop_length] at q'
      exact .inl ⟨z.2 (Nat.le_refl _), q' M' ρ' σ2 H2 Gr.refl R'⟩
end
end DL
set_option Elab.async false
set_option linter.all false
set_option maxRecDepth 100000
set_option maxHeartbeats 4000000
/-! own errors of two fields -/
namespace DL
open PySem L2 PyProof.Rows NdefX
end DL
set_option Elab.async false
set_option linter.all false
set_option maxRecDepth 100000
set_option maxHeartbeats 4000000
/-! tuple * int, list * int -/
namespace DL
open PySem PySem.Spec L2 PyProof.Rows StX ClX
theorem int_rmul_listS (a : Int) (t : Tok) (l : Addr) (items : Array Value) (n : Nat) (sl : Array (Option Value)) :
    Meets (Builtin.«int.__rmul__» ⟨[.int a t, .ref l], []⟩) (fun _ R s => s.heap.get? l = some { cls := .type "list", dict := none, data := .seq items n, slots := sl } ∧ R (.ok (.ret Value.notImplemented)) s) :=
  .of_wp fun prog w A R s h => by obtain ⟨hp, g, d, tk, os⟩ := s; obtain ⟨hl, h⟩ := h; wp_walk using wpAny_loadPart' hl; exact ⟨_, rfl, h⟩
theorem list_mulS (l : Addr) (items : Array Value) (n : Nat) (sl : Array (Option Value)) (x : Int) (u : Tok) (hc0 : ¬(!Builtin.List.listFitsIndex x) = true) (hc1 : ¬items.size * x.toNat > (2 ^ 63 - 1) / 8) (hc2 : ¬Builtin.List.listTooLong (items.size * x.toNat) = true) :
    Meets (Builtin.«list.__mul__» ⟨[.ref l, .int x u], []⟩) (fun _ R s => s.heap.get? l = some { cls := .type "list", dict := none, data := .seq items n, slots := sl } ∧ R (.ok (.ret (Value.ref s.heap.objs.size))) { s with heap := s.heap.push { cls := Value.type "list", data := Data.seq (List.foldl (fun x1 x2 => x1 ++ x2) #[] (List.replicate (if items.isEmpty = true then 0 else x.toNat) items)) }, toks := s.toks }) :=
  .of_wp fun prog w A R s h => by
    obtain ⟨hp, g, d, tk, os⟩ := s; obtain ⟨hl, h⟩ := h
    have hsz := PySem.AutoListH.joined_fits hc2
    have f1 := AutoSeq1.idx_int
    wp_walk using wpAny_loadPart' hl; refine wpAny_ite_false (decide_eq_false (Nat.not_lt.mpr hsz)) ?_; wp_walk using wpAny_loadPart' hl; exact ⟨_, rfl, h⟩
def rRepS (K : PySem.W.Frag) : R2 := fun x y H Q => ∃ l k xs, x = .ref l ∧ y = .int k ∧ SqL K H l xs ∧ -(2 ^ 63) ≤ k ∧ k < 2 ^ 63 ∧ xs.length * k.toNat ≤ sizeLine ∧ ∀ p, H p = none → Q (.ref p) (upd H p (.lst (List.replicate k.toNat xs).flatten))
section
variable {X : Cx}
theorem op_repS : OpR X (binaryOp .Mult) (rRepS X.K) := by
  intro pins s σ H x y v u Q I rx ry h
  obtain ⟨l, k, xs, rfl, rfl, hH, h1, h2, hz, q⟩ := h
  cases rx
  obtain ⟨t, rfl⟩ := ry
  obtain ⟨its, r, ⟨⟨cls, dd, data, sl⟩, n, e, hc, hd, hs'⟩, _⟩ := I.list hH
  simp only at hc hd hs'
  subst hc hd hs'
  have hl : xs.length = its.length := r.length
  have hlen : its.toArray.size * k.toNat ≤ sizeLine := by rw [List.size_toArray, ← hl]; exact hz
  have hcap : ¬ its.toArray.size * k.toNat > (2 ^ 63 - 1) / 8 := by
    have : (sizeLine : Nat) ≤ (2 ^ 63 - 1) / 8 := by decide
    omega
  have hfit : ¬ (!Builtin.List.listFitsIndex k) = true := by
    rw [fitsIndex_both h1 h2]
    exact Bool.false_ne_true
  have hlong : ¬ Builtin.List.listTooLong (its.toArray.size * k.toNat) = true := by
    rw [notLongL hlen]
    exact Bool.false_ne_true
  have hnew : List.foldl (fun x1 x2 => x1 ++ x2) #[] (List.replicate (if its.toArray.isEmpty = true then 0 else k.toNat) its.toArray) = (List.replicate k.toNat its).flatten.toArray := by
    have f0 : ∀ m : Nat, List.foldl (fun x1 x2 => x1 ++ x2) #[] (List.replicate m its.toArray) = (List.replicate m its).flatten.toArray := fun m => by
      have := foldl_rep its m []
      rw [List.nil_append] at this
      exact this
    rw [f0]
    cases its with
    | nil => simp
    | cons a r' => rw [if_neg (by simp)]
  refine wpAny_binaryOp_repeat_ref (T := "list") (U := "int") (by decide) ⟨_, e, rfl⟩ (fun s' => typeIs_int s' k t) noFill_list_mul F.fills_int_mul F.slot_int_rmul repeat_list F.slot_int_index.lookup
    (call_meets F.slot_int_rmul (typeIs_int s k t) F.entry_int_rmul (F.args_int_rmul_2 _ _) (int_rmul_listS k t l its.toArray n sl)
      ⟨e, rfl, ⟨_, e, rfl⟩, call_meets F.slot_list_mul ⟨_, e, rfl⟩ F.entry_list_mul (F.args_list_mul_2 _ _) (list_mulS l its.toArray n sl k t hfit hcap hlong) ⟨e, ?_⟩⟩)
  rw [hnew]
  exact ⟨.ref _, _, I.lnew (t' := s.toks) (r.rep k.toNat) (by rw [PyProof.Rows.lm_len_rep_flat, Nat.mul_comm]; exact hz), rfl, q _ I.fresh⟩
end
theorem all2_rep {α β : Type} {R : α → β → Prop} {xs : List α} {ys : List β} (h : All2 R xs ys) : ∀ n : Nat, All2 R (List.replicate n xs).flatten (List.replicate n ys).flatten
  | 0 => .nil
  | n + 1 => by
    rw [List.replicate_succ, List.replicate_succ, List.flatten_cons, List.flatten_cons]
    exact all2_app h (all2_rep h n)
/-- list * int -/
def fRepL : F2 := fun x y G => match x, y with
  | .d (.lst xs), .d (.int k) => if 0 ≤ k ∧ k ≤ 1000 ∧ xs.length ≤ 100 then some (.d (.lst (List.replicate k.toNat xs).flatten), G) else none
  | _, _ => none
section
variable {X : Cx} {c : RC}
theorem dop_repL (hK : c.K = X.K) : OpR X (binaryOp .Mult) (V2 c fRepL) := by
  intro pins s σ H x y v u Q I rx ry h
  obtain ⟨M, ρ, G, a, b, sr, ra, rb, q⟩ := h
  unfold fRepL at q
  split at q
  · rename_i xs k
    split at q
    · rename_i h2
      obtain ⟨h2, h3, h5⟩ := h2
      obtain ⟨p, us, rfl, z, rr⟩ := Rep.of_lst ra
      obtain rfl := Rep.of_int rb
      refine op_repS pins s σ H _ _ v u Q I rx ry ⟨p, k, us, rfl, rfl, by rw [← hK]; exact z.sq, by omega, by omega, ?_, fun w hw => ?_⟩
      · rw [← rr.length, sizeLine_eq]
        have a1 : xs.length * k.toNat ≤ 100 * 1000 := Nat.mul_le_mul h5 (by omega)
        omega
      · have sm : Same H (upd H w (.lst (List.replicate k.toNat us).flatten)) := same_upd hw
        exact q _ _ _ (Ge.same sm) (sr.same sm) (Rep.lst (.inl ⟨sr.fresh hw, .inl upd_same⟩) (reps_grow (all2_rep rr _) (Gr.same sm)))
    · exact q.elim
  · exact q.elim
end
end DL
set_option Elab.async false
set_option linter.all false
set_option maxRecDepth 100000
set_option maxHeartbeats 4000000
/-! texts: count, times a number, turned about -/
namespace DL
open PySem PySem.Spec L2 PyProof.Rows StX ClX
def fCnt (a : Str) : EV → GS → Out EV := fun y G => match y with
  | .d (.str b) => .ok (.d (.int (Txt.count a b))) G
  | _ => .st
def eCount (mo me : EM) : EM := fun env G => (mo env G).bind fun x G1 => match x with
  | .d (.str a) => (me env G1).bind fun y G2 => fCnt a y G2
  | _ => .st
/-- text * int -/
def fRepX : F2 := fun x y G => match x, y with
  | .d (.str a), .d (.int k) => if 1 ≤ k ∧ k ≤ 1000 ∧ a.length ≤ 1000 then some (.d (.str (Txt.mul a k)), G) else none
  | _, _ => none
section
variable {X : Cx} {c : RC} {W : WX} {o e : Expr} {mo me : EM} {apos pos : Pos}
theorem de_count (ho : DE X c W o mo) (he : DE X c W e me) (hs : starEach [e] X.env = [(false, eval e X.env)] := by rfl) (hbase : attributeBase o "count" X.env (eval o X.env) = eval o X.env := by rfl) (hline : (apos.endLine == pos.line) = true := by rfl) :
    DE X c W (.Call (.Attribute o "count" apos) [e] [] pos) (eCount mo me) := by
  refine pe_imp (pe_m1 PySem.F.slot_str_count PySem.F.type_str_count mt_count ho he hs hbase hline) fun σ H Q q => ?_
  obtain ⟨M, ρ, G, env, R, q⟩ := q
  refine ⟨M, ρ, G, env, R, (TQ.bind (R := RE c) q).imp fun v H1 ⟨ρ1, G1, e1, g1, s1, r1, q1⟩ => ?_⟩
  split at q1
  · rename_i a
    have ev : v = .str a := Rep.of_str r1
    refine ⟨⟨a, ev⟩, M, ρ1, G1, env, R.ge g1 s1, (TQ.bind (R := RE c) q1).imp fun u H2 ⟨ρ2, G2, e2, g2, s2, r2, q2⟩ => ?_⟩
    unfold fCnt at q2
    split at q2
    · rename_i b
      have eu : u = .str b := Rep.of_str r2
      exact ⟨a, b, ev, by rw [eu], TQ.ok q2 s2 Rep.int⟩
    · exact q2.elim
  · exact q1.elim
theorem dop_repX : OpR X (binaryOp .Mult) (V2 c fRepX) := by
  intro pins s σ H x y v u Q I rx ry h
  obtain ⟨M, ρ, G, a, b, sr, ra, rb, q⟩ := h
  unfold fRepX at q
  split at q
  · rename_i z k
    split at q
    · rename_i hk
      obtain ⟨h1, h2, h3⟩ := hk
      obtain rfl := Rep.of_str ra
      obtain rfl := Rep.of_int rb
      obtain ⟨t, rfl⟩ := rx
      obtain ⟨t', rfl⟩ := ry
      exact SB.mul (mulOk_of 1000 1000 h3 (by omega) (by omega) (by decide) (by decide)) fun t2 k2 => ⟨.str (Txt.mul z k), H, I.tok k2, ⟨t2, rfl⟩, q _ ρ H Ge.refl sr Rep.str⟩
    · exact q.elim
  · exact q.elim
end
end DL
set_option Elab.async false
set_option linter.all false
set_option maxRecDepth 100000
set_option maxHeartbeats 4000000
/-! classmethods called with keywords -/
namespace DL
open PySem L2 PyProof.Rows StX ClX
end DL
set_option Elab.async false
set_option linter.all false
set_option maxRecDepth 100000
set_option maxHeartbeats 4000000
/-! lists of the store: copied, compared, sorted(set(..)) -/
namespace DL
open PySem PySem.Spec L2 PyProof.Rows StX ClX PpSet
/-- the items of a list that may stand in the store -/
def lstE : EV → GS → Option (List DL.D)
  | .d (.lst xs), _ => some xs
  | .o k, G => (match (G[k]? : Option GO) with
    | some (GO.lst es) => datas es
    | _ => none)
  | _, _ => none
section
variable {X : Cx} {c : RC} {W : WX} {e : Expr} {me : EM} {pos p p2 pos2 : Pos}
theorem lstE_rep {M : Addr → Prop} {ρ : List Addr} {G : GS} {H : Hp} {x : EV} {ds : List DL.D} {v : V} (s : SR c M ρ G H) (r : RepE c M ρ H x v) (h : lstE x G = some ds) : ∃ a vs, v = .ref a ∧ SqL c.K H a vs ∧ All2 (Rep c M ρ H) ds vs := by
  cases x with
  | d x =>
    cases x with
    | lst xs =>
      cases h
      obtain ⟨a, vs, rfl, z, rr⟩ := Rep.of_lst r
      exact ⟨a, vs, rfl, z.sq, rr⟩
    | _ => cases h
  | o k =>
    have h' : (match (G[k]? : Option GO) with
      | some (GO.lst es) => datas es
      | _ => none) = some ds := h
    cases hg : (G[k]? : Option GO) with
    | none => rw [hg] at h'; cases h'
    | some go =>
      cases go with
      | lst es =>
        rw [hg] at h'
        obtain ⟨a, vs, p1, hH, rr⟩ := s.at_ k es hg
        obtain ⟨a', p2, rfl⟩ := r
        rw [p1] at p2
        cases p2
        exact ⟨a, vs, rfl, .inl (.inl hH), datas_rep h' rr⟩
      | tb k => rw [hg] at h'; cases h'
/-- != of two lists -/
def gNeL (xs ys : List DL.D) : Option DL.D := match toPys xs, toPys ys with
  | some ps, some qs => if (SeqAt.shaped (.list ps) && SeqAt.shaped (.list qs)) = true then some (.bl (!PyData.eqv (.list ps) (.list qs))) else none
  | _, _ => none
def fNeS : F2 := fun x y G => (lstE x G).bind fun xs => (lstE y G).bind fun ys => (gNeL xs ys).map fun z => (.d z, G)
theorem dop_neS (hK : c.K = X.K) (hu : X.A.units + 64 < cLine) : OpR X (compareOp .NotEq) (V2 c fNeS) := opr_imp (op_neD hu) fun x y H Q q => by
  obtain ⟨M, ρ, G, a, b, s, ra, rb, q⟩ := q
  unfold fNeS at q
  cases ha : lstE a G with
  | none => rw [ha] at q; exact q.elim
  | some xs =>
    rw [ha] at q
    cases hb : lstE b G with
    | none => rw [hb] at q; exact q.elim
    | some ys =>
      rw [hb] at q
      obtain ⟨a1, vs, rfl, z1, r1⟩ := lstE_rep s ra ha
      obtain ⟨a2, ws, rfl, z2, r2⟩ := lstE_rep s rb hb
      have q2 : VQ c M ρ H ((gNeL xs ys).map fun z => (EV.d z, G)) Q := q
      unfold gNeL at q2
      cases e1 : toPys xs with
      | none => rw [e1] at q2; exact q2.elim
      | some ps =>
        rw [e1] at q2
        cases e2 : toPys ys with
        | none => rw [e2] at q2; exact q2.elim
        | some qs =>
          rw [e2] at q2
          dsimp only at q2
          split at q2
          · rename_i hs
            obtain ⟨h1, h2⟩ := Bool.and_eq_true_iff.mp hs
            exact ⟨.list ps, .list qs, .lst (by rw [← hK]; exact z1) (toPys_dp hK xs ps vs e1 r1), .lst (by rw [← hK]; exact z2) (toPys_dp hK ys qs ws e2 r2), h1, h2, q2 _ ρ H Ge.refl s Rep.bl⟩
          · exact q2.elim
/-- list(x), the new list written later -/
def fListO : FN := fun es G => match es with
  | [.d (.lst xs)] => some (.o G.length, G ++ [.lst (xs.map .d)])
  | [.d (.tup xs)] => some (.o G.length, G ++ [.lst (xs.map .d)])
  | [.o k] => (match (G[k]? : Option GO) with
    | some (GO.lst xs) => some (.o G.length, G ++ [.lst xs])
    | _ => none)
  | _ => none
theorem reps_d {M : Addr → Prop} {ρ : List Addr} {H : Hp} : ∀ {ds : List DL.D} {vs : List V}, All2 (Rep c M ρ H) ds vs → All2 (RepE c M ρ H) (ds.map EV.d) vs
  | _, _, .nil => .nil
  | _, _, .cons r t => .cons r (reps_d t)
theorem dcall_listO (hK : c.K = X.K) : CallR X (.type "list") (VN c fListO) := callr_imp call_list_of fun vs H Q ⟨M, ρ, G, es, s, r, q⟩ => by
  unfold fListO at q
  split at q
  · cases r with
    | cons r t =>
      cases t
      obtain ⟨p, us, rfl, z, rr⟩ := Rep.of_lst r
      refine ⟨p, us, rfl, .inl (by rw [← hK]; exact z.sq), fun l hl => ?_⟩
      obtain ⟨g, s2, e2⟩ := sr_new s (reps_d rr) hl
      exact q (.ref l) _ _ g s2 ⟨l, e2, rfl⟩
  · cases r with
    | cons r t =>
      cases t
      obtain ⟨p, us, rfl, z, rr⟩ := Rep.of_tup r
      refine ⟨p, us, rfl, .inr (by rw [← hK]; exact z.sq), fun l hl => ?_⟩
      obtain ⟨g, s2, e2⟩ := sr_new s (reps_d rr) hl
      exact q (.ref l) _ _ g s2 ⟨l, e2, rfl⟩
  · rename_i k
    split at q
    · rename_i xs hx
      cases r with
      | cons r t =>
        cases t
        obtain ⟨p, hp, rfl⟩ := r
        obtain ⟨p', us, hp', hH, rr⟩ := s.at_ k xs hx
        rw [hp] at hp'
        cases hp'
        refine ⟨p, us, rfl, .inl (.inl (.inl hH)), fun l hl => ?_⟩
        obtain ⟨g, s2, e2⟩ := sr_new s rr hl
        exact q (.ref l) _ _ g s2 ⟨l, e2, rfl⟩
    · exact q.elim
  · exact q.elim
end
end DL
set_option Elab.async false
set_option linter.all false
set_option maxRecDepth 100000
set_option maxHeartbeats 4000000
/-! zip of two tuples, of two texts; pairs as targets -/
namespace DL
open PySem PySem.Spec L2 PyProof.Rows StX ClX
/-! ### over D -/
end DL
set_option Elab.async false
set_option linter.all false
set_option maxRecDepth 100000
set_option maxHeartbeats 4000000
/-! own signs that may raise -/
namespace DL
open PySem L2 PyProof.Rows StX ClX
end DL
set_option Elab.async false
set_option linter.all false
set_option maxRecDepth 100000
set_option maxHeartbeats 4000000
/-! a chain of two comparisons; tuple(x) of a list of the store -/
namespace DL
open PySem L2 PyProof.Rows StX ClX
def chK (f' : F2) (mc : EM) (env : En) (y : EV) : Option (EV × GS) → Out EV
  | some (.d (.bl true), G3) => (mc env G3).bind fun z G4 => lift (f' y z G4)
  | some (.d (.bl false), G3) => .ok (.d (.bl false)) G3
  | _ => .st
def eChain (f f' : F2) (ma mb mc : EM) : EM := fun env G => (ma env G).bind fun x G1 => (mb env G1).bind fun y G2 => chK f' mc env y (f x y G2)
section
variable {X : Cx} {c : RC} {W : WX} {a b d : Expr} {ma mb mc : EM} {pos : Pos} {f f' : F2}
theorem de_chain {op op' : CmpOp} (ho : OpR X (compareOp op) (V2 c f)) (ho' : OpR X (compareOp op') (V2 c f')) (ha : DE X c W a ma) (hb : DE X c W b mb) (hd : DE X c W d mc)
    (hm : lastMarks [op, op'] [b, d] = false := by with_unfolding_all rfl) : DE X c W (.Compare a [op, op'] [b, d] pos) (eChain f f' ma mb mc) := by
  refine pe_imp (pe_chain ho ho' ha hb hd hm) fun σ H Q q => ?_
  obtain ⟨M, ρ, G, env, R, q⟩ := q
  refine ⟨M, ρ, G, env, R, (TQ.bind (R := RE c) q).imp fun x H1 ⟨ρ1, G1, e1, g1, s1, r1, q1⟩ => ?_⟩
  refine ⟨M, ρ1, G1, env, R.ge g1 s1, (TQ.bind (R := RE c) q1).imp fun y H2 ⟨ρ2, G2, e2, g2, s2, r2, q2⟩ => ?_⟩
  refine ⟨M, ρ2, G2, e1, e2, s2, r1.grow g2.gr, r2, ?_⟩
  cases hf : f e1 e2 G2 with
  | none => rw [hf] at q2; exact q2.elim
  | some p =>
    obtain ⟨e3, G3⟩ := p
    rw [hf] at q2
    intro v ρ3 H3 g3 s3 r3
    cases e3 with
    | o i => exact (show False from q2).elim
    | d e3 =>
      cases e3 with
      | bl k =>
        refine ⟨k, Rep.of_bl r3, ?_⟩
        cases k with
        | true =>
          rw [if_pos rfl]
          have q3 : TQ (RE c) c W M ρ3 σ H3 ((mc env G3).bind fun z G4 => lift (f' e2 z G4)) Q := TQ.grow q2 g3
          refine ⟨M, ρ3, G3, env, ((R.ge g1 s1).ge g2 s2).ge g3 s3, (TQ.bind (R := RE c) q3).imp fun z H4 ⟨ρ4, G4, e4, g4, s4, r4, q4⟩ => ?_⟩
          exact ⟨M, ρ4, G4, e2, e4, s4, RepE.grow (RepE.grow r2 g3.gr) g4.gr, r4, VQ.of q4⟩
        | false =>
          rw [if_neg (by decide)]
          exact TQ.ok (TQ.grow q2 g3) s3 Rep.bl
      | _ => exact (show False from q2).elim
/-- tuple(x), also of a list of the store -/
def fTupleE : FN := fun es G => match es with
  | [.d (.lst xs)] => some (.d (.tup xs), G)
  | [.d (.tup xs)] => some (.d (.tup xs), G)
  | [.o k] => (lstE (.o k) G).map fun ds => (.d (.tup ds), G)
  | _ => none
theorem dcall_tupleE (hK : c.K = X.K) : CallR X (.type "tuple") (VN c fTupleE) := callr_imp call_tuple_of fun vs H Q ⟨M, ρ, G, es, s, r, q⟩ => by
  unfold fTupleE at q
  split at q
  · cases r with
    | cons r t =>
      cases t
      obtain ⟨p, us, rfl, z, rr⟩ := Rep.of_lst r
      refine ⟨p, us, rfl, .inl ⟨by rw [← hK]; exact z.sq, fun l hl => ?_⟩⟩
      have sm : Same H (upd H l (.tup us)) := same_upd hl
      exact q _ _ _ (Ge.same sm) (s.same sm) (Rep.tup (.inl ⟨s.fresh hl, .inl upd_same⟩) (reps_grow rr (Gr.same sm)))
  · cases r with
    | cons r t =>
      cases t
      obtain ⟨p, us, rfl, z, rr⟩ := Rep.of_tup r
      exact ⟨p, us, rfl, .inr ⟨by rw [← hK]; exact z.sq, q _ _ _ Ge.refl s r⟩⟩
  · rename_i k
    cases r with
    | cons r t =>
      cases t
      cases hl : lstE (.o k) G with
      | none => rw [hl] at q; exact q.elim
      | some ds =>
        rw [hl] at q
        obtain ⟨p, us, rfl, z, rr⟩ := lstE_rep s r hl
        refine ⟨p, us, rfl, .inl ⟨by rw [← hK]; exact z, fun l hl => ?_⟩⟩
        have sm : Same H (upd H l (.tup us)) := same_upd hl
        exact q _ _ _ (Ge.same sm) (s.same sm) (Rep.tup (.inl ⟨s.fresh hl, .inl upd_same⟩) (reps_grow rr (Gr.same sm)))
  · exact q.elim
end
end DL
set_option Elab.async false
set_option linter.all false
set_option maxRecDepth 100000
set_option maxHeartbeats 4000000
namespace K58
open PySem L2 PyProof.Rows StX ClX DL
/-! printed by gen.py from the linked text -/
def top (i : Nat) : Stmt := PySem.Challenge.pw_laidink_k58_shape_made.main.body.getD i (.Pass ⟨0, 0, 0, 0⟩)
def NN : String → List Str := fun k => if k = "Shape" then ["lines", "width", "height"] else if k = "InvalidShape" then ["line"] else []
theorem boot_all : bootBuiltins "all" = some (.builtin "all") := by decide +kernel
theorem boot_bool : bootBuiltins "bool" = some (.type "bool") := by decide +kernel
theorem boot_int : bootBuiltins "int" = some (.type "int") := by decide +kernel
theorem boot_isinstance : bootBuiltins "isinstance" = some (.builtin "isinstance") := by decide +kernel
theorem boot_len : bootBuiltins "len" = some (.builtin "len") := by decide +kernel
theorem boot_list : bootBuiltins "list" = some (.type "list") := by decide +kernel
theorem boot_str : bootBuiltins "str" = some (.type "str") := by decide +kernel
theorem boot_sum : bootBuiltins "sum" = some (.builtin "sum") := by decide +kernel
theorem boot_tuple : bootBuiltins "tuple" = some (.type "tuple") := by decide +kernel
abbrev s__law_box : Stmt := top 22
abbrev s__law_draw : Stmt := top 15
abbrev s__law_lines : Stmt := top 16
abbrev s__law_drawn_lines : Stmt := top 24
abbrev s__law_bad : Stmt := top 23
abbrev s__is_line : Stmt := top 11
abbrev s_Shape___init__ : Stmt := inClass (top 9) 0
abbrev s_Shape_of : Stmt := inClass (top 9) 1
abbrev s__law_made : Stmt := top 25
abbrev s__law_int : Stmt := top 19
abbrev s__law_same_text : Stmt := top 17
abbrev s__law_same_names : Stmt := top 18
abbrev s__law_same_shape : Stmt := top 20
abbrev s__law_is : Stmt := top 21
abbrev s_Shape___contains__ : Stmt := inClass (top 9) 10
abbrev s_Shape_area : Stmt := inClass (top 9) 5
abbrev s__law_right : Stmt := top 26
abbrev s__law_two : Stmt := top 27
abbrev s_law : Stmt := top 28
abbrev s_InvalidShape___init__ : Stmt := inClass (top 3) 0
structure Tx (P : Program) (K : PySem.W.Frag) (mg : Str → Option Value) (C A : String → Addr) (FD : String → FuncData) : Prop where
  F__law_box : Fun K "_law_box" "_law_box" s__law_box (A "_law_box") (FD "_law_box")
  M__law_box : mg "_law_box" = some (.ref (A "_law_box"))
  F__law_draw : Fun K "_law_draw" "_law_draw" s__law_draw (A "_law_draw") (FD "_law_draw")
  M__law_draw : mg "_law_draw" = some (.ref (A "_law_draw"))
  F__law_lines : Fun K "_law_lines" "_law_lines" s__law_lines (A "_law_lines") (FD "_law_lines")
  M__law_lines : mg "_law_lines" = some (.ref (A "_law_lines"))
  F__law_drawn_lines : Fun K "_law_drawn_lines" "_law_drawn_lines" s__law_drawn_lines (A "_law_drawn_lines") (FD "_law_drawn_lines")
  M__law_drawn_lines : mg "_law_drawn_lines" = some (.ref (A "_law_drawn_lines"))
  F__law_bad : Fun K "_law_bad" "_law_bad" s__law_bad (A "_law_bad") (FD "_law_bad")
  M__law_bad : mg "_law_bad" = some (.ref (A "_law_bad"))
  F__is_line : Fun K "_is_line" "_is_line" s__is_line (A "_is_line") (FD "_is_line")
  M__is_line : mg "_is_line" = some (.ref (A "_is_line"))
  F_Shape___init__ : Fun K "__init__" "Shape.__init__" s_Shape___init__ (A "Shape.__init__") (FD "Shape.__init__")
  b_Shape___init__ : BindS (FD "Shape.__init__") ["self"] "lines"
  F_Shape_of : Fun K "of" "Shape.of" s_Shape_of (A "Shape.of") (FD "Shape.of")
  F__law_made : Fun K "_law_made" "_law_made" s__law_made (A "_law_made") (FD "_law_made")
  M__law_made : mg "_law_made" = some (.ref (A "_law_made"))
  F__law_int : Fun K "_law_int" "_law_int" s__law_int (A "_law_int") (FD "_law_int")
  M__law_int : mg "_law_int" = some (.ref (A "_law_int"))
  F__law_same_text : Fun K "_law_same_text" "_law_same_text" s__law_same_text (A "_law_same_text") (FD "_law_same_text")
  M__law_same_text : mg "_law_same_text" = some (.ref (A "_law_same_text"))
  F__law_same_names : Fun K "_law_same_names" "_law_same_names" s__law_same_names (A "_law_same_names") (FD "_law_same_names")
  M__law_same_names : mg "_law_same_names" = some (.ref (A "_law_same_names"))
  F__law_same_shape : Fun K "_law_same_shape" "_law_same_shape" s__law_same_shape (A "_law_same_shape") (FD "_law_same_shape")
  M__law_same_shape : mg "_law_same_shape" = some (.ref (A "_law_same_shape"))
  F__law_is : Fun K "_law_is" "_law_is" s__law_is (A "_law_is") (FD "_law_is")
  M__law_is : mg "_law_is" = some (.ref (A "_law_is"))
  F_Shape___contains__ : Fun K "__contains__" "Shape.__contains__" s_Shape___contains__ (A "Shape.__contains__") (FD "Shape.__contains__")
  F_Shape_area : Fun K "area" "Shape.area" s_Shape_area (A "Shape.area") (FD "Shape.area")
  F__law_right : Fun K "_law_right" "_law_right" s__law_right (A "_law_right") (FD "_law_right")
  M__law_right : mg "_law_right" = some (.ref (A "_law_right"))
  F__law_two : Fun K "_law_two" "_law_two" s__law_two (A "_law_two") (FD "_law_two")
  M__law_two : mg "_law_two" = some (.ref (A "_law_two"))
  F_law : Fun K "law" "law" s_law (A "law") (FD "law")
  M_law : mg "law" = some (.ref (A "law"))
  M_InvalidShape : mg "InvalidShape" = some (.ref (C "InvalidShape"))
  M_Shape : mg "Shape" = some (.ref (C "Shape"))
  cl_Shape : Cls K (C "Shape")
  na_Shape_height : NoAttr K (C "Shape") "height"
  na_Shape_lines : NoAttr K (C "Shape") "lines"
  na_Shape_width : NoAttr K (C "Shape") "width"
  mk_Shape : Mk K (C "Shape") (A "Shape.__init__")
  me_Shape_area : Meth K (C "Shape") "area" (A "Shape.area")
  cr_Shape : ClX.CRead K (C "Shape") (.type "type")
  cm_Shape_of : ∃ p, ClX.CMet K (C "Shape") (.type "type") "of" p (A "Shape.of")
  co_OPEN : ∃ u, mg "OPEN" = some u ∧ RelV (.str "#") u
  co_SHUT : ∃ u, mg "SHUT" = some u ∧ RelV (.str ".") u
  co_SIDE : ∃ u, mg "SIDE" = some u ∧ RelV (.int 40) u
  sf_Shape___contains__ : PySem.W.selfFirst K (C "Shape") = true
  ow_Shape___contains__ : PySem.W.findIn K (.ref (C "Shape")) "__contains__" = some (some (.ref (A "Shape.__contains__")))
  fn_Shape___contains__ : PySem.W.isFn K (.ref (A "Shape.__contains__")) = true
  ic_Shape : IsiC K (C "Shape")
  ik : IsiK K
  it_own_Shape_own_Shape : PySem.W.kitOne K (.ref (C "Shape")) (.ref (C "Shape")) = some true
  it_ty_tuple_ty_tuple : PySem.W.kitOne K (.type "tuple") (.type "tuple") = some true
  it_ty_int_ty_int : PySem.W.kitOne K (.type "int") (.type "int") = some true
  it_ty_int_ty_bool : PySem.W.kitOne K (.type "int") (.type "bool") = some false
  it_ty_bool_ty_bool : PySem.W.kitOne K (.type "bool") (.type "bool") = some true
  it_ty_str_ty_str : PySem.W.kitOne K (.type "str") (.type "str") = some true
  no_all : mg "all" = none
  no_bool : mg "bool" = none
  no_enumerate : mg "enumerate" = none
  no_int : mg "int" = none
  no_isinstance : mg "isinstance" = none
  no_len : mg "len" = none
  no_list : mg "list" = none
  no_range : mg "range" = none
  no_str : mg "str" = none
  no_sum : mg "sum" = none
  no_super : mg "super" = none
  no_tuple : mg "tuple" = none
  er_InvalidShape : ErrF P K mg (C "InvalidShape") (A "InvalidShape.__init__") (FD "InvalidShape.__init__") s_InvalidShape___init__ "__init__" "InvalidShape.__init__" "self" "line" "line"
  xm_InvalidShape_InvalidShape : PySem.W.exmOne K (.ref (C "InvalidShape")) (.ref (C "InvalidShape")) = some true
section
variable {P : Program} {w : World} {K : PySem.W.Frag} {mg : Str → Option Value} {base : Heap} {C A : String → Addr} {FD : String → FuncData}
theorem hf_Shape_height (T : Tx P K mg C A FD) : HasF K C NN "height" "Shape" 2 := ⟨T.cl_Shape, T.na_Shape_height, by decide +kernel⟩
theorem hf_Shape_lines (T : Tx P K mg C A FD) : HasF K C NN "lines" "Shape" 0 := ⟨T.cl_Shape, T.na_Shape_lines, by decide +kernel⟩
theorem hf_Shape_width (T : Tx P K mg C A FD) : HasF K C NN "width" "Shape" 1 := ⟨T.cl_Shape, T.na_Shape_width, by decide +kernel⟩
def TB : List (Tg × Tg × Bool) := [(.own "Shape", .own "Shape", true), (.ty "tuple", .ty "tuple", true), (.ty "int", .ty "int", true), (.ty "int", .ty "bool", false), (.ty "bool", .ty "bool", true), (.ty "str", .ty "str", true)]
theorem isi_tb (T : Tx P K mg C A FD) {t u : Tg} {b : Bool} (h : (t, u, b) ∈ TB) : PySem.W.kitOne K (t.v C) (u.v C) = some b ∧ ∀ k, t = .own k → IsiC K (C k) := (all_cons (a := ((.own "Shape", .own "Shape", true) : Tg × Tg × Bool)) (p := fun x : Tg × Tg × Bool => PySem.W.kitOne K (x.1.v C) (x.2.1.v C) = some x.2.2 ∧ ∀ k, x.1 = .own k → IsiC K (C k)) ⟨T.it_own_Shape_own_Shape, fun k e => by cases e; exact T.ic_Shape⟩ (all_cons (a := ((.ty "tuple", .ty "tuple", true) : Tg × Tg × Bool)) (p := fun x : Tg × Tg × Bool => PySem.W.kitOne K (x.1.v C) (x.2.1.v C) = some x.2.2 ∧ ∀ k, x.1 = .own k → IsiC K (C k)) ⟨T.it_ty_tuple_ty_tuple, fun k e => by cases e⟩ (all_cons (a := ((.ty "int", .ty "int", true) : Tg × Tg × Bool)) (p := fun x : Tg × Tg × Bool => PySem.W.kitOne K (x.1.v C) (x.2.1.v C) = some x.2.2 ∧ ∀ k, x.1 = .own k → IsiC K (C k)) ⟨T.it_ty_int_ty_int, fun k e => by cases e⟩ (all_cons (a := ((.ty "int", .ty "bool", false) : Tg × Tg × Bool)) (p := fun x : Tg × Tg × Bool => PySem.W.kitOne K (x.1.v C) (x.2.1.v C) = some x.2.2 ∧ ∀ k, x.1 = .own k → IsiC K (C k)) ⟨T.it_ty_int_ty_bool, fun k e => by cases e⟩ (all_cons (a := ((.ty "bool", .ty "bool", true) : Tg × Tg × Bool)) (p := fun x : Tg × Tg × Bool => PySem.W.kitOne K (x.1.v C) (x.2.1.v C) = some x.2.2 ∧ ∀ k, x.1 = .own k → IsiC K (C k)) ⟨T.it_ty_bool_ty_bool, fun k e => by cases e⟩ (all_cons (a := ((.ty "str", .ty "str", true) : Tg × Tg × Bool)) (p := fun x : Tg × Tg × Bool => PySem.W.kitOne K (x.1.v C) (x.2.1.v C) = some x.2.2 ∧ ∀ k, x.1 = .own k → IsiC K (C k)) ⟨T.it_ty_str_ty_str, fun k e => by cases e⟩ all_nil)))))) _ h
theorem sc__law_box : FnScope ["_law_script", "_law_cell"] ["_law_script"] (defScope s__law_box) := ⟨rfl, rfl, rfl, by decide +kernel, rfl, by decide +kernel, by decide +kernel⟩
@[reducible] def m__law_box : SM := sRet (eObj (aCons (eLcO 1 [1] (lSeq (eSl (eVar 0) (oNone) (oSome (eC (.int 63))))) (bYes) (eFN fInt (aCons (eVar 1) (aNil)))) (aCons (eC (.int 0)) (aCons (eC (.int 1)) (aNil)))))
def g__law_box : FM := runB 2 m__law_box
theorem ok__law_box (T : Tx P K mg C A FD) : FnG P w K mg base C NN 1 (A "_law_box") (arN 1) g__law_box :=
  fng_of T.F__law_box sc__law_box (T.F__law_box.binds (ps := ["_law_script"]) fun _ _ _ _ _ _ us hl => match us, hl with | [_], _ => rfl) (fun cdv Ar outer s H E B hr =>
    (dss_one (ds_ret (de_obj (da_cons (de_lcO (own := [("_law_cell", 1)]) rfl sc__law_box.nd (di_lst rfl (de_slL rfl (de_var (pv 0)) do_none (do_some de_int))) (blkOk_by (own := [("_law_cell", 1)]) (N := ["_law_script", "_law_cell"]) (sc := defScope s__law_box) (by decide +kernel)) (by decide) (fun _ _ _ _ _ => pg_name (i := 1) sc__law_box.nd rfl (Or.inl rfl)) (fun _ _ _ _ _ => dts_nil) (fun _ _ _ _ _ => (de_callT dcall_int rfl T.no_int boot_int (da_cons (de_var (pv 1)) da_nil)))) (da_cons de_int (da_cons de_int da_nil)))))))
theorem sc__law_draw : FnScope ["_law_box_here", "_law_size", "_law_cells", "_law_place", "_law_cell", "_law_state", "_law_power"] ["_law_box_here", "_law_size"] (defScope s__law_draw) := ⟨rfl, rfl, rfl, by decide +kernel, rfl, by decide +kernel, by decide +kernel⟩
@[reducible] def m__law_draw : SM := sSeq (sSet 2 (eOp fIx (eVar 0) (eC (.int 0)))) (sSeq (sSet 3 (eOp fIx (eVar 0) (eC (.int 1)))) (sSeq (sIf (bOf isB (eOp (fEq) (eFN fLen (aCons (eVar 2) (aNil))) (eC (.int 0)))) (sRet (eC (.int 0))) (sNil)) (sSeq (sIf (bAnd (bOf isB (eOp (fLt) (eVar 3) (eFN fLen (aCons (eVar 2) (aNil))))) (bOf isB (eOp (fGe) (eOp fIx (eVar 2) (eVar 3)) (eOp (fPow) (eC (.int 10)) (eC (.int 18)))))) (sSeq (sSet 4 (eOp fIx (eVar 2) (eVar 3))) (sSeq (sSub (eVar 2) (eVar 3) (eOp (fDiv) (eVar 4) (eVar 1))) (sRet (eOp (fMod) (eFN fInt (aCons (eVar 4) (aNil))) (eVar 1))))) (sNil)) (sSeq (sSet 4 (eC (.int 0))) (sSeq (sIf (bOf isB (eOp (fLt) (eVar 3) (eFN fLen (aCons (eVar 2) (aNil))))) (sSet 4 (eOp fIx (eVar 2) (eVar 3))) (sNil)) (sSeq (sSub (eVar 0) (eC (.int 1)) (eOp (fAdd) (eVar 3) (eC (.int 1)))) (sSeq (sSet 5 (eOp (fMod) (eFN fInt (aCons (eOp (fAdd) (eOp (fAdd) (eOp (fAdd) (eOp (fMul) (eOp fIx (eVar 0) (eC (.int 2))) (eC (.int 48271))) (eOp (fMul) (eOp (fMod) (eFN fInt (aCons (eVar 4) (aNil))) (eC (.int 2147483629))) (eC (.int 69621)))) (eVar 3)) (eC (.int 1))) (aNil))) (eC (.int 2147483647)))) (sSeq (sSub (eVar 0) (eC (.int 2)) (eVar 5)) (sSeq (sSet 6 (eOp (fMod) (eFN fInt (aCons (eOp (fAdd) (eOp (fMul) (eVar 5) (eVar 5)) (eOp (fMul) (eVar 5) (eC (.int 16807)))) (aNil))) (eC (.int 998244353)))) (sRet (eOp (fMod) (eFN fInt (aCons (eOp (fDiv) (eVar 6) (eC (.int 5))) (aNil))) (eVar 1))))))))))))
def g__law_draw : FM := runB 7 m__law_draw
theorem ok__law_draw (T : Tx P K mg C A FD) : FnG P w K mg base C NN 1 (A "_law_draw") (arN 2) g__law_draw :=
  fng_of T.F__law_draw sc__law_draw (T.F__law_draw.binds (ps := ["_law_box_here", "_law_size"]) fun _ _ _ _ _ _ us hl => match us, hl with | [_, _], _ => rfl) (fun cdv Ar outer s H E B hr =>
    (dss_cons (ds_set (i := 2) sc__law_draw.nd rfl (Or.inl rfl) (de_ix (dix rfl) (de_var (pv 0)) de_int))
    (dss_cons (ds_set (i := 3) sc__law_draw.nd rfl (Or.inl rfl) (de_ix (dix rfl) (de_var (pv 0)) de_int))
    (dss_cons (ds_if (db_cmp (dop_eq rfl hr.units) (de_callB (dcall_len rfl) rfl T.no_len boot_len (da_cons (de_var (pv 2)) da_nil)) de_int (nomark _)) (dss_one (ds_ret de_int)) dss_nil)
    (dss_cons (ds_if (DW.db (dw_and (db_cmp dop_lt (de_var (pv 3)) (de_callB (dcall_len rfl) rfl T.no_len boot_len (da_cons (de_var (pv 2)) da_nil)) (nomark _)) (dw_and1 (db_cmp dop_ge (de_ix (dix rfl) (de_var (pv 2)) (de_var (pv 3))) (de_op dop_pow de_int de_int) (nomark _))))) (dss_cons (ds_set (i := 4) sc__law_draw.nd rfl (Or.inl rfl) (de_ix (dix rfl) (de_var (pv 2)) (de_var (pv 3))))
    (dss_cons (ds_sub (de_var (pv 2)) (de_var (pv 3)) (de_op dop_div (de_var (pv 4)) (de_var (pv 1))))
    (dss_one (ds_ret (de_op dop_mod (de_callT dcall_int rfl T.no_int boot_int (da_cons (de_var (pv 4)) da_nil)) (de_var (pv 1))))))) dss_nil)
    (dss_cons (ds_set (i := 4) sc__law_draw.nd rfl (Or.inl rfl) de_int)
    (dss_cons (ds_if (db_cmp dop_lt (de_var (pv 3)) (de_callB (dcall_len rfl) rfl T.no_len boot_len (da_cons (de_var (pv 2)) da_nil)) (nomark _)) (dss_one (ds_set (i := 4) sc__law_draw.nd rfl (Or.inl rfl) (de_ix (dix rfl) (de_var (pv 2)) (de_var (pv 3))))) dss_nil)
    (dss_cons (ds_sub (de_var (pv 0)) de_int (de_op dop_add (de_var (pv 3)) de_int))
    (dss_cons (ds_set (i := 5) sc__law_draw.nd rfl (Or.inl rfl) (de_op dop_mod (de_callT dcall_int rfl T.no_int boot_int (da_cons (de_op dop_add (de_op dop_add (de_op dop_add (de_op dop_mul (de_ix (dix rfl) (de_var (pv 0)) de_int) de_int) (de_op dop_mul (de_op dop_mod (de_callT dcall_int rfl T.no_int boot_int (da_cons (de_var (pv 4)) da_nil)) de_int) de_int)) (de_var (pv 3))) de_int) da_nil)) de_int))
    (dss_cons (ds_sub (de_var (pv 0)) de_int (de_var (pv 5)))
    (dss_cons (ds_set (i := 6) sc__law_draw.nd rfl (Or.inl rfl) (de_op dop_mod (de_callT dcall_int rfl T.no_int boot_int (da_cons (de_op dop_add (de_op dop_mul (de_var (pv 5)) (de_var (pv 5))) (de_op dop_mul (de_var (pv 5)) de_int)) da_nil)) de_int))
    (dss_one (ds_ret (de_op dop_mod (de_callT dcall_int rfl T.no_int boot_int (da_cons (de_op dop_div (de_var (pv 6)) de_int) da_nil)) (de_var (pv 1))))))))))))))))
theorem sc__law_lines : FnScope ["_law_box_here", "_law_wide", "_law_high", "_law_y", "_law_x"] ["_law_box_here", "_law_wide", "_law_high"] (defScope s__law_lines) := ⟨rfl, rfl, rfl, by decide +kernel, rfl, by decide +kernel, by decide +kernel⟩
@[reducible] def m__law_lines : SM := sRet (eLcO 3 [3] (lRng1 (aCons (eVar 2) (aNil))) (bYes) (eJoin (eC (.str "")) (eLc 4 [4] (lRng1 (aCons (eVar 1) (aNil))) (bYes) (eOp fIxT (eC (.str ".#")) (eCall (arN 2) g__law_draw (aCons (eVar 0) (aCons (eC (.int 2)) (aNil))))))))
def g__law_lines : FM := runB 5 m__law_lines
theorem ok__law_lines (T : Tx P K mg C A FD) : FnG P w K mg base C NN 2 (A "_law_lines") (arN 3) g__law_lines :=
  fng_of T.F__law_lines sc__law_lines (T.F__law_lines.binds (ps := ["_law_box_here", "_law_wide", "_law_high"]) fun _ _ _ _ _ _ us hl => match us, hl with | [_, _, _], _ => rfl) (fun cdv Ar outer s H E B hr =>
    (dss_one (ds_ret (de_lcO (own := [("_law_y", 3)]) rfl sc__law_lines.nd (di_range1 rfl T.no_range (da_cons (de_var (pv 2)) da_nil)) (blkOk_by (own := [("_law_y", 3)]) (N := ["_law_box_here", "_law_wide", "_law_high", "_law_y", "_law_x"]) (sc := defScope s__law_lines) (by decide +kernel)) (by decide) (fun _ _ _ _ _ => pg_name (i := 3) sc__law_lines.nd rfl (Or.inl rfl)) (fun _ _ _ _ _ => dts_nil) (fun _ _ _ _ _ => (de_join rfl de_str (de_lc (own := [("_law_x", 4)]) rfl sc__law_lines.nd (di_range1 rfl T.no_range (da_cons (de_var (pv 1)) da_nil)) (blkOk_by (own := [("_law_x", 4)]) (N := ["_law_box_here", "_law_wide", "_law_high", "_law_y", "_law_x"]) (of_decide_eq_true (by kernel_rfl))) (by decide) (fun _ _ _ _ _ => pg_name (i := 4) sc__law_lines.nd rfl (Or.inl rfl)) (fun _ _ _ _ _ => dts_nil) (fun _ _ _ _ _ => (de_ix dixT de_str (de_call (ok__law_draw T) rfl (hr.mono (by decide)) rfl T.M__law_draw T.F__law_draw.kp takesB (da_cons (de_var (pv 0)) (da_cons de_int da_nil))))))))))))
theorem sc__law_drawn_lines : FnScope ["_law_box_here", "_law_lines_here", "_law_wide", "_law_k", "_law_line", "_law_at", "_law_odd"] ["_law_box_here"] (defScope s__law_drawn_lines) := ⟨rfl, rfl, rfl, by decide +kernel, rfl, by decide +kernel, by decide +kernel⟩
@[reducible] def m__law_drawn_lines : SM := sSeq (sIf (bOf isB (eOp (fEq) (eCall (arN 2) g__law_draw (aCons (eVar 0) (aCons (eC (.int 6)) (aNil)))) (eC (.int 5)))) (sSeq (sSet 2 (eOp (fAdd) (eC (.int 39)) (eCall (arN 2) g__law_draw (aCons (eVar 0) (aCons (eC (.int 3)) (aNil)))))) (sSeq (sIf (bOf isB (eOp (fEq) (eCall (arN 2) g__law_draw (aCons (eVar 0) (aCons (eC (.int 2)) (aNil)))) (eC (.int 1)))) (sRet (eOp (alt2 (fMul) (alt2 fRepL fRepX)) (eLst (aCons (eC (.str "#")) (aNil))) (eVar 2))) (sNil)) (sRet (eLst (aCons (eOp (fAdd) (eOp (alt2 (fMul) (alt2 fRepL fRepX)) (eC (.str ".#")) (eC (.int 20))) (eSlS (eC (.str "....")) (oNone) (oSome (eOp (fAdd) (eOp (fSub) (eVar 2) (eC (.int 40))) (eCall (arN 2) g__law_draw (aCons (eVar 0) (aCons (eC (.int 2)) (aNil)))))))) (aNil)))))) (sNil)) (sSeq (sSet 1 (eCall (arN 3) g__law_lines (aCons (eVar 0) (aCons (eOp (fAdd) (eC (.int 1)) (eCall (arN 2) g__law_draw (aCons (eVar 0) (aCons (eC (.int 6)) (aNil))))) (aCons (eCall (arN 2) g__law_draw (aCons (eVar 0) (aCons (eC (.int 6)) (aNil)))) (aNil)))))) (sSeq (sIf (bAnd (bOf isB (eOp (fGt) (eFN fLen (aCons (eVar 1) (aNil))) (eC (.int 0)))) (bOf isB (eOp (fEq) (eCall (arN 2) g__law_draw (aCons (eVar 0) (aCons (eC (.int 2)) (aNil)))) (eC (.int 1))))) (sSeq (sSet 3 (eCall (arN 2) g__law_draw (aCons (eVar 0) (aCons (eFN fLen (aCons (eVar 1) (aNil))) (aNil))))) (sSeq (sSet 4 (eOp fIx (eVar 1) (eVar 3))) (sSeq (sSet 5 (eCall (arN 2) g__law_draw (aCons (eVar 0) (aCons (eFN fLen (aCons (eVar 4) (aNil))) (aNil))))) (sSeq (sSet 6 (eOp (fAdd) (eOp (fAdd) (eSlS (eVar 4) (oNone) (oSome (eVar 5))) (eOp fIxT (eC (.str "o?X -@")) (eCall (arN 2) g__law_draw (aCons (eVar 0) (aCons (eC (.int 6)) (aNil)))))) (eSlS (eVar 4) (oSome (eOp (fAdd) (eVar 5) (eC (.int 1)))) (oNone)))) (sSub (eVar 1) (eVar 3) (eOp fIx (eLst (aCons (eOp (fAdd) (eVar 4) (eC (.str "#"))) (aCons (eSlS (eVar 4) (oSome (eC (.int 1))) (oNone)) (aCons (eC (.str "")) (aCons (eVar 6) (aNil)))))) (eCall (arN 2) g__law_draw (aCons (eVar 0) (aCons (eC (.int 4)) (aNil)))))))))) (sNil)) (sRet (eVar 1))))
def g__law_drawn_lines : FM := runB 7 m__law_drawn_lines
theorem ok__law_drawn_lines (T : Tx P K mg C A FD) : FnG P w K mg base C NN 3 (A "_law_drawn_lines") (arN 1) g__law_drawn_lines :=
  fng_of T.F__law_drawn_lines sc__law_drawn_lines (T.F__law_drawn_lines.binds (ps := ["_law_box_here"]) fun _ _ _ _ _ _ us hl => match us, hl with | [_], _ => rfl) (fun cdv Ar outer s H E B hr =>
    (dss_cons (ds_if (db_cmp (dop_eq rfl hr.units) (de_call (ok__law_draw T) rfl (hr.mono (by decide)) rfl T.M__law_draw T.F__law_draw.kp (takesF rfl rfl rfl rfl) (da_cons (de_var (pv 0)) (da_cons de_int da_nil))) de_int (nomark _)) (dss_cons (ds_set (i := 2) sc__law_drawn_lines.nd rfl (Or.inl rfl) (de_op dop_add de_int (de_call (ok__law_draw T) rfl (hr.mono (by decide)) rfl T.M__law_draw T.F__law_draw.kp (takesF rfl rfl rfl rfl) (da_cons (de_var (pv 0)) (da_cons de_int da_nil)))))
    (dss_cons (ds_if (db_cmp (dop_eq rfl hr.units) (de_call (ok__law_draw T) rfl (hr.mono (by decide)) rfl T.M__law_draw T.F__law_draw.kp (takesF rfl rfl rfl rfl) (da_cons (de_var (pv 0)) (da_cons de_int da_nil))) de_int (nomark _)) (dss_one (ds_ret (de_op (opr_alt dop_mul (opr_alt (dop_repL rfl) dop_repX)) (de_lst (da_cons de_str da_nil)) (de_var (pv 2))))) dss_nil)
    (dss_one (ds_ret (de_lst (da_cons (de_op dop_add (de_op (opr_alt dop_mul (opr_alt (dop_repL rfl) dop_repX)) de_str de_int) (de_slS de_str do_none (do_some (de_op dop_add (de_op dop_sub (de_var (pv 2)) de_int) (de_call (ok__law_draw T) rfl (hr.mono (by decide)) rfl T.M__law_draw T.F__law_draw.kp (takesF rfl rfl rfl rfl) (da_cons (de_var (pv 0)) (da_cons de_int da_nil))))))) da_nil)))))) dss_nil)
    (dss_cons (ds_set (i := 1) sc__law_drawn_lines.nd rfl (Or.inl rfl) (de_call (ok__law_lines T) rfl (hr.mono (by decide)) rfl T.M__law_lines T.F__law_lines.kp (takesF rfl rfl rfl rfl) (da_cons (de_var (pv 0)) (da_cons (de_op dop_add de_int (de_call (ok__law_draw T) rfl (hr.mono (by decide)) rfl T.M__law_draw T.F__law_draw.kp (takesF rfl rfl rfl rfl) (da_cons (de_var (pv 0)) (da_cons de_int da_nil)))) (da_cons (de_call (ok__law_draw T) rfl (hr.mono (by decide)) rfl T.M__law_draw T.F__law_draw.kp (takesF rfl rfl rfl rfl) (da_cons (de_var (pv 0)) (da_cons de_int da_nil))) da_nil)))))
    (dss_cons (ds_if (DW.db (dw_and (db_cmp dop_gt (de_callB (dcall_len rfl) rfl T.no_len boot_len (da_cons (de_var (pv 1)) da_nil)) de_int (nomark _)) (dw_and1 (db_cmp (dop_eq rfl hr.units) (de_call (ok__law_draw T) rfl (hr.mono (by decide)) rfl T.M__law_draw T.F__law_draw.kp (takesF rfl rfl rfl rfl) (da_cons (de_var (pv 0)) (da_cons de_int da_nil))) de_int (nomark _))))) (dss_cons (ds_set (i := 3) sc__law_drawn_lines.nd rfl (Or.inl rfl) (de_call (ok__law_draw T) rfl (hr.mono (by decide)) rfl T.M__law_draw T.F__law_draw.kp (takesF rfl rfl rfl rfl) (da_cons (de_var (pv 0)) (da_cons (de_callB (dcall_len rfl) rfl T.no_len boot_len (da_cons (de_var (pv 1)) da_nil)) da_nil))))
    (dss_cons (ds_set (i := 4) sc__law_drawn_lines.nd rfl (Or.inl rfl) (de_ix (dix rfl) (de_var (pv 1)) (de_var (pv 3))))
    (dss_cons (ds_set (i := 5) sc__law_drawn_lines.nd rfl (Or.inl rfl) (de_call (ok__law_draw T) rfl (hr.mono (by decide)) rfl T.M__law_draw T.F__law_draw.kp (takesF rfl rfl rfl rfl) (da_cons (de_var (pv 0)) (da_cons (de_callB (dcall_len rfl) rfl T.no_len boot_len (da_cons (de_var (pv 4)) da_nil)) da_nil))))
    (dss_cons (ds_set (i := 6) sc__law_drawn_lines.nd rfl (Or.inl rfl) (de_op dop_add (de_op dop_add (de_slS (de_var (pv 4)) do_none (do_some (de_var (pv 5)))) (de_ix dixT de_str (de_call (ok__law_draw T) rfl (hr.mono (by decide)) rfl T.M__law_draw T.F__law_draw.kp (takesF rfl rfl rfl rfl) (da_cons (de_var (pv 0)) (da_cons de_int da_nil))))) (de_slS (de_var (pv 4)) (do_some (de_op dop_add (de_var (pv 5)) de_int)) do_none)))
    (dss_one (ds_sub (de_var (pv 1)) (de_var (pv 3)) (de_ix (dix rfl) (de_lst (da_cons (de_op dop_add (de_var (pv 4)) de_str) (da_cons (de_slS (de_var (pv 4)) (do_some de_int) do_none) (da_cons de_str (da_cons (de_var (pv 6)) da_nil))))) (de_call (ok__law_draw T) rfl (hr.mono (by decide)) rfl T.M__law_draw T.F__law_draw.kp (takesF rfl rfl rfl rfl) (da_cons (de_var (pv 0)) (da_cons de_int da_nil)))))))))) dss_nil)
    (dss_one (ds_ret (de_var (pv 1))))))))
theorem sc__law_bad : FnScope ["_law_lines_here", "_law_k", "_law_line", "_law_sign"] ["_law_lines_here"] (defScope s__law_bad) := ⟨rfl, rfl, rfl, by decide +kernel, rfl, by decide +kernel, by decide +kernel⟩
@[reducible] def m__law_bad : SM := sSeq (sIf (bOf isB (eOp (fEq) (eFN fLen (aCons (eVar 0) (aNil))) (eC (.int 0)))) (sRet (eC (.int 0))) (sNil)) (sSeq (sFor 1 (lRng1 (aCons (eFN fLen (aCons (eVar 0) (aNil))) (aNil))) (sSeq (sSet 2 (eOp fIx (eVar 0) (eVar 1))) (sSeq (sIf (bOr (bOf isB (eOp (fLt) (eFN fLen (aCons (eVar 2) (aNil))) (eC (.int 1)))) (bOr (bOf isB (eOp (fGt) (eFN fLen (aCons (eVar 2) (aNil))) (eC (.int 40)))) (bOr (bOf isB (eOp (fNe) (eFN fLen (aCons (eVar 2) (aNil))) (eFN fLen (aCons (eOp fIx (eVar 0) (eC (.int 0))) (aNil))))) (bOf isB (eOp (fGt) (eVar 1) (eC (.int 39))))))) (sRet (eVar 1)) (sNil)) (sIf (bOf isB (eOp (fNe) (eLc 3 [3] (lStr (eVar 2)) (bOf isB (eOp (fNotInS) (eVar 3) (eLst (aCons (eC (.str ".")) (aCons (eC (.str "#")) (aNil)))))) (eVar 3)) (eLst (aNil)))) (sRet (eVar 1)) (sNil))))) (sRet (eUn fNeg (eC (.int 1)))))
def g__law_bad : FM := runB 4 m__law_bad
theorem ok__law_bad (T : Tx P K mg C A FD) : FnG P w K mg base C NN 1 (A "_law_bad") (arN 1) g__law_bad :=
  fng_of T.F__law_bad sc__law_bad (T.F__law_bad.binds (ps := ["_law_lines_here"]) fun _ _ _ _ _ _ us hl => match us, hl with | [_], _ => rfl) (fun cdv Ar outer s H E B hr =>
    (dss_cons (ds_if (db_cmp (dop_eq rfl hr.units) (de_callB (dcall_len rfl) rfl T.no_len boot_len (da_cons (de_var (pv 0)) da_nil)) de_int (nomark _)) (dss_one (ds_ret de_int)) dss_nil)
    (dss_cons (ds_for (k := 1) (passes_of rfl) rfl (di_range1 rfl T.no_range (da_cons (de_callB (dcall_len rfl) rfl T.no_len boot_len (da_cons (de_var (pv 0)) da_nil)) da_nil)) (pg_name (i := 1) sc__law_bad.nd rfl (Or.inl rfl)) (dss_cons (ds_set (i := 2) sc__law_bad.nd rfl (Or.inl rfl) (de_ix (dix rfl) (de_var (pv 0)) (de_var (pv 1))))
    (dss_cons (ds_if (DW.db (dw_or (db_cmp dop_lt (de_callB (dcall_len rfl) rfl T.no_len boot_len (da_cons (de_var (pv 2)) da_nil)) de_int (nomark _)) (dw_or (db_cmp dop_gt (de_callB (dcall_len rfl) rfl T.no_len boot_len (da_cons (de_var (pv 2)) da_nil)) de_int (nomark _)) (dw_or (db_cmp (dop_ne rfl hr.units) (de_callB (dcall_len rfl) rfl T.no_len boot_len (da_cons (de_var (pv 2)) da_nil)) (de_callB (dcall_len rfl) rfl T.no_len boot_len (da_cons (de_ix (dix rfl) (de_var (pv 0)) de_int) da_nil)) (nomark _)) (dw_or1 (db_cmp dop_gt (de_var (pv 1)) de_int (nomark _))))))) (dss_one (ds_ret (de_var (pv 1)))) dss_nil)
    (dss_one (ds_if (db_cmp (dop_ne rfl hr.units) (de_lc (own := [("_law_sign", 3)]) rfl sc__law_bad.nd (di_str (de_var (pv 2))) (blkOk_by (own := [("_law_sign", 3)]) (N := ["_law_lines_here", "_law_k", "_law_line", "_law_sign"]) (sc := defScope s__law_bad) (by decide +kernel)) (by decide) (fun _ _ _ _ _ => pg_name (i := 3) sc__law_bad.nd rfl (Or.inl rfl)) (fun _ _ _ _ _ => (dts_one (db_cmp (dop_notinS rfl) (de_var (pv 3)) (de_lst (da_cons de_str (da_cons de_str da_nil))) (by rfl)))) (fun _ _ _ _ _ => (de_var (pv 3)))) (de_lst da_nil) (nomark _)) (dss_one (ds_ret (de_var (pv 1)))) dss_nil)))))
    (dss_one (ds_ret (de_un dun_neg de_int))))))
theorem sc_InvalidShape___init__ : NdefX.NScope ["self", "line", "__class__"] ["self", "line"] [("__class__" : Str)] (defScope s_InvalidShape___init__) := NdefX.nscope_by (by decide +kernel)
@[reducible] def m_InvalidShape___init__ : EM := eJs [eC (.str "line "), eUn fFmt (eVar 1), eC (.str " of the shape is not valid")]
theorem ok_InvalidShape___init__ (T : Tx P K mg C A FD) : FnOk P w K mg base (L2N.CX P w) 1 (A "InvalidShape.__init__") (FD "InvalidShape.__init__") ["self", "line"] (SpE K C NN "InvalidShape" "line" okI) :=
  err_ok (cn := "InvalidShape") (N := ["self", "line", "__class__"]) (m := m_InvalidShape___init__) T.er_InvalidShape sc_InvalidShape___init__ rfl (fun cc c Ar outer s H E B => (de_js (ms := [eC (.str "line "), eUn fFmt (eVar 1), eC (.str " of the shape is not valid")]) (PJ.cons de_str (PJ.cons (de_fmt (de_var (pv 1))) (PJ.cons de_str PJ.nil))))) (fun x G h => match x, h with | .int i, h => eJs_ok (all_cons str_ok (all_cons (fmt_ok rfl (of_decide_eq_true h)) (all_cons str_ok all_nil))) (by decide))
theorem sc__is_line : FnScope ["line"] ["line"] (defScope s__is_line) := ⟨rfl, rfl, rfl, by decide +kernel, rfl, by decide +kernel, by decide +kernel⟩
@[reducible] def m__is_line : SM := sSeq (sIf (bOr (bOf isB (eOp (fLt) (eFN fLen (aCons (eVar 0) (aNil))) (eC (.int 1)))) (bOf isB (eOp (fGt) (eFN fLen (aCons (eVar 0) (aNil))) (eC (.int 40))))) (sRet (eC (.bl false))) (sNil)) (sRet (eOp (fEq) (eOp (fAdd) (eCount (eVar 0) (eC (.str "#"))) (eCount (eVar 0) (eC (.str ".")))) (eFN fLen (aCons (eVar 0) (aNil)))))
def g__is_line : FM := runB 1 m__is_line
theorem ok__is_line (T : Tx P K mg C A FD) : FnG P w K mg base C NN 1 (A "_is_line") (arN 1) g__is_line :=
  fng_of T.F__is_line sc__is_line (T.F__is_line.binds (ps := ["line"]) fun _ _ _ _ _ _ us hl => match us, hl with | [_], _ => rfl) (fun cdv Ar outer s H E B hr =>
    (dss_cons (ds_if (DW.db (dw_or (db_cmp dop_lt (de_callB (dcall_len rfl) rfl T.no_len boot_len (da_cons (de_var (pv 0)) da_nil)) de_int (nomark _)) (dw_or1 (db_cmp dop_gt (de_callB (dcall_len rfl) rfl T.no_len boot_len (da_cons (de_var (pv 0)) da_nil)) (let ⟨_, h1, h2⟩ := T.co_SIDE; de_c (pe_glob rfl h1 h2) (fun _ _ _ => .int)) (nomark _))))) (dss_one (ds_ret de_bl)) dss_nil)
    (dss_one (ds_ret (de_cmp (dop_eq rfl hr.units) (de_op dop_add (de_count (de_var (pv 0)) (let ⟨_, h1, h2⟩ := T.co_OPEN; de_c (pe_glob rfl h1 h2) (fun _ _ _ => .str))) (de_count (de_var (pv 0)) (let ⟨_, h1, h2⟩ := T.co_SHUT; de_c (pe_glob rfl h1 h2) (fun _ _ _ => .str)))) (de_callB (dcall_len rfl) rfl T.no_len boot_len (da_cons (de_var (pv 0)) da_nil)) (nomark _))))))
theorem sc_Shape___init__ : FnScope ["self", "lines", "at", "line"] ["self", "lines"] (defScope s_Shape___init__) := ⟨rfl, rfl, rfl, by decide +kernel, rfl, by decide +kernel, by decide +kernel⟩
@[reducible] def m_Shape___init__ : SM := sSeq (sIf (bNot (bOf truE (eVar 1))) (sEr "InvalidShape" okI (eC (.int 0))) (sNil)) (sSeq (sForT [2, 3] (lEnumT (aCons (eVar 1) (aNil))) (sIf (bOr (bOf isB (eOp (fGe) (eVar 2) (eC (.int 40)))) (bOr (bOf isB (eOp (fNe) (eFN fLen (aCons (eVar 3) (aNil))) (eFN fLen (aCons (eOp fIx (eVar 1) (eC (.int 0))) (aNil))))) (bNot (bOf truE (eCall (arN 1) g__is_line (aCons (eVar 3) (aNil))))))) (sEr "InvalidShape" okI (eVar 2)) (sNil))) (sSeq (sFld 0 "Shape" 0 (eVar 1)) (sSeq (sFld 0 "Shape" 1 (eFN fLen (aCons (eOp fIx (eVar 1) (eC (.int 0))) (aNil)))) (sFld 0 "Shape" 2 (eFN fLen (aCons (eVar 1) (aNil)))))))
def g_Shape___init__ : IM := starI 0 (runI 4 "Shape" m_Shape___init__)
theorem ok_Shape___init__ (T : Tx P K mg C A FD) : FnI P w K mg base C NN 3 (A "Shape.__init__") "Shape" (arS 0) g_Shape___init__ :=
  fni_star T.F_Shape___init__ sc_Shape___init__ T.b_Shape___init__ (fun cdv Ar outer s H E B x hr =>
    (dss_cons (ds_if (db_not (db_tru rfl (de_var (pv 1)))) (dss_one (ds_raise1 T.er_InvalidShape.T T.er_InvalidShape.ini T.er_InvalidShape.ty (ok_InvalidShape___init__ T) (show (NN "InvalidShape").take 1 = [("line" : Str)] by decide +kernel) rfl (hr.mono (by decide)) T.er_InvalidShape.bd rfl (takesF rfl rfl rfl rfl) rfl T.M_InvalidShape de_int)) dss_nil)
    (dss_cons (ds_forT (is := [2, 3]) (passes_of rfl) rfl rfl (di_enT rfl rfl T.no_enumerate (da_cons (de_var (pv 1)) da_nil)) (pgs_cons (pg_name (i := 2) sc_Shape___init__.nd rfl (Or.inl rfl)) (pgs_cons (pg_name (i := 3) sc_Shape___init__.nd rfl (Or.inl rfl)) pgs_nil)) rfl (dss_one (ds_if (DW.db (dw_or (db_cmp dop_ge (de_var (pv 2)) (let ⟨_, h1, h2⟩ := T.co_SIDE; de_c (pe_glob rfl h1 h2) (fun _ _ _ => .int)) (nomark _)) (dw_or (db_cmp (dop_ne rfl hr.units) (de_callB (dcall_len rfl) rfl T.no_len boot_len (da_cons (de_var (pv 3)) da_nil)) (de_callB (dcall_len rfl) rfl T.no_len boot_len (da_cons (de_ix (dix rfl) (de_var (pv 1)) de_int) da_nil)) (nomark _)) (dw_or1 (db_not (db_tru rfl (de_call (ok__is_line T) rfl (hr.mono (by decide)) rfl T.M__is_line T.F__is_line.kp (takesF rfl rfl rfl rfl) (da_cons (de_var (pv 3)) da_nil)))))))) (dss_one (ds_raise1 T.er_InvalidShape.T T.er_InvalidShape.ini T.er_InvalidShape.ty (ok_InvalidShape___init__ T) (show (NN "InvalidShape").take 1 = [("line" : Str)] by decide +kernel) rfl (hr.mono (by decide)) T.er_InvalidShape.bd rfl (takesF rfl rfl rfl rfl) rfl T.M_InvalidShape (de_var (pv 2)))) dss_nil)))
    (dss_cons (ds_fld (hf_Shape_lines T) (pv 0) (de_var (pv 1)))
    (dss_cons (ds_fld (hf_Shape_width T) (pv 0) (de_callB (dcall_len rfl) rfl T.no_len boot_len (da_cons (de_ix (dix rfl) (de_var (pv 1)) de_int) da_nil)))
    (dss_one (ds_fld (hf_Shape_height T) (pv 0) (de_callB (dcall_len rfl) rfl T.no_len boot_len (da_cons (de_var (pv 1)) da_nil)))))))))
theorem sc_Shape_of : FnScope ["cls", "lines"] ["cls", "lines"] (defScope s_Shape_of) := ⟨rfl, rfl, rfl, by decide +kernel, rfl, by decide +kernel, by decide +kernel⟩
@[reducible] def m_Shape_of : SM := sRet (eMakeV 0 "Shape" (arS 0) g_Shape___init__ (aStX (eVar 1) aNil))
def g_Shape_of : FM := runB 2 m_Shape_of
theorem ok_Shape_of (T : Tx P K mg C A FD) : FnG P w K mg base C NN 5 (A "Shape.of") (arN 2) g_Shape_of :=
  fng_of T.F_Shape_of sc_Shape_of (T.F_Shape_of.binds (ps := ["cls", "lines"]) fun _ _ _ _ _ _ us hl => match us, hl with | [_, _], _ => rfl) (fun cdv Ar outer s H E B hr =>
    (dss_one (ds_ret (de_makeVX (i := 0) T.mk_Shape (ok_Shape___init__ T) rfl (hr.mono (by decide)) (takesF rfl rfl rfl rfl) (pv 0) (de_var (pv 1))))))
theorem sc__law_made : FnScope ["_law_lines_here"] ["_law_lines_here"] (defScope s__law_made) := ⟨rfl, rfl, rfl, by decide +kernel, rfl, by decide +kernel, by decide +kernel⟩
@[reducible] def m__law_made : SM := sSeq (sIf (bOf isB (eOp (fEq) (eFN fLen (aCons (eVar 0) (aNil))) (eC (.int 0)))) (sRet (eMake "Shape" (arS 0) g_Shape___init__ aNil)) (sNil)) (sSeq (sIf (bOf isB (eOp (fEq) (eFN fLen (aCons (eVar 0) (aNil))) (eC (.int 1)))) (sRet (eMake "Shape" (arS 0) g_Shape___init__ (aCons (eOp fIx (eVar 0) (eC (.int 0))) (aNil)))) (sNil)) (sSeq (sIf (bOf isB (eOp (fEq) (eFN fLen (aCons (eVar 0) (aNil))) (eC (.int 2)))) (sRet (eMake "Shape" (arS 0) g_Shape___init__ (aCons (eOp fIx (eVar 0) (eC (.int 0))) (aCons (eOp fIx (eVar 0) (eC (.int 1))) (aNil))))) (sNil)) (sSeq (sIf (bOf isB (eOp (fEq) (eFN fLen (aCons (eVar 0) (aNil))) (eC (.int 3)))) (sRet (eMake "Shape" (arS 0) g_Shape___init__ (aCons (eOp fIx (eVar 0) (eC (.int 0))) (aCons (eOp fIx (eVar 0) (eC (.int 1))) (aCons (eOp fIx (eVar 0) (eC (.int 2))) (aNil)))))) (sNil)) (sRet (eCMeth "Shape" (arN 2) g_Shape_of (aCons (eFN fTupleE (aCons (eVar 0) (aNil))) (aNil)))))))
def g__law_made : FM := runB 1 m__law_made
theorem ok__law_made (T : Tx P K mg C A FD) : FnG P w K mg base C NN 6 (A "_law_made") (arN 1) g__law_made :=
  fng_of T.F__law_made sc__law_made (T.F__law_made.binds (ps := ["_law_lines_here"]) fun _ _ _ _ _ _ us hl => match us, hl with | [_], _ => rfl) (fun cdv Ar outer s H E B hr =>
    (dss_cons (ds_if (db_cmp (dop_eq rfl hr.units) (de_callB (dcall_len rfl) rfl T.no_len boot_len (da_cons (de_var (pv 0)) da_nil)) de_int (nomark _)) (dss_one (ds_ret (de_make0 T.mk_Shape (ok_Shape___init__ T) rfl (hr.mono (by decide)) rfl T.M_Shape (takesF rfl rfl rfl rfl)))) dss_nil)
    (dss_cons (ds_if (db_cmp (dop_eq rfl hr.units) (de_callB (dcall_len rfl) rfl T.no_len boot_len (da_cons (de_var (pv 0)) da_nil)) de_int (nomark _)) (dss_one (ds_ret (de_make T.mk_Shape (ok_Shape___init__ T) rfl (hr.mono (by decide)) rfl T.M_Shape (takesF rfl rfl rfl rfl) (da_cons (de_ix (dix rfl) (de_var (pv 0)) de_int) da_nil)))) dss_nil)
    (dss_cons (ds_if (db_cmp (dop_eq rfl hr.units) (de_callB (dcall_len rfl) rfl T.no_len boot_len (da_cons (de_var (pv 0)) da_nil)) de_int (nomark _)) (dss_one (ds_ret (de_make T.mk_Shape (ok_Shape___init__ T) rfl (hr.mono (by decide)) rfl T.M_Shape (takesF rfl rfl rfl rfl) (da_cons (de_ix (dix rfl) (de_var (pv 0)) de_int) (da_cons (de_ix (dix rfl) (de_var (pv 0)) de_int) da_nil))))) dss_nil)
    (dss_cons (ds_if (db_cmp (dop_eq rfl hr.units) (de_callB (dcall_len rfl) rfl T.no_len boot_len (da_cons (de_var (pv 0)) da_nil)) de_int (nomark _)) (dss_one (ds_ret (de_make T.mk_Shape (ok_Shape___init__ T) rfl (hr.mono (by decide)) rfl T.M_Shape (takesF rfl rfl rfl rfl) (da_cons (de_ix (dix rfl) (de_var (pv 0)) de_int) (da_cons (de_ix (dix rfl) (de_var (pv 0)) de_int) (da_cons (de_ix (dix rfl) (de_var (pv 0)) de_int) da_nil)))))) dss_nil)
    (dss_one (ds_ret (let ⟨_, h1⟩ := T.cm_Shape_of; de_cmeth rfl rfl T.M_Shape T.cr_Shape h1 (ok_Shape_of T) (hr.mono (by decide)) (takesF rfl rfl rfl rfl) (da_cons (de_callT (dcall_tupleE rfl) rfl T.no_tuple boot_tuple (da_cons (de_var (pv 0)) da_nil)) da_nil)))))))))
theorem sc__law_int : FnScope ["_law_actual", "_law_expected"] ["_law_actual", "_law_expected"] (defScope s__law_int) := ⟨rfl, rfl, rfl, by decide +kernel, rfl, by decide +kernel, by decide +kernel⟩
@[reducible] def m__law_int : SM := sRet (eAnd (eFN (fIsi TB) (aCons (eVar 0) (aCons (eC (.ty "int")) (aNil)))) (eAnd (eNot (eFN (fIsi TB) (aCons (eVar 0) (aCons (eC (.ty "bool")) (aNil))))) (eOp (fEq) (eVar 0) (eVar 1))))
def g__law_int : FM := runB 2 m__law_int
theorem ok__law_int (T : Tx P K mg C A FD) : FnG P w K mg base C NN 1 (A "_law_int") (arN 2) g__law_int :=
  fng_of T.F__law_int sc__law_int (T.F__law_int.binds (ps := ["_law_actual", "_law_expected"]) fun _ _ _ _ _ _ us hl => match us, hl with | [_, _], _ => rfl) (fun cdv Ar outer s H E B hr =>
    (dss_one (ds_ret (de_and (de_callB (dcall_isi (tb := TB) rfl T.ik (fun _ _ _ h => isi_tb T h)) rfl T.no_isinstance boot_isinstance (da_cons (de_var (pv 0)) (da_cons (de_c (v := V.ty "int") (pe_bltn rfl T.no_int boot_int rfl) (fun _ _ _ => Rep.ty)) da_nil))) (de_and (de_not (de_callB (dcall_isi (tb := TB) rfl T.ik (fun _ _ _ h => isi_tb T h)) rfl T.no_isinstance boot_isinstance (da_cons (de_var (pv 0)) (da_cons (de_c (v := V.ty "bool") (pe_bltn rfl T.no_bool boot_bool rfl) (fun _ _ _ => Rep.ty)) da_nil)))) (de_one (de_cmp (dop_eq rfl hr.units) (de_var (pv 0)) (de_var (pv 1)) (nomark _))))))))
theorem oh__law_int (T : Tx P K mg C A FD) : FnGH P w K mg base C NN 1 (A "_law_int") (arN 2) g__law_int :=
  fngh_of (m := m__law_int) T.F__law_int sc__law_int (T.F__law_int.binds (ps := ["_law_actual", "_law_expected"]) fun _ _ _ _ _ _ us hl => match us, hl with | [_, _], _ => rfl) (fun cdv Ar outer s H E B p hr hot =>
    (dss_one (ds_ret (de_and (de_callB (dcall_isi (tb := TB) rfl T.ik (fun _ _ _ h => isi_tb T h)) rfl T.no_isinstance boot_isinstance (da_cons (de_var (pv 0)) (da_cons (de_c (v := V.ty "int") (pe_bltn rfl T.no_int boot_int rfl) (fun _ _ _ => Rep.ty)) da_nil))) (de_and (de_not (de_callB (dcall_isi (tb := TB) rfl T.ik (fun _ _ _ h => isi_tb T h)) rfl T.no_isinstance boot_isinstance (da_cons (de_var (pv 0)) (da_cons (de_c (v := V.ty "bool") (pe_bltn rfl T.no_bool boot_bool rfl) (fun _ _ _ => Rep.ty)) da_nil)))) (de_one (de_cmp (dop_eq rfl hr.units) (de_var (pv 0)) (de_var (pv 1)) (nomark _))))))))
theorem sc__law_same_text : FnScope ["_law_actual", "_law_expected"] ["_law_actual", "_law_expected"] (defScope s__law_same_text) := ⟨rfl, rfl, rfl, by decide +kernel, rfl, by decide +kernel, by decide +kernel⟩
@[reducible] def m__law_same_text : SM := sRet (eAnd (eFN (fIsi TB) (aCons (eVar 0) (aCons (eC (.ty "str")) (aNil)))) (eOp (fEq) (eVar 0) (eVar 1)))
def g__law_same_text : FM := runB 2 m__law_same_text
theorem ok__law_same_text (T : Tx P K mg C A FD) : FnG P w K mg base C NN 1 (A "_law_same_text") (arN 2) g__law_same_text :=
  fng_of T.F__law_same_text sc__law_same_text (T.F__law_same_text.binds (ps := ["_law_actual", "_law_expected"]) fun _ _ _ _ _ _ us hl => match us, hl with | [_, _], _ => rfl) (fun cdv Ar outer s H E B hr =>
    (dss_one (ds_ret (de_and (de_callB (dcall_isi (tb := TB) rfl T.ik (fun _ _ _ h => isi_tb T h)) rfl T.no_isinstance boot_isinstance (da_cons (de_var (pv 0)) (da_cons (de_c (v := V.ty "str") (pe_bltn rfl T.no_str boot_str rfl) (fun _ _ _ => Rep.ty)) da_nil))) (de_one (de_cmp (dop_eq rfl hr.units) (de_var (pv 0)) (de_var (pv 1)) (nomark _)))))))
theorem sc__law_same_names : FnScope ["_law_actual", "_law_names", "_law_k"] ["_law_actual", "_law_names"] (defScope s__law_same_names) := ⟨rfl, rfl, rfl, by decide +kernel, rfl, by decide +kernel, by decide +kernel⟩
@[reducible] def m__law_same_names : SM := sSeq (sIf (bOr (bNot (bOf truE (eFN (fIsi TB) (aCons (eVar 0) (aCons (eC (.ty "tuple")) (aNil)))))) (bOf isB (eOp (fNe) (eFN fLen (aCons (eVar 0) (aNil))) (eFN fLen (aCons (eVar 1) (aNil)))))) (sRet (eC (.bl false))) (sNil)) (sRet (eFN fAll (aCons (eLc 2 [2] (lRng1 (aCons (eFN fLen (aCons (eVar 1) (aNil))) (aNil))) (bYes) (eCall (arN 2) g__law_same_text (aCons (eOp fIx (eVar 0) (eVar 2)) (aCons (eOp fIx (eVar 1) (eVar 2)) (aNil))))) (aNil))))
def g__law_same_names : FM := runB 3 m__law_same_names
theorem ok__law_same_names (T : Tx P K mg C A FD) : FnG P w K mg base C NN 2 (A "_law_same_names") (arN 2) g__law_same_names :=
  fng_of T.F__law_same_names sc__law_same_names (T.F__law_same_names.binds (ps := ["_law_actual", "_law_names"]) fun _ _ _ _ _ _ us hl => match us, hl with | [_, _], _ => rfl) (fun cdv Ar outer s H E B hr =>
    (dss_cons (ds_if (DW.db (dw_or (db_not (db_tru rfl (de_callB (dcall_isi (tb := TB) rfl T.ik (fun _ _ _ h => isi_tb T h)) rfl T.no_isinstance boot_isinstance (da_cons (de_var (pv 0)) (da_cons (de_c (v := V.ty "tuple") (pe_bltn rfl T.no_tuple boot_tuple rfl) (fun _ _ _ => Rep.ty)) da_nil))))) (dw_or1 (db_cmp (dop_ne rfl hr.units) (de_callB (dcall_len rfl) rfl T.no_len boot_len (da_cons (de_var (pv 0)) da_nil)) (de_callB (dcall_len rfl) rfl T.no_len boot_len (da_cons (de_var (pv 1)) da_nil)) (nomark _))))) (dss_one (ds_ret de_bl)) dss_nil)
    (dss_one (ds_ret (de_callB (dcall_all rfl rfl) rfl T.no_all boot_all (da_cons (de_lc (own := [("_law_k", 2)]) rfl sc__law_same_names.nd (di_range1 rfl T.no_range (da_cons (de_callB (dcall_len rfl) rfl T.no_len boot_len (da_cons (de_var (pv 1)) da_nil)) da_nil)) (blkOk_by (own := [("_law_k", 2)]) (N := ["_law_actual", "_law_names", "_law_k"]) (sc := defScope s__law_same_names) (by decide +kernel)) (by decide) (fun _ _ _ _ _ => pg_name (i := 2) sc__law_same_names.nd rfl (Or.inl rfl)) (fun _ _ _ _ _ => dts_nil) (fun _ _ _ _ _ => (de_call (ok__law_same_text T) rfl (hr.mono (by decide)) rfl T.M__law_same_text T.F__law_same_text.kp takesB (da_cons (de_ix (dix rfl) (de_var (pv 0)) (de_var (pv 2))) (da_cons (de_ix (dix rfl) (de_var (pv 1)) (de_var (pv 2))) da_nil))))) da_nil))))))
theorem sc__law_same_shape : FnScope ["_law_shape", "_law_lines_here"] ["_law_shape", "_law_lines_here"] (defScope s__law_same_shape) := ⟨rfl, rfl, rfl, by decide +kernel, rfl, by decide +kernel, by decide +kernel⟩
@[reducible] def m__law_same_shape : SM := sSeq (sIf (bOr (bNot (bOf truE (eFN (fIsi TB) (aCons (eVar 0) (aCons (eC (.cls "Shape")) (aNil)))))) (bNot (bOf truE (eCall (arN 2) g__law_same_names (aCons (eFld [("Shape", 0)] (eVar 0)) (aCons (eVar 1) (aNil))))))) (sRet (eC (.bl false))) (sNil)) (sRet (eAnd (eCall (arN 2) g__law_int (aCons (eFld [("Shape", 1)] (eVar 0)) (aCons (eFN fLen (aCons (eOp fIx (eVar 1) (eC (.int 0))) (aNil))) (aNil)))) (eCall (arN 2) g__law_int (aCons (eFld [("Shape", 2)] (eVar 0)) (aCons (eFN fLen (aCons (eVar 1) (aNil))) (aNil))))))
def g__law_same_shape : FM := runB 2 m__law_same_shape
theorem ok__law_same_shape (T : Tx P K mg C A FD) : FnG P w K mg base C NN 3 (A "_law_same_shape") (arN 2) g__law_same_shape :=
  fng_of T.F__law_same_shape sc__law_same_shape (T.F__law_same_shape.binds (ps := ["_law_shape", "_law_lines_here"]) fun _ _ _ _ _ _ us hl => match us, hl with | [_, _], _ => rfl) (fun cdv Ar outer s H E B hr =>
    (dss_cons (ds_if (DW.db (dw_or (db_not (db_tru rfl (de_callB (dcall_isi (tb := TB) rfl T.ik (fun _ _ _ h => isi_tb T h)) rfl T.no_isinstance boot_isinstance (da_cons (de_var (pv 0)) (da_cons (de_c (v := V.ref (C "Shape")) (pe_glob rfl T.M_Shape rfl) (fun _ _ _ => Rep.cls)) da_nil))))) (dw_or1 (db_not (db_tru rfl (de_call (ok__law_same_names T) rfl (hr.mono (by decide)) rfl T.M__law_same_names T.F__law_same_names.kp (takesF rfl rfl rfl rfl) (da_cons (de_fld (ks := [("Shape", 0)]) rfl (kix_all (all_cons (hf_Shape_lines T) all_nil)) (de_var (pv 0))) (da_cons (de_var (pv 1)) da_nil)))))))) (dss_one (ds_ret de_bl)) dss_nil)
    (dss_one (ds_ret (de_and (de_call (ok__law_int T) rfl (hr.mono (by decide)) rfl T.M__law_int T.F__law_int.kp (takesF rfl rfl rfl rfl) (da_cons (de_fld (ks := [("Shape", 1)]) rfl (kix_all (all_cons (hf_Shape_width T) all_nil)) (de_var (pv 0))) (da_cons (de_callB (dcall_len rfl) rfl T.no_len boot_len (da_cons (de_ix (dix rfl) (de_var (pv 1)) de_int) da_nil)) da_nil))) (de_one (de_call (ok__law_int T) rfl (hr.mono (by decide)) rfl T.M__law_int T.F__law_int.kp (takesF rfl rfl rfl rfl) (da_cons (de_fld (ks := [("Shape", 2)]) rfl (kix_all (all_cons (hf_Shape_height T) all_nil)) (de_var (pv 0))) (da_cons (de_callB (dcall_len rfl) rfl T.no_len boot_len (da_cons (de_var (pv 1)) da_nil)) da_nil)))))))))
theorem sc__law_is : FnScope ["_law_actual", "_law_expected"] ["_law_actual", "_law_expected"] (defScope s__law_is) := ⟨rfl, rfl, rfl, by decide +kernel, rfl, by decide +kernel, by decide +kernel⟩
@[reducible] def m__law_is : SM := sRet (eAnd (eFN (fIsi TB) (aCons (eVar 0) (aCons (eC (.ty "bool")) (aNil)))) (eOp (fEq) (eVar 0) (eVar 1)))
def g__law_is : FM := runB 2 m__law_is
theorem ok__law_is (T : Tx P K mg C A FD) : FnG P w K mg base C NN 1 (A "_law_is") (arN 2) g__law_is :=
  fng_of T.F__law_is sc__law_is (T.F__law_is.binds (ps := ["_law_actual", "_law_expected"]) fun _ _ _ _ _ _ us hl => match us, hl with | [_, _], _ => rfl) (fun cdv Ar outer s H E B hr =>
    (dss_one (ds_ret (de_and (de_callB (dcall_isi (tb := TB) rfl T.ik (fun _ _ _ h => isi_tb T h)) rfl T.no_isinstance boot_isinstance (da_cons (de_var (pv 0)) (da_cons (de_c (v := V.ty "bool") (pe_bltn rfl T.no_bool boot_bool rfl) (fun _ _ _ => Rep.ty)) da_nil))) (de_one (de_cmp (dop_eq rfl hr.units) (de_var (pv 0)) (de_var (pv 1)) (nomark _)))))))
theorem sc_Shape___contains__ : FnScope ["self", "place", "x", "y"] ["self", "place"] (defScope s_Shape___contains__) := ⟨rfl, rfl, rfl, by decide +kernel, rfl, by decide +kernel, by decide +kernel⟩
@[reducible] def m_Shape___contains__ : SM := sSeq (sUnp [2, 3] (eVar 1)) (sSeq (sIf (bOr (bOf isB (eOp (fLt) (eVar 2) (eC (.int 0)))) (bOr (bOf isB (eOp (fGe) (eVar 2) (eFld [("Shape", 1)] (eVar 0)))) (bOr (bOf isB (eOp (fLt) (eVar 3) (eC (.int 0)))) (bOf isB (eOp (fGe) (eVar 3) (eFld [("Shape", 2)] (eVar 0))))))) (sRet (eC (.bl false))) (sNil)) (sRet (eOp (fEq) (eOp fIxT (eOp fIx (eFld [("Shape", 0)] (eVar 0)) (eVar 3)) (eVar 2)) (eC (.str "#")))))
def g_Shape___contains__ : FM := runB 4 m_Shape___contains__
theorem ok_Shape___contains__ (T : Tx P K mg C A FD) : FnG P w K mg base C NN 1 (A "Shape.__contains__") (arN 2) g_Shape___contains__ :=
  fng_of T.F_Shape___contains__ sc_Shape___contains__ (T.F_Shape___contains__.binds (ps := ["self", "place"]) fun _ _ _ _ _ _ us hl => match us, hl with | [_, _], _ => rfl) (fun cdv Ar outer s H E B hr =>
    (dss_cons (ds_unp (is := [2, 3]) rfl rfl (de_var (pv 1)) (pgs_cons (pg_name (i := 2) sc_Shape___contains__.nd rfl (Or.inl rfl)) (pgs_cons (pg_name (i := 3) sc_Shape___contains__.nd rfl (Or.inl rfl)) pgs_nil)) rfl)
    (dss_cons (ds_if (DW.db (dw_or (db_cmp dop_lt (de_var (pv 2)) de_int (nomark _)) (dw_or (db_cmp dop_ge (de_var (pv 2)) (de_fld (ks := [("Shape", 1)]) rfl (kix_all (all_cons (hf_Shape_width T) all_nil)) (de_var (pv 0))) (nomark _)) (dw_or (db_cmp dop_lt (de_var (pv 3)) de_int (nomark _)) (dw_or1 (db_cmp dop_ge (de_var (pv 3)) (de_fld (ks := [("Shape", 2)]) rfl (kix_all (all_cons (hf_Shape_height T) all_nil)) (de_var (pv 0))) (nomark _))))))) (dss_one (ds_ret de_bl)) dss_nil)
    (dss_one (ds_ret (de_cmp (dop_eq rfl hr.units) (de_ix dixT (de_ix (dix rfl) (de_fld (ks := [("Shape", 0)]) rfl (kix_all (all_cons (hf_Shape_lines T) all_nil)) (de_var (pv 0))) (de_var (pv 3))) (de_var (pv 2))) (let ⟨_, h1, h2⟩ := T.co_OPEN; de_c (pe_glob rfl h1 h2) (fun _ _ _ => .str)) (nomark _)))))))
theorem sc_Shape_area : FnScope ["self", "line"] ["self"] (defScope s_Shape_area) := ⟨rfl, rfl, rfl, by decide +kernel, rfl, by decide +kernel, by decide +kernel⟩
@[reducible] def m_Shape_area : SM := sRet (eFN fSum (aCons (eLc 1 [1] (lTup (eFld [("Shape", 0)] (eVar 0))) (bYes) (eCount (eVar 1) (eC (.str "#")))) (aNil)))
def g_Shape_area : FM := runB 2 m_Shape_area
theorem ok_Shape_area (T : Tx P K mg C A FD) : FnG P w K mg base C NN 1 (A "Shape.area") (arN 1) g_Shape_area :=
  fng_of T.F_Shape_area sc_Shape_area (T.F_Shape_area.binds (ps := ["self"]) fun _ _ _ _ _ _ us hl => match us, hl with | [_], _ => rfl) (fun cdv Ar outer s H E B hr =>
    (dss_one (ds_ret (de_callB (dcall_sum rfl rfl) rfl T.no_sum boot_sum (da_cons (de_lc (own := [("line", 1)]) rfl sc_Shape_area.nd (di_tup rfl (de_fld (ks := [("Shape", 0)]) rfl (kix_all (all_cons (hf_Shape_lines T) all_nil)) (de_var (pv 0)))) (blkOk_by (own := [("line", 1)]) (N := ["self", "line"]) (sc := defScope s_Shape_area) (by decide +kernel)) (by decide) (fun _ _ _ _ _ => pg_name (i := 1) sc_Shape_area.nd rfl (Or.inl rfl)) (fun _ _ _ _ _ => dts_nil) (fun _ _ _ _ _ => (de_count (de_var (pv 1)) (let ⟨_, h1, h2⟩ := T.co_OPEN; de_c (pe_glob rfl h1 h2) (fun _ _ _ => .str))))) da_nil)))))
theorem hm_Shape_area (T : Tx P K mg C A FD) : HasM P w K mg base C NN 1 "area" "Shape" (arN 1) g_Shape_area := ⟨T.cl_Shape, by decide +kernel, _, T.me_Shape_area, ok_Shape_area T⟩
theorem sc__law_right : FnScope ["_law_shape", "_law_lines_here", "_law_far", "_law_many", "_law_y", "_law_place", "_law_x", "_law_inside"] ["_law_shape", "_law_lines_here", "_law_far"] (defScope s__law_right) := ⟨rfl, rfl, rfl, by decide +kernel, rfl, by decide +kernel, by decide +kernel⟩
@[reducible] def m__law_right : SM := sSeq (sIf (bNot (bOf truE (eCall (arN 2) g__law_same_shape (aCons (eVar 0) (aCons (eVar 1) (aNil)))))) (sRet (eC (.bl false))) (sNil)) (sSeq (sSet 3 (eC (.int 0))) (sSeq (sFor 4 (lRng1 (aCons (eFN fLen (aCons (eVar 1) (aNil))) (aNil))) (sFor 6 (lRng1 (aCons (eFN fLen (aCons (eOp fIx (eVar 1) (eC (.int 0))) (aNil))) (aNil))) (sSeq (sSet 3 (eOp (fAdd) (eVar 3) (eFN fInt (aCons (eOp (fEq) (eOp fIxT (eOp fIx (eVar 1) (eVar 4)) (eVar 6)) (eC (.str "#"))) (aNil))))) (sIf (bNot (bOf truE (eCall (arN 2) g__law_is (aCons (eOp (alt2 (fInI) (fInOwn "Shape" (arN 2) g_Shape___contains__)) (eTup (aCons (eVar 6) (aCons (eVar 4) (aNil)))) (eVar 0)) (aCons (eOp (fEq) (eOp fIxT (eOp fIx (eVar 1) (eVar 4)) (eVar 6)) (eC (.str "#"))) (aNil)))))) (sRet (eC (.bl false))) (sNil))))) (sSeq (sFor 5 (lSeq (eLst (aCons (eTup (aCons (eUn fNeg (eC (.int 1))) (aCons (eC (.int 0)) (aNil)))) (aCons (eTup (aCons (eC (.int 0)) (aCons (eUn fNeg (eC (.int 1))) (aNil)))) (aCons (eTup (aCons (eFN fLen (aCons (eOp fIx (eVar 1) (eC (.int 0))) (aNil))) (aCons (eC (.int 0)) (aNil)))) (aCons (eTup (aCons (eC (.int 0)) (aCons (eFN fLen (aCons (eVar 1) (aNil))) (aNil)))) (aCons (eTup (aCons (eVar 2) (aCons (eC (.int 0)) (aNil)))) (aCons (eTup (aCons (eC (.int 0)) (aCons (eOp (fSub) (eUn fNeg (eC (.int 1))) (eVar 2)) (aNil)))) (aNil))))))))) (sSeq (sSet 7 (eAnd (eChain (fLe) (fLt) (eC (.int 0)) (eOp fIx (eVar 5) (eC (.int 0))) (eFN fLen (aCons (eOp fIx (eVar 1) (eC (.int 0))) (aNil)))) (eOp (fEq) (eOp fIx (eVar 5) (eC (.int 1))) (eC (.int 0))))) (sIf (bNot (bOf truE (eCall (arN 2) g__law_is (aCons (eOp (alt2 (fInI) (fInOwn "Shape" (arN 2) g_Shape___contains__)) (eVar 5) (eVar 0)) (aCons (eAnd (eVar 7) (eOp (fEq) (eOp fIxT (eOp fIx (eVar 1) (eC (.int 0))) (eOp fIx (eVar 5) (eC (.int 0)))) (eC (.str "#")))) (aNil)))))) (sRet (eC (.bl false))) (sNil)))) (sRet (eCall (arN 2) g__law_int (aCons (eMeth [("Shape", ((arN 1 : DL.Ar), g_Shape_area))] (eVar 0) aNil) (aCons (eVar 3) (aNil))))))))
def g__law_right : FM := runB 8 m__law_right
theorem ok__law_right (T : Tx P K mg C A FD) : FnG P w K mg base C NN 4 (A "_law_right") (arN 3) g__law_right :=
  fng_of T.F__law_right sc__law_right (T.F__law_right.binds (ps := ["_law_shape", "_law_lines_here", "_law_far"]) fun _ _ _ _ _ _ us hl => match us, hl with | [_, _, _], _ => rfl) (fun cdv Ar outer s H E B hr =>
    (dss_cons (ds_if (db_not (db_tru rfl (de_call (ok__law_same_shape T) rfl (hr.mono (by decide)) rfl T.M__law_same_shape T.F__law_same_shape.kp (takesF rfl rfl rfl rfl) (da_cons (de_var (pv 0)) (da_cons (de_var (pv 1)) da_nil))))) (dss_one (ds_ret de_bl)) dss_nil)
    (dss_cons (ds_set (i := 3) sc__law_right.nd rfl (Or.inl rfl) de_int)
    (dss_cons (ds_for (k := 4) (passes_of rfl) rfl (di_range1 rfl T.no_range (da_cons (de_callB (dcall_len rfl) rfl T.no_len boot_len (da_cons (de_var (pv 1)) da_nil)) da_nil)) (pg_name (i := 4) sc__law_right.nd rfl (Or.inl rfl)) (dss_one (ds_for (k := 6) (passes_of rfl) rfl (di_range1 rfl T.no_range (da_cons (de_callB (dcall_len rfl) rfl T.no_len boot_len (da_cons (de_ix (dix rfl) (de_var (pv 1)) de_int) da_nil)) da_nil)) (pg_name (i := 6) sc__law_right.nd rfl (Or.inl rfl)) (dss_cons (ds_set (i := 3) sc__law_right.nd rfl (Or.inl rfl) (de_op dop_add (de_var (pv 3)) (de_callT dcall_int rfl T.no_int boot_int (da_cons (de_cmp (dop_eq rfl hr.units) (de_ix dixT (de_ix (dix rfl) (de_var (pv 1)) (de_var (pv 4))) (de_var (pv 6))) de_str (nomark _)) da_nil))))
    (dss_one (ds_if (db_not (db_tru rfl (de_call (ok__law_is T) rfl (hr.mono (by decide)) rfl T.M__law_is T.F__law_is.kp (takesF rfl rfl rfl rfl) (da_cons (de_cmp (opr_alt (dop_inI rfl) (dop_inO rfl (hr.mono (by decide)) T.ow_Shape___contains__ T.fn_Shape___contains__ (ok_Shape___contains__ T))) (de_tup (da_cons (de_var (pv 6)) (da_cons (de_var (pv 4)) da_nil))) (de_var (pv 0)) (by rfl)) (da_cons (de_cmp (dop_eq rfl hr.units) (de_ix dixT (de_ix (dix rfl) (de_var (pv 1)) (de_var (pv 4))) (de_var (pv 6))) de_str (nomark _)) da_nil))))) (dss_one (ds_ret de_bl)) dss_nil))))))
    (dss_cons (ds_for (k := 5) (passes_of rfl) rfl (di_lst rfl (de_lst (da_cons (de_tup (da_cons (de_un dun_neg de_int) (da_cons de_int da_nil))) (da_cons (de_tup (da_cons de_int (da_cons (de_un dun_neg de_int) da_nil))) (da_cons (de_tup (da_cons (de_callB (dcall_len rfl) rfl T.no_len boot_len (da_cons (de_ix (dix rfl) (de_var (pv 1)) de_int) da_nil)) (da_cons de_int da_nil))) (da_cons (de_tup (da_cons de_int (da_cons (de_callB (dcall_len rfl) rfl T.no_len boot_len (da_cons (de_var (pv 1)) da_nil)) da_nil))) (da_cons (de_tup (da_cons (de_var (pv 2)) (da_cons de_int da_nil))) (da_cons (de_tup (da_cons de_int (da_cons (de_op dop_sub (de_un dun_neg de_int) (de_var (pv 2))) da_nil))) da_nil)))))))) (pg_name (i := 5) sc__law_right.nd rfl (Or.inl rfl)) (dss_cons (ds_set (i := 7) sc__law_right.nd rfl (Or.inl rfl) (de_and (de_chain dop_le dop_lt de_int (de_ix (dix rfl) (de_var (pv 5)) de_int) (de_callB (dcall_len rfl) rfl T.no_len boot_len (da_cons (de_ix (dix rfl) (de_var (pv 1)) de_int) da_nil))) (de_one (de_cmp (dop_eq rfl hr.units) (de_ix (dix rfl) (de_var (pv 5)) de_int) de_int (nomark _)))))
    (dss_one (ds_if (db_not (db_tru rfl (de_call (ok__law_is T) rfl (hr.mono (by decide)) rfl T.M__law_is T.F__law_is.kp (takesF rfl rfl rfl rfl) (da_cons (de_cmp (opr_alt (dop_inI rfl) (dop_inO rfl (hr.mono (by decide)) T.ow_Shape___contains__ T.fn_Shape___contains__ (ok_Shape___contains__ T))) (de_var (pv 5)) (de_var (pv 0)) (by rfl)) (da_cons (de_and (de_var (pv 7)) (de_one (de_cmp (dop_eq rfl hr.units) (de_ix dixT (de_ix (dix rfl) (de_var (pv 1)) de_int) (de_ix (dix rfl) (de_var (pv 5)) de_int)) de_str (nomark _)))) da_nil))))) (dss_one (ds_ret de_bl)) dss_nil))))
    (dss_one (ds_ret (de_call (ok__law_int T) rfl (hr.mono (by decide)) rfl T.M__law_int T.F__law_int.kp (takesF rfl rfl rfl rfl) (da_cons (de_meth0 (lv := 1) rfl (hr.mono (by decide)) (takesF rfl rfl rfl rfl) (fun k A g => kfn_all (all_cons (hm_Shape_area T) all_nil) k A g) (de_var (pv 0))) (da_cons (de_var (pv 3)) da_nil))))))))))
theorem sc__law_two : FnScope ["_law_box_here", "_law_lines_here", "_law_turn", "_law_bad_here", "_law_shape", "e", "_law_k", "_law_line", "_law_at", "_law_odd"] ["_law_box_here"] (defScope s__law_two) := ⟨rfl, rfl, rfl, by decide +kernel, rfl, by decide +kernel, by decide +kernel⟩
@[reducible] def m__law_two : SM := sSeq (sSet 1 (eCall (arN 3) g__law_lines (aCons (eVar 0) (aCons (eOp (fAdd) (eC (.int 1)) (eCall (arN 2) g__law_draw (aCons (eVar 0) (aCons (eC (.int 4)) (aNil))))) (aCons (eOp (fAdd) (eC (.int 2)) (eCall (arN 2) g__law_draw (aCons (eVar 0) (aCons (eC (.int 4)) (aNil))))) (aNil)))))) (sSeq (sFor 2 (lRng1 (aCons (eC (.int 2)) (aNil))) (sSeq (sSet 6 (eCall (arN 2) g__law_draw (aCons (eVar 0) (aCons (eFN fLen (aCons (eVar 1) (aNil))) (aNil))))) (sSeq (sSet 7 (eOp fIx (eVar 1) (eVar 6))) (sSeq (sSet 8 (eCall (arN 2) g__law_draw (aCons (eVar 0) (aCons (eOp (fAdd) (eFN fLen (aCons (eVar 7) (aNil))) (eC (.int 1))) (aNil))))) (sSeq (sSet 9 (eLst (aCons (eOp (fAdd) (eOp (fAdd) (eSlS (eVar 7) (oNone) (oSome (eVar 8))) (eC (.str "o"))) (eSlS (eVar 7) (oSome (eOp (fAdd) (eVar 8) (eC (.int 1)))) (oNone))) (aCons (eOp (fAdd) (eSlS (eVar 7) (oNone) (oSome (eVar 8))) (eSlS (eVar 7) (oSome (eOp (fAdd) (eVar 8) (eC (.int 1)))) (oNone))) (aCons (eOp (fAdd) (eOp (fAdd) (eSlS (eVar 7) (oNone) (oSome (eVar 8))) (eC (.str "#"))) (eSlS (eVar 7) (oSome (eVar 8)) (oNone))) (aNil)))))) (sSub (eVar 1) (eVar 6) (eOp fIx (eVar 9) (eCall (arN 2) g__law_draw (aCons (eVar 0) (aCons (eC (.int 3)) (aNil))))))))))) (sSeq (sSet 3 (eCall (arN 1) g__law_bad (aCons (eVar 1) (aNil)))) (sSeq (sSet 4 (eC .non)) (sSeq (sTryAs 5 "InvalidShape" (sSet 4 (eCMeth "Shape" (arN 2) g_Shape_of (aCons (eVar 1) (aNil)))) (sRet (eAnd (eOp (fGe) (eVar 3) (eC (.int 0))) (eCall (arN 2) g__law_int (aCons (eXf 5 "InvalidShape" 0) (aCons (eVar 3) (aNil))))))) (sRet (eAnd (eOp (fLt) (eVar 3) (eC (.int 0))) (eCall (arN 2) g__law_same_shape (aCons (eVar 4) (aCons (eVar 1) (aNil))))))))))
def g__law_two : FM := runB 10 m__law_two
theorem ok__law_two (T : Tx P K mg C A FD) : FnG P w K mg base C NN 6 (A "_law_two") (arN 1) g__law_two :=
  fng_of T.F__law_two sc__law_two (T.F__law_two.binds (ps := ["_law_box_here"]) fun _ _ _ _ _ _ us hl => match us, hl with | [_], _ => rfl) (fun cdv Ar outer s H E B hr =>
    (dss_cons (ds_set (i := 1) sc__law_two.nd rfl (Or.inl rfl) (de_call (ok__law_lines T) rfl (hr.mono (by decide)) rfl T.M__law_lines T.F__law_lines.kp (takesF rfl rfl rfl rfl) (da_cons (de_var (pv 0)) (da_cons (de_op dop_add de_int (de_call (ok__law_draw T) rfl (hr.mono (by decide)) rfl T.M__law_draw T.F__law_draw.kp (takesF rfl rfl rfl rfl) (da_cons (de_var (pv 0)) (da_cons de_int da_nil)))) (da_cons (de_op dop_add de_int (de_call (ok__law_draw T) rfl (hr.mono (by decide)) rfl T.M__law_draw T.F__law_draw.kp (takesF rfl rfl rfl rfl) (da_cons (de_var (pv 0)) (da_cons de_int da_nil)))) da_nil)))))
    (dss_cons (ds_for (k := 2) (passes_of rfl) rfl (di_range1 rfl T.no_range (da_cons de_int da_nil)) (pg_name (i := 2) sc__law_two.nd rfl (Or.inl rfl)) (dss_cons (ds_set (i := 6) sc__law_two.nd rfl (Or.inl rfl) (de_call (ok__law_draw T) rfl (hr.mono (by decide)) rfl T.M__law_draw T.F__law_draw.kp (takesF rfl rfl rfl rfl) (da_cons (de_var (pv 0)) (da_cons (de_callB (dcall_len rfl) rfl T.no_len boot_len (da_cons (de_var (pv 1)) da_nil)) da_nil))))
    (dss_cons (ds_set (i := 7) sc__law_two.nd rfl (Or.inl rfl) (de_ix (dix rfl) (de_var (pv 1)) (de_var (pv 6))))
    (dss_cons (ds_set (i := 8) sc__law_two.nd rfl (Or.inl rfl) (de_call (ok__law_draw T) rfl (hr.mono (by decide)) rfl T.M__law_draw T.F__law_draw.kp (takesF rfl rfl rfl rfl) (da_cons (de_var (pv 0)) (da_cons (de_op dop_add (de_callB (dcall_len rfl) rfl T.no_len boot_len (da_cons (de_var (pv 7)) da_nil)) de_int) da_nil))))
    (dss_cons (ds_set (i := 9) sc__law_two.nd rfl (Or.inl rfl) (de_lst (da_cons (de_op dop_add (de_op dop_add (de_slS (de_var (pv 7)) do_none (do_some (de_var (pv 8)))) de_str) (de_slS (de_var (pv 7)) (do_some (de_op dop_add (de_var (pv 8)) de_int)) do_none)) (da_cons (de_op dop_add (de_slS (de_var (pv 7)) do_none (do_some (de_var (pv 8)))) (de_slS (de_var (pv 7)) (do_some (de_op dop_add (de_var (pv 8)) de_int)) do_none)) (da_cons (de_op dop_add (de_op dop_add (de_slS (de_var (pv 7)) do_none (do_some (de_var (pv 8)))) de_str) (de_slS (de_var (pv 7)) (do_some (de_var (pv 8))) do_none)) da_nil)))))
    (dss_one (ds_sub (de_var (pv 1)) (de_var (pv 6)) (de_ix (dix rfl) (de_var (pv 9)) (de_call (ok__law_draw T) rfl (hr.mono (by decide)) rfl T.M__law_draw T.F__law_draw.kp (takesF rfl rfl rfl rfl) (da_cons (de_var (pv 0)) (da_cons de_int da_nil)))))))))))
    (dss_cons (ds_set (i := 3) sc__law_two.nd rfl (Or.inl rfl) (de_call (ok__law_bad T) rfl (hr.mono (by decide)) rfl T.M__law_bad T.F__law_bad.kp (takesF rfl rfl rfl rfl) (da_cons (de_var (pv 1)) da_nil)))
    (dss_cons (ds_set (i := 4) sc__law_two.nd rfl (Or.inl rfl) de_non)
    (dss_cons (ds_tryas (i := 5) (cl := "InvalidShape") rfl rfl sc__law_two.nd rfl rfl ⟨rfl, by decide, .inl T.M_InvalidShape⟩ (takesF rfl rfl rfl rfl) T.xm_InvalidShape_InvalidShape
    (fun W pn xe tk => (dss_one (ds_set (i := 4) sc__law_two.nd rfl (Or.inl rfl) (let ⟨_, h1⟩ := T.cm_Shape_of; de_cmeth rfl rfl T.M_Shape T.cr_Shape h1 (ok_Shape_of T) (hr.mono (by decide)) tk (da_cons (de_var (pv 1)) da_nil)))))
    (fun a dd oe pn hz hf => (dss_one (ds_ret (de_and (de_cmp dop_ge (de_var (pv 3)) de_int (nomark _)) (de_one (de_callH (oh__law_int T) rfl (room_suite (hr.mono (by decide))) (hot_suite hz hf) rfl T.M__law_int T.F__law_int.kp takesS (da_cons (de_xf (i := 5) (cl := "InvalidShape") T.er_InvalidShape.xf T.er_InvalidShape.hno (show ixf "line" (NN "InvalidShape") = some 0 by decide +kernel) hz hf (pv 5)) (da_cons (de_var (pv 3)) da_nil)))))))))
    (dss_one (ds_ret (de_and (de_cmp dop_lt (de_var (pv 3)) de_int (nomark _)) (de_one (de_call (ok__law_same_shape T) rfl (hr.mono (by decide)) rfl T.M__law_same_shape T.F__law_same_shape.kp (takesF rfl rfl rfl rfl) (da_cons (de_var (pv 4)) (da_cons (de_var (pv 1)) da_nil)))))))))))))
theorem sc_law : FnScope ["_law_script", "_law_box_here", "_law_lines_here", "_law_bad_here", "_law_far", "_law_turn", "_law_passed", "_law_shape", "e"] ["_law_script"] (defScope s_law) := ⟨rfl, rfl, rfl, by decide +kernel, rfl, by decide +kernel, by decide +kernel⟩
@[reducible] def m_law : SM := sSeq (sSet 1 (eCall (arN 1) g__law_box (aCons (eVar 0) (aNil)))) (sSeq (sSet 2 (eCall (arN 1) g__law_drawn_lines (aCons (eVar 1) (aNil)))) (sSeq (sSet 3 (eCall (arN 1) g__law_bad (aCons (eVar 2) (aNil)))) (sSeq (sSet 4 (eCall (arN 2) g__law_draw (aCons (eVar 1) (aCons (eOp (fPow) (eC (.int 10)) (eC (.int 20))) (aNil))))) (sSeq (sFor 5 (lRng1 (aCons (eC (.int 2)) (aNil))) (sSeq (sSet 6 (eFN fListO (aCons (eVar 2) (aNil)))) (sSeq (sSet 7 (eC .non)) (sSeq (sTryAs 8 "InvalidShape" (sIf (bOf isB (eOp (fEq) (eVar 5) (eC (.int 0)))) (sSet 7 (eCMeth "Shape" (arN 2) g_Shape_of (aCons (eVar 6) (aNil)))) (sSet 7 (eCall (arN 1) g__law_made (aCons (eVar 2) (aNil))))) (sIf (bOr (bOf isB (eOp (fLt) (eVar 3) (eC (.int 0)))) (bNot (bOf truE (eCall (arN 2) g__law_int (aCons (eXf 8 "InvalidShape" 0) (aCons (eVar 3) (aNil))))))) (sRet (eC (.bl false))) (sNil))) (sSeq (sIf (bOf isB (eOp (alt2 (fNe) fNeS) (eVar 6) (eVar 2))) (sRet (eC (.bl false))) (sNil)) (sSeq (sAppS (eVar 6) (eC (.str ".."))) (sSeq (sIf (bAnd (bOf isB (eOp (fIsNot) (eVar 7) (eC .non))) (bOr (bOf isB (eOp (fGe) (eVar 3) (eC (.int 0)))) (bNot (bOf truE (eCall (arN 3) g__law_right (aCons (eVar 7) (aCons (eVar 2) (aCons (eVar 4) (aNil))))))))) (sRet (eC (.bl false))) (sNil)) (sIf (bAnd (bOf isB (eOp (fIs) (eVar 7) (eC .non))) (bOf isB (eOp (fLt) (eVar 3) (eC (.int 0))))) (sRet (eC (.bl false))) (sNil))))))))) (sRet (eCall (arN 1) g__law_two (aCons (eVar 1) (aNil))))))))
def g_law : FM := runB 9 m_law
theorem ok_law (T : Tx P K mg C A FD) : FnOk P w K mg base (L2N.CX P w) 7 (A "law") (FD "law") ["_law_script"] (Spd K C NN (arN 1) g_law) :=
  fno_of T.F_law sc_law (fun cdv Ar outer s H E B hr =>
    (dss_cons (ds_set (i := 1) sc_law.nd rfl (Or.inl rfl) (de_call (ok__law_box T) rfl (hr.mono (by decide)) rfl T.M__law_box T.F__law_box.kp (takesF rfl rfl rfl rfl) (da_cons (de_var (pv 0)) da_nil)))
    (dss_cons (ds_set (i := 2) sc_law.nd rfl (Or.inl rfl) (de_call (ok__law_drawn_lines T) rfl (hr.mono (by decide)) rfl T.M__law_drawn_lines T.F__law_drawn_lines.kp (takesF rfl rfl rfl rfl) (da_cons (de_var (pv 1)) da_nil)))
    (dss_cons (ds_set (i := 3) sc_law.nd rfl (Or.inl rfl) (de_call (ok__law_bad T) rfl (hr.mono (by decide)) rfl T.M__law_bad T.F__law_bad.kp (takesF rfl rfl rfl rfl) (da_cons (de_var (pv 2)) da_nil)))
    (dss_cons (ds_set (i := 4) sc_law.nd rfl (Or.inl rfl) (de_call (ok__law_draw T) rfl (hr.mono (by decide)) rfl T.M__law_draw T.F__law_draw.kp (takesF rfl rfl rfl rfl) (da_cons (de_var (pv 1)) (da_cons (de_op dop_pow de_int de_int) da_nil))))
    (dss_cons (ds_for (k := 5) (passes_of rfl) rfl (di_range1 rfl T.no_range (da_cons de_int da_nil)) (pg_name (i := 5) sc_law.nd rfl (Or.inl rfl)) (dss_cons (ds_set (i := 6) sc_law.nd rfl (Or.inl rfl) (de_callT (dcall_listO rfl) rfl T.no_list boot_list (da_cons (de_var (pv 2)) da_nil)))
    (dss_cons (ds_set (i := 7) sc_law.nd rfl (Or.inl rfl) de_non)
    (dss_cons (ds_tryas (i := 8) (cl := "InvalidShape") rfl rfl sc_law.nd rfl rfl ⟨rfl, by decide, .inl T.M_InvalidShape⟩ (takesF rfl rfl rfl rfl) T.xm_InvalidShape_InvalidShape
    (fun W pn xe tk => (dss_one (ds_if (db_cmp (dop_eq rfl hr.units) (de_var (pv 5)) de_int (nomark _)) (dss_one (ds_set (i := 7) sc_law.nd rfl (Or.inl rfl) (let ⟨_, h1⟩ := T.cm_Shape_of; de_cmeth rfl rfl T.M_Shape T.cr_Shape h1 (ok_Shape_of T) (hr.mono (by decide)) tk (da_cons (de_var (pv 6)) da_nil)))) (dss_one (ds_set (i := 7) sc_law.nd rfl (Or.inl rfl) (de_call (ok__law_made T) rfl (hr.mono (by decide)) rfl T.M__law_made T.F__law_made.kp tk (da_cons (de_var (pv 2)) da_nil)))))))
    (fun a dd oe pn hz hf => (dss_one (ds_if (DW.db (dw_or (db_cmp dop_lt (de_var (pv 3)) de_int (nomark _)) (dw_or1 (db_not (db_tru rfl (de_callH (oh__law_int T) rfl (room_suite (hr.mono (by decide))) (hot_suite hz hf) rfl T.M__law_int T.F__law_int.kp takesS (da_cons (de_xf (i := 8) (cl := "InvalidShape") T.er_InvalidShape.xf T.er_InvalidShape.hno (show ixf "line" (NN "InvalidShape") = some 0 by decide +kernel) hz hf (pv 8)) (da_cons (de_var (pv 3)) da_nil)))))))) (dss_one (ds_ret de_bl)) dss_nil))))
    (dss_cons (ds_if (db_cmp (opr_alt (dop_ne rfl hr.units) (dop_neS rfl hr.units)) (de_var (pv 6)) (de_var (pv 2)) (nomark _)) (dss_one (ds_ret de_bl)) dss_nil)
    (dss_cons (ds_appS (de_var (pv 6)) de_str)
    (dss_cons (ds_if (DW.db (dw_and (db_cmp dop_isnot (de_var (pv 7)) de_non (nomark _)) (dw_and1 (DW.db (dw_or (db_cmp dop_ge (de_var (pv 3)) de_int (nomark _)) (dw_or1 (db_not (db_tru rfl (de_call (ok__law_right T) rfl (hr.mono (by decide)) rfl T.M__law_right T.F__law_right.kp (takesF rfl rfl rfl rfl) (da_cons (de_var (pv 7)) (da_cons (de_var (pv 2)) (da_cons (de_var (pv 4)) da_nil)))))))))))) (dss_one (ds_ret de_bl)) dss_nil)
    (dss_one (ds_if (DW.db (dw_and (db_cmp dop_is (de_var (pv 7)) de_non (nomark _)) (dw_and1 (db_cmp dop_lt (de_var (pv 3)) de_int (nomark _))))) (dss_one (ds_ret de_bl)) dss_nil)))))))))
    (dss_one (ds_ret (de_call (ok__law_two T) rfl (hr.mono (by decide)) rfl T.M__law_two T.F__law_two.kp (takesF rfl rfl rfl rfl) (da_cons (de_var (pv 1)) da_nil))))))))))
end
/-! ### what the top has written -/
set_option maxHeartbeats 0 in
def AllEq {α : Type} (A : String → α) : List String → List α → Prop
  | k :: ks, v :: vs => A k = v ∧ AllEq A ks vs
  | _, _ => True
theorem allEq_congr {α : Type} {A B : String → α} : ∀ (ks : List String) (vs : List α), (∀ s ∈ ks, B s = A s) → AllEq A ks vs → AllEq B ks vs
  | [], _, _, _ => by unfold AllEq; trivial
  | _ :: _, [], _, _ => by unfold AllEq; trivial
  | k :: ks, v :: vs, h, a => ⟨(h k List.mem_cons_self).trans a.1, allEq_congr ks vs (fun s hs => h s (List.mem_cons_of_mem _ hs)) a.2⟩
theorem assoc_ex {α : Type} (d : α) : ∀ (ks : List String) (vs : List α), ks.Nodup → ks.length = vs.length → ∃ A : String → α, AllEq A ks vs
  | [], _, _, _ => ⟨fun _ => d, by unfold AllEq; trivial⟩
  | _ :: _, [], _, h => nomatch h
  | k :: ks, v :: vs, hn, hl => by
    obtain ⟨hk, hn⟩ := List.nodup_cons.mp hn
    obtain ⟨A, hA⟩ := assoc_ex d ks vs hn (Nat.succ.inj hl)
    exact ⟨fun s => if s = k then v else A s, if_pos rfl, allEq_congr ks vs (fun s hs => if_neg fun e => hk (by rw [← e]; exact hs)) hA⟩
theorem all_mk {l : PySem.W.OpenLaw} {w : World} {K : PySem.W.Frag} {h : Heap} {mg : Str → Option Value} {fa C_InvalidShape C_Shape f__law_box f__law_draw f__law_lines f__law_drawn_lines f__law_bad f__is_line f_Shape___init__ f_Shape_of p_Shape_of f__law_made f__law_int f__law_same_text f__law_same_names f__law_same_shape f__law_is f_Shape___contains__ f_Shape_area f__law_right f__law_two f_law f_InvalidShape___init__ cc_InvalidShape___init__ cd_InvalidShape___init__ N_InvalidShape___init__ : Addr}
    {oc__law_box kV__law_box dc__law_box pm__law_box cd__law_box ct__law_box : Value}
    {od__law_box an__law_box : Option Addr}
    {sl__law_box : Array (Option Value)}
    {oc__law_draw kV__law_draw dc__law_draw pm__law_draw cd__law_draw ct__law_draw : Value}
    {od__law_draw an__law_draw : Option Addr}
    {sl__law_draw : Array (Option Value)}
    {oc__law_lines kV__law_lines dc__law_lines pm__law_lines cd__law_lines ct__law_lines : Value}
    {od__law_lines an__law_lines : Option Addr}
    {sl__law_lines : Array (Option Value)}
    {oc__law_drawn_lines kV__law_drawn_lines dc__law_drawn_lines pm__law_drawn_lines cd__law_drawn_lines ct__law_drawn_lines : Value}
    {od__law_drawn_lines an__law_drawn_lines : Option Addr}
    {sl__law_drawn_lines : Array (Option Value)}
    {oc__law_bad kV__law_bad dc__law_bad pm__law_bad cd__law_bad ct__law_bad : Value}
    {od__law_bad an__law_bad : Option Addr}
    {sl__law_bad : Array (Option Value)}
    {oc__is_line kV__is_line dc__is_line pm__is_line cd__is_line ct__is_line : Value}
    {od__is_line an__is_line : Option Addr}
    {sl__is_line : Array (Option Value)}
    {oc_Shape___init__ kV_Shape___init__ dc_Shape___init__ pm_Shape___init__ cd_Shape___init__ ct_Shape___init__ : Value}
    {od_Shape___init__ an_Shape___init__ : Option Addr}
    {sl_Shape___init__ : Array (Option Value)}
    {r_Shape_of : List Value}
    {oc_Shape_of kV_Shape_of dc_Shape_of pm_Shape_of cd_Shape_of ct_Shape_of : Value}
    {od_Shape_of an_Shape_of : Option Addr}
    {sl_Shape_of : Array (Option Value)}
    {oc__law_made kV__law_made dc__law_made pm__law_made cd__law_made ct__law_made : Value}
    {od__law_made an__law_made : Option Addr}
    {sl__law_made : Array (Option Value)}
    {oc__law_int kV__law_int dc__law_int pm__law_int cd__law_int ct__law_int : Value}
    {od__law_int an__law_int : Option Addr}
    {sl__law_int : Array (Option Value)}
    {oc__law_same_text kV__law_same_text dc__law_same_text pm__law_same_text cd__law_same_text ct__law_same_text : Value}
    {od__law_same_text an__law_same_text : Option Addr}
    {sl__law_same_text : Array (Option Value)}
    {oc__law_same_names kV__law_same_names dc__law_same_names pm__law_same_names cd__law_same_names ct__law_same_names : Value}
    {od__law_same_names an__law_same_names : Option Addr}
    {sl__law_same_names : Array (Option Value)}
    {oc__law_same_shape kV__law_same_shape dc__law_same_shape pm__law_same_shape cd__law_same_shape ct__law_same_shape : Value}
    {od__law_same_shape an__law_same_shape : Option Addr}
    {sl__law_same_shape : Array (Option Value)}
    {oc__law_is kV__law_is dc__law_is pm__law_is cd__law_is ct__law_is : Value}
    {od__law_is an__law_is : Option Addr}
    {sl__law_is : Array (Option Value)}
    {oc_Shape___contains__ kV_Shape___contains__ dc_Shape___contains__ pm_Shape___contains__ cd_Shape___contains__ ct_Shape___contains__ : Value}
    {od_Shape___contains__ an_Shape___contains__ : Option Addr}
    {sl_Shape___contains__ : Array (Option Value)}
    {oc_Shape_area kV_Shape_area dc_Shape_area pm_Shape_area cd_Shape_area ct_Shape_area : Value}
    {od_Shape_area an_Shape_area : Option Addr}
    {sl_Shape_area : Array (Option Value)}
    {oc__law_right kV__law_right dc__law_right pm__law_right cd__law_right ct__law_right : Value}
    {od__law_right an__law_right : Option Addr}
    {sl__law_right : Array (Option Value)}
    {oc__law_two kV__law_two dc__law_two pm__law_two cd__law_two ct__law_two : Value}
    {od__law_two an__law_two : Option Addr}
    {sl__law_two : Array (Option Value)}
    {oc_law kV_law dc_law pm_law cd_law ct_law : Value}
    {od_law an_law : Option Addr}
    {sl_law : Array (Option Value)}
    {t_OPEN : Tok}
    {t_SHUT : Tok}
    {t_SIDE : Tok}
    {oc_InvalidShape___init__ dc_InvalidShape___init__ pm_InvalidShape___init__ ct_InvalidShape___init__ o1_InvalidShape___init__ o2_InvalidShape___init__ : Value}
    {od_InvalidShape___init__ d1_InvalidShape___init__ d2_InvalidShape___init__ dd_InvalidShape___init__ : Option Addr}
    {sl_InvalidShape___init__ s1_InvalidShape___init__ s2_InvalidShape___init__ : Array (Option Value)}
    {vs_InvalidShape___init__ : Array Value}
    {fl_InvalidShape___init__ nm_InvalidShape___init__ qn_InvalidShape___init__ : Str}
    {tf_InvalidShape___init__ : Tok}
    {bs_InvalidShape___init__ bm_InvalidShape___init__ sb_InvalidShape___init__ : List Value}
    {sn_InvalidShape___init__ : List Str}
    {ab_InvalidShape___init__ : Bool}
    {col_InvalidShape___init__ : Option Bool}
    {k0_InvalidShape___init__ k1_InvalidShape___init__ k2_InvalidShape___init__ k3_InvalidShape___init__ k5_InvalidShape___init__ : Option Value}
    (X : K.In h) (G : h.Ns mainGlobals mg) (hfa : mg "law" = some (.ref fa))
    (aC_InvalidShape : PySem.W.nsIn K mainGlobals "InvalidShape" = some (some (.ref C_InvalidShape)))
    (aC_Shape : PySem.W.nsIn K mainGlobals "Shape" = some (some (.ref C_Shape)))
    (a__law_box : PySem.W.nsIn K mainGlobals "_law_box" = some (some (.ref f__law_box)))
    (l__law_box : K.lookup f__law_box = some ⟨oc__law_box, od__law_box, .func (PySem.W.fnOf "_law_box" "_law_box" (defArgs s__law_box) (defBody s__law_box) (defScope s__law_box) .none kV__law_box dc__law_box pm__law_box an__law_box cd__law_box ct__law_box), sl__law_box⟩)
    (c__law_box : PySem.W.codeIn K cd__law_box "_law_box" = true)
    (k__law_box : PySem.W.keepIn K (.ref f__law_box) = true)
    (a__law_draw : PySem.W.nsIn K mainGlobals "_law_draw" = some (some (.ref f__law_draw)))
    (l__law_draw : K.lookup f__law_draw = some ⟨oc__law_draw, od__law_draw, .func (PySem.W.fnOf "_law_draw" "_law_draw" (defArgs s__law_draw) (defBody s__law_draw) (defScope s__law_draw) .none kV__law_draw dc__law_draw pm__law_draw an__law_draw cd__law_draw ct__law_draw), sl__law_draw⟩)
    (c__law_draw : PySem.W.codeIn K cd__law_draw "_law_draw" = true)
    (k__law_draw : PySem.W.keepIn K (.ref f__law_draw) = true)
    (a__law_lines : PySem.W.nsIn K mainGlobals "_law_lines" = some (some (.ref f__law_lines)))
    (l__law_lines : K.lookup f__law_lines = some ⟨oc__law_lines, od__law_lines, .func (PySem.W.fnOf "_law_lines" "_law_lines" (defArgs s__law_lines) (defBody s__law_lines) (defScope s__law_lines) .none kV__law_lines dc__law_lines pm__law_lines an__law_lines cd__law_lines ct__law_lines), sl__law_lines⟩)
    (c__law_lines : PySem.W.codeIn K cd__law_lines "_law_lines" = true)
    (k__law_lines : PySem.W.keepIn K (.ref f__law_lines) = true)
    (a__law_drawn_lines : PySem.W.nsIn K mainGlobals "_law_drawn_lines" = some (some (.ref f__law_drawn_lines)))
    (l__law_drawn_lines : K.lookup f__law_drawn_lines = some ⟨oc__law_drawn_lines, od__law_drawn_lines, .func (PySem.W.fnOf "_law_drawn_lines" "_law_drawn_lines" (defArgs s__law_drawn_lines) (defBody s__law_drawn_lines) (defScope s__law_drawn_lines) .none kV__law_drawn_lines dc__law_drawn_lines pm__law_drawn_lines an__law_drawn_lines cd__law_drawn_lines ct__law_drawn_lines), sl__law_drawn_lines⟩)
    (c__law_drawn_lines : PySem.W.codeIn K cd__law_drawn_lines "_law_drawn_lines" = true)
    (k__law_drawn_lines : PySem.W.keepIn K (.ref f__law_drawn_lines) = true)
    (a__law_bad : PySem.W.nsIn K mainGlobals "_law_bad" = some (some (.ref f__law_bad)))
    (l__law_bad : K.lookup f__law_bad = some ⟨oc__law_bad, od__law_bad, .func (PySem.W.fnOf "_law_bad" "_law_bad" (defArgs s__law_bad) (defBody s__law_bad) (defScope s__law_bad) .none kV__law_bad dc__law_bad pm__law_bad an__law_bad cd__law_bad ct__law_bad), sl__law_bad⟩)
    (c__law_bad : PySem.W.codeIn K cd__law_bad "_law_bad" = true)
    (k__law_bad : PySem.W.keepIn K (.ref f__law_bad) = true)
    (a__is_line : PySem.W.nsIn K mainGlobals "_is_line" = some (some (.ref f__is_line)))
    (l__is_line : K.lookup f__is_line = some ⟨oc__is_line, od__is_line, .func (PySem.W.fnOf "_is_line" "_is_line" (defArgs s__is_line) (defBody s__is_line) (defScope s__is_line) .none kV__is_line dc__is_line pm__is_line an__is_line cd__is_line ct__is_line), sl__is_line⟩)
    (c__is_line : PySem.W.codeIn K cd__is_line "_is_line" = true)
    (k__is_line : PySem.W.keepIn K (.ref f__is_line) = true)
    (a_Shape___init__ : PySem.W.findIn K (.ref C_Shape) "__init__" = some (some (.ref f_Shape___init__)))
    (i_Shape___init__ : PySem.W.isFn K (.ref f_Shape___init__) = true)
    (l_Shape___init__ : K.lookup f_Shape___init__ = some ⟨oc_Shape___init__, od_Shape___init__, .func (PySem.W.fnOf "__init__" "Shape.__init__" (defArgs s_Shape___init__) (defBody s_Shape___init__) (defScope s_Shape___init__) .none kV_Shape___init__ dc_Shape___init__ pm_Shape___init__ an_Shape___init__ cd_Shape___init__ ct_Shape___init__), sl_Shape___init__⟩)
    (c_Shape___init__ : PySem.W.codeIn K cd_Shape___init__ "Shape.__init__" = true)
    (k_Shape___init__ : PySem.W.keepIn K (.ref f_Shape___init__) = true)
    (a_Shape_of : PySem.W.findCls K (.ref C_Shape) (.type "type") "of" = some (.get (.builtin "classmethod.__get__") (.ref p_Shape_of) .none (.ref C_Shape)))
    (r1_Shape_of : PySem.W.recIn K p_Shape_of "classmethod" = some (.ref f_Shape_of :: r_Shape_of))
    (i_Shape_of : PySem.W.fnIn K f_Shape_of = true)
    (l_Shape_of : K.lookup f_Shape_of = some ⟨oc_Shape_of, od_Shape_of, .func (PySem.W.fnOf "of" "Shape.of" (defArgs s_Shape_of) (defBody s_Shape_of) (defScope s_Shape_of) .none kV_Shape_of dc_Shape_of pm_Shape_of an_Shape_of cd_Shape_of ct_Shape_of), sl_Shape_of⟩)
    (c_Shape_of : PySem.W.codeIn K cd_Shape_of "Shape.of" = true)
    (k_Shape_of : PySem.W.keepIn K (.ref f_Shape_of) = true)
    (a__law_made : PySem.W.nsIn K mainGlobals "_law_made" = some (some (.ref f__law_made)))
    (l__law_made : K.lookup f__law_made = some ⟨oc__law_made, od__law_made, .func (PySem.W.fnOf "_law_made" "_law_made" (defArgs s__law_made) (defBody s__law_made) (defScope s__law_made) .none kV__law_made dc__law_made pm__law_made an__law_made cd__law_made ct__law_made), sl__law_made⟩)
    (c__law_made : PySem.W.codeIn K cd__law_made "_law_made" = true)
    (k__law_made : PySem.W.keepIn K (.ref f__law_made) = true)
    (a__law_int : PySem.W.nsIn K mainGlobals "_law_int" = some (some (.ref f__law_int)))
    (l__law_int : K.lookup f__law_int = some ⟨oc__law_int, od__law_int, .func (PySem.W.fnOf "_law_int" "_law_int" (defArgs s__law_int) (defBody s__law_int) (defScope s__law_int) .none kV__law_int dc__law_int pm__law_int an__law_int cd__law_int ct__law_int), sl__law_int⟩)
    (c__law_int : PySem.W.codeIn K cd__law_int "_law_int" = true)
    (k__law_int : PySem.W.keepIn K (.ref f__law_int) = true)
    (a__law_same_text : PySem.W.nsIn K mainGlobals "_law_same_text" = some (some (.ref f__law_same_text)))
    (l__law_same_text : K.lookup f__law_same_text = some ⟨oc__law_same_text, od__law_same_text, .func (PySem.W.fnOf "_law_same_text" "_law_same_text" (defArgs s__law_same_text) (defBody s__law_same_text) (defScope s__law_same_text) .none kV__law_same_text dc__law_same_text pm__law_same_text an__law_same_text cd__law_same_text ct__law_same_text), sl__law_same_text⟩)
    (c__law_same_text : PySem.W.codeIn K cd__law_same_text "_law_same_text" = true)
    (k__law_same_text : PySem.W.keepIn K (.ref f__law_same_text) = true)
    (a__law_same_names : PySem.W.nsIn K mainGlobals "_law_same_names" = some (some (.ref f__law_same_names)))
    (l__law_same_names : K.lookup f__law_same_names = some ⟨oc__law_same_names, od__law_same_names, .func (PySem.W.fnOf "_law_same_names" "_law_same_names" (defArgs s__law_same_names) (defBody s__law_same_names) (defScope s__law_same_names) .none kV__law_same_names dc__law_same_names pm__law_same_names an__law_same_names cd__law_same_names ct__law_same_names), sl__law_same_names⟩)
    (c__law_same_names : PySem.W.codeIn K cd__law_same_names "_law_same_names" = true)
    (k__law_same_names : PySem.W.keepIn K (.ref f__law_same_names) = true)
    (a__law_same_shape : PySem.W.nsIn K mainGlobals "_law_same_shape" = some (some (.ref f__law_same_shape)))
    (l__law_same_shape : K.lookup f__law_same_shape = some ⟨oc__law_same_shape, od__law_same_shape, .func (PySem.W.fnOf "_law_same_shape" "_law_same_shape" (defArgs s__law_same_shape) (defBody s__law_same_shape) (defScope s__law_same_shape) .none kV__law_same_shape dc__law_same_shape pm__law_same_shape an__law_same_shape cd__law_same_shape ct__law_same_shape), sl__law_same_shape⟩)
    (c__law_same_shape : PySem.W.codeIn K cd__law_same_shape "_law_same_shape" = true)
    (k__law_same_shape : PySem.W.keepIn K (.ref f__law_same_shape) = true)
    (a__law_is : PySem.W.nsIn K mainGlobals "_law_is" = some (some (.ref f__law_is)))
    (l__law_is : K.lookup f__law_is = some ⟨oc__law_is, od__law_is, .func (PySem.W.fnOf "_law_is" "_law_is" (defArgs s__law_is) (defBody s__law_is) (defScope s__law_is) .none kV__law_is dc__law_is pm__law_is an__law_is cd__law_is ct__law_is), sl__law_is⟩)
    (c__law_is : PySem.W.codeIn K cd__law_is "_law_is" = true)
    (k__law_is : PySem.W.keepIn K (.ref f__law_is) = true)
    (a_Shape___contains__ : PySem.W.findIn K (.ref C_Shape) "__contains__" = some (some (.ref f_Shape___contains__)))
    (i_Shape___contains__ : PySem.W.isFn K (.ref f_Shape___contains__) = true)
    (l_Shape___contains__ : K.lookup f_Shape___contains__ = some ⟨oc_Shape___contains__, od_Shape___contains__, .func (PySem.W.fnOf "__contains__" "Shape.__contains__" (defArgs s_Shape___contains__) (defBody s_Shape___contains__) (defScope s_Shape___contains__) .none kV_Shape___contains__ dc_Shape___contains__ pm_Shape___contains__ an_Shape___contains__ cd_Shape___contains__ ct_Shape___contains__), sl_Shape___contains__⟩)
    (c_Shape___contains__ : PySem.W.codeIn K cd_Shape___contains__ "Shape.__contains__" = true)
    (k_Shape___contains__ : PySem.W.keepIn K (.ref f_Shape___contains__) = true)
    (a_Shape_area : PySem.W.findIn K (.ref C_Shape) "area" = some (some (.ref f_Shape_area)))
    (i_Shape_area : PySem.W.isFn K (.ref f_Shape_area) = true)
    (l_Shape_area : K.lookup f_Shape_area = some ⟨oc_Shape_area, od_Shape_area, .func (PySem.W.fnOf "area" "Shape.area" (defArgs s_Shape_area) (defBody s_Shape_area) (defScope s_Shape_area) .none kV_Shape_area dc_Shape_area pm_Shape_area an_Shape_area cd_Shape_area ct_Shape_area), sl_Shape_area⟩)
    (c_Shape_area : PySem.W.codeIn K cd_Shape_area "Shape.area" = true)
    (k_Shape_area : PySem.W.keepIn K (.ref f_Shape_area) = true)
    (a__law_right : PySem.W.nsIn K mainGlobals "_law_right" = some (some (.ref f__law_right)))
    (l__law_right : K.lookup f__law_right = some ⟨oc__law_right, od__law_right, .func (PySem.W.fnOf "_law_right" "_law_right" (defArgs s__law_right) (defBody s__law_right) (defScope s__law_right) .none kV__law_right dc__law_right pm__law_right an__law_right cd__law_right ct__law_right), sl__law_right⟩)
    (c__law_right : PySem.W.codeIn K cd__law_right "_law_right" = true)
    (k__law_right : PySem.W.keepIn K (.ref f__law_right) = true)
    (a__law_two : PySem.W.nsIn K mainGlobals "_law_two" = some (some (.ref f__law_two)))
    (l__law_two : K.lookup f__law_two = some ⟨oc__law_two, od__law_two, .func (PySem.W.fnOf "_law_two" "_law_two" (defArgs s__law_two) (defBody s__law_two) (defScope s__law_two) .none kV__law_two dc__law_two pm__law_two an__law_two cd__law_two ct__law_two), sl__law_two⟩)
    (c__law_two : PySem.W.codeIn K cd__law_two "_law_two" = true)
    (k__law_two : PySem.W.keepIn K (.ref f__law_two) = true)
    (a_law : PySem.W.nsIn K mainGlobals "law" = some (some (.ref f_law)))
    (l_law : K.lookup f_law = some ⟨oc_law, od_law, .func (PySem.W.fnOf "law" "law" (defArgs s_law) (defBody s_law) (defScope s_law) .none kV_law dc_law pm_law an_law cd_law ct_law), sl_law⟩)
    (c_law : PySem.W.codeIn K cd_law "law" = true)
    (k_law : PySem.W.keepIn K (.ref f_law) = true)
    (pg_Shape : PySem.W.plainGet K C_Shape Str.empty = true)
    (hd_Shape : PySem.W.hasDictIn K C_Shape = true)
    (po_Shape : PySem.W.plainOver K C_Shape = true)
    (sa_Shape : PySem.W.findIn K (.ref C_Shape) "__setattr__" = some (some (.builtin "object.__setattr__")))
    (n_Shape_height : PySem.W.findIn K (.ref C_Shape) "height" = some none)
    (n_Shape_lines : PySem.W.findIn K (.ref C_Shape) "lines" = some none)
    (n_Shape_width : PySem.W.findIn K (.ref C_Shape) "width" = some none)
    (mk_Shape : PySem.W.makesIn K C_Shape = true)
    (kc_Shape : PySem.W.keepIn K (.ref C_Shape) = true)
    (rd_Shape : PySem.W.readsIn K C_Shape (.type "type") = true)
    (ga_Shape : PySem.W.specialIn K (.ref C_Shape) "__getattribute__" = some (some (.builtin "type.__getattribute__")))
    (co_OPEN : PySem.W.nsIn K mainGlobals "OPEN" = some (some (.str "#" t_OPEN)))
    (co_SHUT : PySem.W.nsIn K mainGlobals "SHUT" = some (some (.str "." t_SHUT)))
    (co_SIDE : PySem.W.nsIn K mainGlobals "SIDE" = some (some (.int 40 t_SIDE)))
    (sf_Shape : PySem.W.selfFirst K C_Shape = true)
    (ica_Shape : PySem.W.findIn K (.ref C_Shape) "__class__" = some (some (.builtin "object.__class__")))
    (icm_Shape : PySem.W.mroIn K C_Shape (.type "object") = some true)
    (ikn : PySem.W.specialIn K (.builtin "object.__class__") "__get__" = some (some (.builtin "getset_descriptor.__get__")))
    (ikt : PySem.W.takesIn K (.builtin "object.__class__") = some true)
    (it_own_Shape_own_Shape : PySem.W.kitOne K (.ref C_Shape) (.ref C_Shape) = some true)
    (it_ty_tuple_ty_tuple : PySem.W.kitOne K (.type "tuple") (.type "tuple") = some true)
    (it_ty_int_ty_int : PySem.W.kitOne K (.type "int") (.type "int") = some true)
    (it_ty_int_ty_bool : PySem.W.kitOne K (.type "int") (.type "bool") = some false)
    (it_ty_bool_ty_bool : PySem.W.kitOne K (.type "bool") (.type "bool") = some true)
    (it_ty_str_ty_str : PySem.W.kitOne K (.type "str") (.type "str") = some true)
    (no_all : PySem.W.nsIn K mainGlobals "all" = some (none))
    (no_bool : PySem.W.nsIn K mainGlobals "bool" = some (none))
    (no_enumerate : PySem.W.nsIn K mainGlobals "enumerate" = some (none))
    (no_int : PySem.W.nsIn K mainGlobals "int" = some (none))
    (no_isinstance : PySem.W.nsIn K mainGlobals "isinstance" = some (none))
    (no_len : PySem.W.nsIn K mainGlobals "len" = some (none))
    (no_list : PySem.W.nsIn K mainGlobals "list" = some (none))
    (no_range : PySem.W.nsIn K mainGlobals "range" = some (none))
    (no_str : PySem.W.nsIn K mainGlobals "str" = some (none))
    (no_sum : PySem.W.nsIn K mainGlobals "sum" = some (none))
    (no_super : PySem.W.nsIn K mainGlobals "super" = some (none))
    (no_tuple : PySem.W.nsIn K mainGlobals "tuple" = some (none))
    (a_InvalidShape___init__ : PySem.W.findIn K (.ref C_InvalidShape) "__init__" = some (some (.ref f_InvalidShape___init__)))
    (l_InvalidShape___init__ : K.lookup f_InvalidShape___init__ = some ⟨oc_InvalidShape___init__, od_InvalidShape___init__, .func ((nfo s_InvalidShape___init__ "__init__" "InvalidShape.__init__" cc_InvalidShape___init__ cd_InvalidShape___init__).fd dc_InvalidShape___init__ pm_InvalidShape___init__ ct_InvalidShape___init__), sl_InvalidShape___init__⟩)
    (c_InvalidShape___init__ : PySem.W.codeIn K (.ref cd_InvalidShape___init__) "InvalidShape.__init__" = true)
    (lc_InvalidShape___init__ : K.lookup cd_InvalidShape___init__ = some ⟨o1_InvalidShape___init__, d1_InvalidShape___init__, .fields vs_InvalidShape___init__, s1_InvalidShape___init__⟩)
    (vf_InvalidShape___init__ : vs_InvalidShape___init__[2]? = some (.str fl_InvalidShape___init__ tf_InvalidShape___init__))
    (pf_InvalidShape___init__ : ((l.prog.main.file : Str) == fl_InvalidShape___init__) = true)
    (ce_InvalidShape___init__ : K.lookup cc_InvalidShape___init__ = some ⟨o2_InvalidShape___init__, d2_InvalidShape___init__, .cell (some (.ref C_InvalidShape)), s2_InvalidShape___init__⟩)
    (topS : (l.prog.main.scope.names.lookup ("super" : Str)).isSome = false)
    (hst : PySem.W.nsIn K cStatics "thirdparty.any" = some none)
    (ex_InvalidShape___init__ : K.lookup C_InvalidShape = some (excClassObj nm_InvalidShape___init__ qn_InvalidShape___init__ C_InvalidShape N_InvalidShape___init__ bs_InvalidShape___init__ bm_InvalidShape___init__ true sn_InvalidShape___init__ sb_InvalidShape___init__ ab_InvalidShape___init__ col_InvalidShape___init__ dd_InvalidShape___init__ k0_InvalidShape___init__ k1_InvalidShape___init__ k2_InvalidShape___init__ k3_InvalidShape___init__ k5_InvalidShape___init__ "ValueError.__new__"))
    (rv_InvalidShape___init__ : PySem.HandSPX.refsVE bm_InvalidShape___init__ = true)
    (sa_InvalidShape___init__ : PySem.W.findIn K (.ref C_InvalidShape) "__setattr__" = some (some (.builtin "object.__setattr__")))
    (xc_InvalidShape___init__ : PySem.W.subIn K (.ref C_InvalidShape) (.type "BaseException") = some true)
    (tc_InvalidShape___init__ : PySem.W.typeIn K (.ref C_InvalidShape) = some (.type "type"))
    (kc_InvalidShape___init__ : PySem.W.keepIn K (.ref C_InvalidShape) = true)
    (tf_InvalidShape___init__ : PySem.W.typeIn K (.ref f_InvalidShape___init__) = some (.type "function"))
    (si_InvalidShape___init__ : PySem.W.ks_superIn K C_InvalidShape C_InvalidShape "__init__" = some (some (.builtin "ValueError.__init__")))
    (su_InvalidShape___init__ : PySem.W.mroIn K C_InvalidShape (.ref C_InvalidShape) = some true)
    (hn_InvalidShape___init__ : PySem.W.findIn K (.ref C_InvalidShape) "line" = some none)
    (xg_InvalidShape___init__ : PySem.W.findIn K (.ref C_InvalidShape) "__getattribute__" = some (some (.builtin "BaseException.__getattribute__")))
    (xh_InvalidShape___init__ : PySem.W.findIn K (.ref C_InvalidShape) "__getattr__" = some none)
    (xd_InvalidShape___init__ : PySem.W.hasDictIn K C_InvalidShape = true)
    (xm_InvalidShape_InvalidShape : PySem.W.exmOne K (.ref C_InvalidShape) (.ref C_InvalidShape) = some true)
    (hmath : ∀ ns : List Int, ns.length ≤ 63 → ∃ G', g_law [scr ns] [] = .ok (.d (.bl true)) G') :
    ∃ fd : FuncData, (∀ (s : Shared) (v : Value), BindsTo s fd ⟨[v], []⟩ [("_law_script", v)]) ∧ ∀ base : Heap, K.In base → base.Ns mainGlobals mg → FnOk l.prog w K mg base (L2N.CX l.prog w) 7 fa fd ["_law_script"] (spLaw K) := by
  have e : fa = f_law := by
    have e := hfa.symm.trans (PySem.W.mg_of X G a_law)
    injection e with e
    injection e
  obtain ⟨d__law_box, F__law_box⟩ : ∃ fd, Fun K "_law_box" "_law_box" s__law_box f__law_box fd := ⟨_, fun_mk (st := s__law_box) l__law_box c__law_box k__law_box⟩
  obtain ⟨d__law_draw, F__law_draw⟩ : ∃ fd, Fun K "_law_draw" "_law_draw" s__law_draw f__law_draw fd := ⟨_, fun_mk (st := s__law_draw) l__law_draw c__law_draw k__law_draw⟩
  obtain ⟨d__law_lines, F__law_lines⟩ : ∃ fd, Fun K "_law_lines" "_law_lines" s__law_lines f__law_lines fd := ⟨_, fun_mk (st := s__law_lines) l__law_lines c__law_lines k__law_lines⟩
  obtain ⟨d__law_drawn_lines, F__law_drawn_lines⟩ : ∃ fd, Fun K "_law_drawn_lines" "_law_drawn_lines" s__law_drawn_lines f__law_drawn_lines fd := ⟨_, fun_mk (st := s__law_drawn_lines) l__law_drawn_lines c__law_drawn_lines k__law_drawn_lines⟩
  obtain ⟨d__law_bad, F__law_bad⟩ : ∃ fd, Fun K "_law_bad" "_law_bad" s__law_bad f__law_bad fd := ⟨_, fun_mk (st := s__law_bad) l__law_bad c__law_bad k__law_bad⟩
  obtain ⟨d__is_line, F__is_line⟩ : ∃ fd, Fun K "_is_line" "_is_line" s__is_line f__is_line fd := ⟨_, fun_mk (st := s__is_line) l__is_line c__is_line k__is_line⟩
  obtain ⟨d_Shape___init__, F_Shape___init__, b_Shape___init__⟩ : ∃ fd, Fun K "__init__" "Shape.__init__" s_Shape___init__ f_Shape___init__ fd ∧ BindS fd ["self"] "lines" := ⟨_, fun_mk (st := s_Shape___init__) l_Shape___init__ c_Shape___init__ k_Shape___init__, fun us rest hl => bind_star1 (B := fun xs => bindArgs _ ⟨xs, []⟩) (fun _ => rfl) (fun _ _ _ => rfl) us rest hl⟩
  obtain ⟨d_Shape_of, F_Shape_of⟩ : ∃ fd, Fun K "of" "Shape.of" s_Shape_of f_Shape_of fd := ⟨_, fun_mk (st := s_Shape_of) l_Shape_of c_Shape_of k_Shape_of⟩
  obtain ⟨d__law_made, F__law_made⟩ : ∃ fd, Fun K "_law_made" "_law_made" s__law_made f__law_made fd := ⟨_, fun_mk (st := s__law_made) l__law_made c__law_made k__law_made⟩
  obtain ⟨d__law_int, F__law_int⟩ : ∃ fd, Fun K "_law_int" "_law_int" s__law_int f__law_int fd := ⟨_, fun_mk (st := s__law_int) l__law_int c__law_int k__law_int⟩
  obtain ⟨d__law_same_text, F__law_same_text⟩ : ∃ fd, Fun K "_law_same_text" "_law_same_text" s__law_same_text f__law_same_text fd := ⟨_, fun_mk (st := s__law_same_text) l__law_same_text c__law_same_text k__law_same_text⟩
  obtain ⟨d__law_same_names, F__law_same_names⟩ : ∃ fd, Fun K "_law_same_names" "_law_same_names" s__law_same_names f__law_same_names fd := ⟨_, fun_mk (st := s__law_same_names) l__law_same_names c__law_same_names k__law_same_names⟩
  obtain ⟨d__law_same_shape, F__law_same_shape⟩ : ∃ fd, Fun K "_law_same_shape" "_law_same_shape" s__law_same_shape f__law_same_shape fd := ⟨_, fun_mk (st := s__law_same_shape) l__law_same_shape c__law_same_shape k__law_same_shape⟩
  obtain ⟨d__law_is, F__law_is⟩ : ∃ fd, Fun K "_law_is" "_law_is" s__law_is f__law_is fd := ⟨_, fun_mk (st := s__law_is) l__law_is c__law_is k__law_is⟩
  obtain ⟨d_Shape___contains__, F_Shape___contains__⟩ : ∃ fd, Fun K "__contains__" "Shape.__contains__" s_Shape___contains__ f_Shape___contains__ fd := ⟨_, fun_mk (st := s_Shape___contains__) l_Shape___contains__ c_Shape___contains__ k_Shape___contains__⟩
  obtain ⟨d_Shape_area, F_Shape_area⟩ : ∃ fd, Fun K "area" "Shape.area" s_Shape_area f_Shape_area fd := ⟨_, fun_mk (st := s_Shape_area) l_Shape_area c_Shape_area k_Shape_area⟩
  obtain ⟨d__law_right, F__law_right⟩ : ∃ fd, Fun K "_law_right" "_law_right" s__law_right f__law_right fd := ⟨_, fun_mk (st := s__law_right) l__law_right c__law_right k__law_right⟩
  obtain ⟨d__law_two, F__law_two⟩ : ∃ fd, Fun K "_law_two" "_law_two" s__law_two f__law_two fd := ⟨_, fun_mk (st := s__law_two) l__law_two c__law_two k__law_two⟩
  obtain ⟨d_law, F_law, b_law⟩ : ∃ fd, Fun K "law" "law" s_law f_law fd ∧ ∀ (s : Shared) (v : Value), BindsTo s fd ⟨[v], []⟩ [("_law_script", v)] := ⟨_, fun_mk (st := s_law) l_law c_law k_law, fun _ _ => .of_eq rfl⟩
  obtain ⟨d_InvalidShape___init__, e_InvalidShape___init__⟩ : ∃ fd, fd = (nfo s_InvalidShape___init__ "__init__" "InvalidShape.__init__" cc_InvalidShape___init__ cd_InvalidShape___init__).fd dc_InvalidShape___init__ pm_InvalidShape___init__ ct_InvalidShape___init__ := ⟨_, rfl⟩
  obtain ⟨A, rfl, rfl, rfl, rfl, rfl, rfl, rfl, rfl, rfl, rfl, rfl, rfl, rfl, rfl, rfl, rfl, rfl, rfl, rfl, rfl, -⟩ : ∃ A : String → Addr, A "_law_box" = f__law_box ∧ A "_law_draw" = f__law_draw ∧ A "_law_lines" = f__law_lines ∧ A "_law_drawn_lines" = f__law_drawn_lines ∧ A "_law_bad" = f__law_bad ∧ A "_is_line" = f__is_line ∧ A "Shape.__init__" = f_Shape___init__ ∧ A "Shape.of" = f_Shape_of ∧ A "_law_made" = f__law_made ∧ A "_law_int" = f__law_int ∧ A "_law_same_text" = f__law_same_text ∧ A "_law_same_names" = f__law_same_names ∧ A "_law_same_shape" = f__law_same_shape ∧ A "_law_is" = f__law_is ∧ A "Shape.__contains__" = f_Shape___contains__ ∧ A "Shape.area" = f_Shape_area ∧ A "_law_right" = f__law_right ∧ A "_law_two" = f__law_two ∧ A "law" = f_law ∧ A "InvalidShape.__init__" = f_InvalidShape___init__ ∧ True := assoc_ex f__law_box ["_law_box", "_law_draw", "_law_lines", "_law_drawn_lines", "_law_bad", "_is_line", "Shape.__init__", "Shape.of", "_law_made", "_law_int", "_law_same_text", "_law_same_names", "_law_same_shape", "_law_is", "Shape.__contains__", "Shape.area", "_law_right", "_law_two", "law", "InvalidShape.__init__"] [f__law_box, f__law_draw, f__law_lines, f__law_drawn_lines, f__law_bad, f__is_line, f_Shape___init__, f_Shape_of, f__law_made, f__law_int, f__law_same_text, f__law_same_names, f__law_same_shape, f__law_is, f_Shape___contains__, f_Shape_area, f__law_right, f__law_two, f_law, f_InvalidShape___init__] (by decide +kernel) rfl
  obtain ⟨FD, rfl, rfl, rfl, rfl, rfl, rfl, rfl, rfl, rfl, rfl, rfl, rfl, rfl, rfl, rfl, rfl, rfl, rfl, rfl, rfl, -⟩ : ∃ FD : String → FuncData, FD "_law_box" = d__law_box ∧ FD "_law_draw" = d__law_draw ∧ FD "_law_lines" = d__law_lines ∧ FD "_law_drawn_lines" = d__law_drawn_lines ∧ FD "_law_bad" = d__law_bad ∧ FD "_is_line" = d__is_line ∧ FD "Shape.__init__" = d_Shape___init__ ∧ FD "Shape.of" = d_Shape_of ∧ FD "_law_made" = d__law_made ∧ FD "_law_int" = d__law_int ∧ FD "_law_same_text" = d__law_same_text ∧ FD "_law_same_names" = d__law_same_names ∧ FD "_law_same_shape" = d__law_same_shape ∧ FD "_law_is" = d__law_is ∧ FD "Shape.__contains__" = d_Shape___contains__ ∧ FD "Shape.area" = d_Shape_area ∧ FD "_law_right" = d__law_right ∧ FD "_law_two" = d__law_two ∧ FD "law" = d_law ∧ FD "InvalidShape.__init__" = d_InvalidShape___init__ ∧ True := assoc_ex d__law_box ["_law_box", "_law_draw", "_law_lines", "_law_drawn_lines", "_law_bad", "_is_line", "Shape.__init__", "Shape.of", "_law_made", "_law_int", "_law_same_text", "_law_same_names", "_law_same_shape", "_law_is", "Shape.__contains__", "Shape.area", "_law_right", "_law_two", "law", "InvalidShape.__init__"] [d__law_box, d__law_draw, d__law_lines, d__law_drawn_lines, d__law_bad, d__is_line, d_Shape___init__, d_Shape_of, d__law_made, d__law_int, d__law_same_text, d__law_same_names, d__law_same_shape, d__law_is, d_Shape___contains__, d_Shape_area, d__law_right, d__law_two, d_law, d_InvalidShape___init__] (by decide +kernel) rfl
  obtain ⟨C, rfl, rfl, -⟩ : ∃ C : String → Addr, C "InvalidShape" = C_InvalidShape ∧ C "Shape" = C_Shape ∧ True := assoc_ex C_InvalidShape ["InvalidShape", "Shape"] [C_InvalidShape, C_Shape] (by decide +kernel) rfl
  subst e
  have T : Tx l.prog K mg C A FD := ⟨F__law_box,
    PySem.W.mg_of X G a__law_box,
    F__law_draw,
    PySem.W.mg_of X G a__law_draw,
    F__law_lines,
    PySem.W.mg_of X G a__law_lines,
    F__law_drawn_lines,
    PySem.W.mg_of X G a__law_drawn_lines,
    F__law_bad,
    PySem.W.mg_of X G a__law_bad,
    F__is_line,
    PySem.W.mg_of X G a__is_line,
    F_Shape___init__,
    b_Shape___init__,
    F_Shape_of,
    F__law_made,
    PySem.W.mg_of X G a__law_made,
    F__law_int,
    PySem.W.mg_of X G a__law_int,
    F__law_same_text,
    PySem.W.mg_of X G a__law_same_text,
    F__law_same_names,
    PySem.W.mg_of X G a__law_same_names,
    F__law_same_shape,
    PySem.W.mg_of X G a__law_same_shape,
    F__law_is,
    PySem.W.mg_of X G a__law_is,
    F_Shape___contains__,
    F_Shape_area,
    F__law_right,
    PySem.W.mg_of X G a__law_right,
    F__law_two,
    PySem.W.mg_of X G a__law_two,
    F_law,
    PySem.W.mg_of X G a_law,
    PySem.W.mg_of X G aC_InvalidShape,
    PySem.W.mg_of X G aC_Shape,
    ⟨pg_Shape, hd_Shape, po_Shape, sa_Shape⟩,
    n_Shape_height,
    n_Shape_lines,
    n_Shape_width,
    ⟨mk_Shape, a_Shape___init__, i_Shape___init__, kc_Shape⟩,
    ⟨a_Shape_area, i_Shape_area, k_Shape_area⟩,
    ⟨rd_Shape, ga_Shape⟩,
    ⟨_, a_Shape_of, ⟨_, r1_Shape_of⟩, i_Shape_of⟩,
    ⟨_, PySem.W.mg_of X G co_OPEN, ⟨_, rfl⟩⟩,
    ⟨_, PySem.W.mg_of X G co_SHUT, ⟨_, rfl⟩⟩,
    ⟨_, PySem.W.mg_of X G co_SIDE, ⟨_, rfl⟩⟩,
    sf_Shape,
    a_Shape___contains__,
    i_Shape___contains__,
    ⟨⟨pg_Shape, hd_Shape, po_Shape, sa_Shape⟩, ica_Shape, icm_Shape⟩,
    ⟨ikn, ikt⟩,
    it_own_Shape_own_Shape,
    it_ty_tuple_ty_tuple,
    it_ty_int_ty_int,
    it_ty_int_ty_bool,
    it_ty_bool_ty_bool,
    it_ty_str_ty_str,
    PySem.W.mg_none_of X G no_all,
    PySem.W.mg_none_of X G no_bool,
    PySem.W.mg_none_of X G no_enumerate,
    PySem.W.mg_none_of X G no_int,
    PySem.W.mg_none_of X G no_isinstance,
    PySem.W.mg_none_of X G no_len,
    PySem.W.mg_none_of X G no_list,
    PySem.W.mg_none_of X G no_range,
    PySem.W.mg_none_of X G no_str,
    PySem.W.mg_none_of X G no_sum,
    PySem.W.mg_none_of X G no_super,
    PySem.W.mg_none_of X G no_tuple,
    ⟨⟨cc_InvalidShape___init__, cd_InvalidShape___init__, _, _, _, _, _, _, e_InvalidShape___init__, l_InvalidShape___init__, c_InvalidShape___init__, ⟨rfl, ⟨_, _, _, _, _, l_InvalidShape___init__, rfl, rfl⟩, ⟨_, _, _, _, _, _, lc_InvalidShape___init__, vf_InvalidShape___init__, pf_InvalidShape___init__⟩, ⟨_, _, _, ce_InvalidShape___init__⟩, clsIn_of ⟨⟨_, _, _, _, _, _, _, _, _, _, _, _, _, _, _, ex_InvalidShape___init__, rv_InvalidShape___init__⟩, sa_InvalidShape___init__, xc_InvalidShape___init__, tc_InvalidShape___init__, kc_InvalidShape___init__⟩, no_super, (show List.lookup ("super" : Str) (defScope s_InvalidShape___init__).names = some NameKind.globalImplicit by decide +kernel), (show List.lookup ("__class__" : Str) (defScope s_InvalidShape___init__).names = some NameKind.free by decide +kernel), (show List.lookup ("self" : Str) (defScope s_InvalidShape___init__).names = some NameKind.local by decide +kernel), (show (defScope s_InvalidShape___init__).kind = ScopeKind.function by decide +kernel), topS⟩⟩, ⟨⟨_, _, _, _, _, _, _, _, _, _, _, _, _, _, _, ex_InvalidShape___init__, rv_InvalidShape___init__⟩, sa_InvalidShape___init__, xc_InvalidShape___init__, tc_InvalidShape___init__, kc_InvalidShape___init__⟩, a_InvalidShape___init__, tf_InvalidShape___init__, hst, si_InvalidShape___init__, su_InvalidShape___init__, PySem.W.mg_none_of X G no_super, hn_InvalidShape___init__, (by rw [e_InvalidShape___init__]; exact Binds.all (fun us hl => match us, hl with | [_, _], _ => rfl)), ⟨xg_InvalidShape___init__, xh_InvalidShape___init__, xc_InvalidShape___init__, xd_InvalidShape___init__⟩⟩,
    xm_InvalidShape_InvalidShape⟩
  exact ⟨_, b_law, fun base _ _ => (ok_law T).imp (spd_law hmath)⟩
end K58
set_option Elab.async false
set_option linter.all false
namespace DL
/-! ### numbers below 64, bit by bit -/
theorem or_lt64 {a b : Nat} (ha : a < 64) (hb : b < 64) : a ||| b < 64 := Nat.or_lt_two_pow (n := 6) ha hb
theorem and_lt64 {a b : Nat} (ha : a < 64) : a &&& b < 64 := Nat.lt_of_le_of_lt Nat.and_le_left ha
end DL
set_option Elab.async false
set_option linter.all false
set_option maxRecDepth 100000
set_option maxHeartbeats 4000000
/-! reading meanings by simp: one discriminant at a time -/
namespace DL
open PySem L2
theorem bind_ok {α β : Type} {f : α → GS → Out β} {a : α} {G : GS} : (Out.ok a G).bind f = f a G := rfl
theorem bind_er {α β : Type} {f : α → GS → Out β} {c : String} {fs : List D} {G : GS} : (Out.er c fs G : Out α).bind f = .er c fs G := rfl
theorem bindN_ok {α β : Type} {f : α → GS → Out β} {a : α} {G : GS} : bindN (Out.ok a G) f = f a G := rfl
theorem ofE_ok {α : Type} {a : α} {G : GS} {env : En} {k : α → GS → OutS} : ofE (.ok a G) env k = k a G := rfl
theorem ofE_er {α : Type} {c : String} {fs : List D} {G : GS} {env : En} {k : α → GS → OutS} : ofE (.er c fs G : Out α) env k = .er c fs env G := rfl
theorem seqO_nx {env : En} {G : GS} {k : En → GS → OutS} : seqO (.nx env G) k = k env G := rfl
theorem seqO_rt {e : EV} {G : GS} {k : En → GS → OutS} : seqO (.rt e G) k = .rt e G := rfl
theorem seqO_er {c : String} {fs : List D} {env : En} {G : GS} {k : En → GS → OutS} : seqO (.er c fs env G) k = .er c fs env G := rfl
theorem seqO_bk {env : En} {G : GS} {k : En → GS → OutS} : seqO (.bk env G) k = .bk env G := rfl
theorem seqO_ct {env : En} {G : GS} {k : En → GS → OutS} : seqO (.ct env G) k = .ct env G := rfl
theorem loopO_nx {env : En} {G : GS} {k : En → GS → OutS} : loopO (.nx env G) k = k env G := rfl
theorem loopO_ct {env : En} {G : GS} {k : En → GS → OutS} : loopO (.ct env G) k = k env G := rfl
theorem loopO_bk {env : En} {G : GS} {k : En → GS → OutS} : loopO (.bk env G) k = .nx env G := rfl
theorem loopO_rt {e : EV} {G : GS} {k : En → GS → OutS} : loopO (.rt e G) k = .rt e G := rfl
theorem loopO_er {c : String} {fs : List D} {env : En} {G : GS} {k : En → GS → OutS} : loopO (.er c fs env G) k = .er c fs env G := rfl
theorem lift_s {α : Type} {e : α} {G : GS} : lift (some (e, G)) = .ok e G := rfl
theorem retO_rt {e : EV} {G : GS} : retO (.rt e G) = .ok e G := rfl
theorem retO_nx {env : En} {G : GS} : retO (.nx env G) = .ok (.d .non) G := rfl
theorem retO_er {c : String} {fs : List D} {env : En} {G : GS} : retO (.er c fs env G) = .er c fs G := rfl
theorem mkO_ok {cl : String} {fs : List D} {G : GS} : mkO cl (.ok fs G) = .ok (.d (.ins cl fs)) G := rfl
theorem mkO_er {cl c : String} {fs : List D} {G : GS} : mkO cl (.er c fs G) = .er c fs G := rfl
theorem toOpt_ok {α : Type} {e : α} {G : GS} : toOpt (.ok e G) = some (e, G) := rfl
/-! frames -/
theorem eVar_z {e : EV} {t : En} {G : GS} : eVar 0 (.ev e :: t) G = .ok e G := rfl
theorem eVar_s {i : Nat} {s : Sl} {t : En} {G : GS} : eVar (i + 1) (s :: t) G = eVar i t G := rfl
theorem oL_z {xs : List D} {t : En} : oL 0 (.own (.lst xs) :: t) = some xs := rfl
theorem oL_s {i : Nat} {s : Sl} {t : En} : oL (i + 1) (s :: t) = oL i t := rfl
theorem frz_z {xs : List D} {t : En} : frzE 0 (.own (.lst xs) :: t) = .ev (.d (.lst xs)) :: t := rfl
theorem frz_s {i : Nat} {s : Sl} {t : En} : frzE (i + 1) (s :: t) = s :: frzE i t := by
  unfold frzE
  rw [List.getElem?_cons_succ]
  cases h : t[i]? with
  | none => rfl
  | some sl => cases sl with
    | own o => cases o <;> rfl
    | _ => rfl
theorem wipe_n {env : En} : wipeE env [] = env := rfl
theorem wipe_c {env : En} {v : Nat} {vs : List Nat} : wipeE env (v :: vs) = (wipeE env vs).set v .no := rfl
theorem datas_n : datas [] = some [] := rfl
theorem datas_c {x : D} {r : List EV} : datas (.d x :: r) = (datas r).map (x :: ·) := rfl
theorem map_s {α β : Type} {f : α → β} {a : α} : Option.map f (some a) = some (f a) := rfl
theorem bind_s {α β : Type} {f : α → Option β} {a : α} : Option.bind (some a) f = f a := rfl
theorem setA_n {env : En} : setAll [] [] env = some env := rfl
theorem setA_c {i : Nat} {is : List Nat} {x : D} {xs : List D} {env : En} : setAll (i :: is) (x :: xs) env = setAll is xs (env.set i (.ev (.d x))) := rfl
/-! values -/
theorem p2_d {g : D → D → Option D} {a b : D} {G : GS} : pure2 g (.d a) (.d b) G = (g a b).map fun z => (.d z, G) := rfl
theorem p1_d {g : D → Option D} {a : D} {G : GS} : pure1 g (.d a) G = (g a).map fun z => (.d z, G) := rfl
theorem pN_d {g : List D → Option D} {xs : List EV} {G : GS} : pureN g xs G = (datas xs).bind fun ds => (g ds).map fun z => (.d z, G) := rfl
theorem fEq_i {a b : Int} {G : GS} : fEq (.d (.int a)) (.d (.int b)) G = some (.d (.bl (decide (a = b))), G) := rfl
theorem fEq_s {a b : Str} {G : GS} : fEq (.d (.str a)) (.d (.str b)) G = some (.d (.bl (decide (a = b))), G) := rfl
theorem fEq_b {a b : Bool} {G : GS} : fEq (.d (.bl a)) (.d (.bl b)) G = some (.d (.bl (decide (a = b))), G) := rfl
theorem fEq_ii {k k' : String} {fs fs' : List D} {G : GS} : fEq (.d (.ins k fs)) (.d (.ins k' fs')) G = none := rfl
theorem fNe_i {a b : Int} {G : GS} : fNe (.d (.int a)) (.d (.int b)) G = some (.d (.bl (!decide (a = b))), G) := rfl
theorem fNe_s {a b : Str} {G : GS} : fNe (.d (.str a)) (.d (.str b)) G = some (.d (.bl (!decide (a = b))), G) := rfl
theorem fNe_b {a b : Bool} {G : GS} : fNe (.d (.bl a)) (.d (.bl b)) G = some (.d (.bl (!decide (a = b))), G) := rfl
theorem fSub_i {a b : Int} {G : GS} : fSub (.d (.int a)) (.d (.int b)) G = some (.d (.int (a - b)), G) := rfl
theorem fAdd_i {a b : Int} {G : GS} : fAdd (.d (.int a)) (.d (.int b)) G = some (.d (.int (a + b)), G) := rfl
theorem fAnd_i {a b : Int} {G : GS} : fAnd (.d (.int a)) (.d (.int b)) G = some (.d (.int (Builtin.bitAnd a b)), G) := rfl
theorem fOr_i {a b : Int} {G : GS} : fOr (.d (.int a)) (.d (.int b)) G = some (.d (.int (Builtin.bitOr a b)), G) := rfl
theorem fXor_i {a b : Int} {G : GS} : fXor (.d (.int a)) (.d (.int b)) G = some (.d (.int (Builtin.bitXor a b)), G) := rfl
theorem fLt_i {a b : Int} {G : GS} : fLt (.d (.int a)) (.d (.int b)) G = some (.d (.bl (decide (a < b))), G) := rfl
theorem fLe_i {a b : Int} {G : GS} : fLe (.d (.int a)) (.d (.int b)) G = some (.d (.bl (decide (a ≤ b))), G) := rfl
theorem fGt_i {a b : Int} {G : GS} : fGt (.d (.int a)) (.d (.int b)) G = some (.d (.bl (decide (b < a))), G) := rfl
theorem fGe_i {a b : Int} {G : GS} : fGe (.d (.int a)) (.d (.int b)) G = some (.d (.bl (decide (b ≤ a))), G) := rfl
theorem fMod_i {a b : Int} {G : GS} (h : cPos a b = true) : fMod (.d (.int a)) (.d (.int b)) G = some (.d (.int (a % b)), G) := by show Option.map _ (if cPos a b = true then _ else _) = _; rw [if_pos h]; rfl
theorem fDiv_i {a b : Int} {G : GS} (h : cDiv a b = true) : fDiv (.d (.int a)) (.d (.int b)) G = some (.d (.int (a / b)), G) := by show Option.map _ (if cDiv a b = true then _ else _) = _; rw [if_pos h]; rfl
theorem fIs_d {a : D} {G : GS} : fIs (.d a) (.d .non) G = some (.d (.bl (isNon a)), G) := rfl
theorem fIsNot_d {a : D} {G : GS} : fIsNot (.d a) (.d .non) G = some (.d (.bl (!isNon a)), G) := rfl
theorem fIsB_b {a b : Bool} {G : GS} : fIsNotB (.d (.bl a)) (.d (.bl b)) G = some (.d (.bl (!decide (a = b))), G) := by cases a <;> cases b <;> rfl
theorem isB_b {b : Bool} {G : GS} : isB (.d (.bl b)) G = some (b, G) := rfl
theorem tru_b {b : Bool} {G : GS} : truE (.d (.bl b)) G = some (b, G) := rfl
theorem tru_i {b : Int} {G : GS} : truE (.d (.int b)) G = some (b != 0, G) := rfl
theorem tru_l {xs : List D} {G : GS} : truE (.d (.lst xs)) G = some (!xs.isEmpty, G) := rfl
theorem tru_t {xs : List D} {G : GS} : truE (.d (.tup xs)) G = some (!xs.isEmpty, G) := rfl
def orE {α : Type} (a : Option α) (b : Option α) : Option α := match a with
  | some r => some r
  | none => b
theorem orE_s {α : Type} {r : α} {b : Option α} : orE (some r) b = some r := rfl
theorem orE_n {α : Type} {b : Option α} : orE none b = b := rfl
theorem alt2_e {f g : F2} {x y : EV} {G : GS} : alt2 f g x y G = orE (f x y G) (g x y G) := by show (match f x y G with | some r => some r | none => g x y G) = _; cases f x y G <;> rfl
theorem alt1_e {f g : F1} {x : EV} {G : GS} : alt1 f g x G = orE (f x G) (g x G) := by show (match f x G with | some r => some r | none => g x G) = _; cases f x G <;> rfl
theorem altN_e {f g : FN} {x : List EV} {G : GS} : altN f g x G = orE (f x G) (g x G) := by show (match f x G with | some r => some r | none => g x G) = _; cases f x G <;> rfl
theorem fIx_l {xs : List D} {i : Int} {G : GS} : fIx (.d (.lst xs)) (.d (.int i)) G = (atI xs i).map fun z => (.d z, G) := rfl
theorem fIx_t {xs : List D} {i : Int} {G : GS} : fIx (.d (.tup xs)) (.d (.int i)) G = (atI xs i).map fun z => (.d z, G) := rfl
theorem at_n {α : Type} {xs : List α} {n : Nat} (h : n < xs.length) : atI xs (n : Int) = some xs[n] := L2.atI_nat (List.getElem?_eq_getElem h)
theorem at_0 {α : Type} {a : α} {t : List α} : atI (a :: t) 0 = some a := at_n (n := 0) (by simp)
theorem at_1 {α : Type} {a b : α} {t : List α} : atI (a :: b :: t) 1 = some b := at_n (n := 1) (by simp)
theorem at_2 {α : Type} {a b c : α} {t : List α} : atI (a :: b :: c :: t) 2 = some c := at_n (n := 2) (by simp)
theorem at_3 {α : Type} {a b c d : α} {t : List α} : atI (a :: b :: c :: d :: t) 3 = some d := at_n (n := 3) (by simp)
theorem at_4 {α : Type} {a b c d e : α} {t : List α} : atI (a :: b :: c :: d :: e :: t) 4 = some e := at_n (n := 4) (by simp)
theorem at_5 {α : Type} {a b c d e f : α} {t : List α} : atI (a :: b :: c :: d :: e :: f :: t) 5 = some f := at_n (n := 5) (by simp)
theorem ixN_p {m : Nat} {i : Int} (h0 : 0 ≤ i) (h1 : i.toNat < m) : ixN m i = some i.toNat := by unfold ixN; rw [if_pos h0, if_pos (by omega)]
theorem for_n {k : Nat} {b : SM} {env : En} {G : GS} : forL k b [] env G = .nx env G := rfl
theorem for_c {k : Nat} {b : SM} {d : D} {ds : List D} {env : En} {G : GS} : forL k b (d :: ds) env G = loopO (b (env.set k (.ev (.d d))) G) (forL k b ds) := rfl
theorem lc_n {k : Nat} {tt : BM} {te : EM} {env : En} {G : GS} : lcL k tt te [] env G = .ok [] G := rfl
def kL2 (y : D) : List D → GS → Out (List D) := fun ys G3 => .ok (y :: ys) G3
theorem kL2_e {y : D} {ys : List D} {G : GS} : kL2 y ys G = .ok (y :: ys) G := rfl
def kL1 (k : Nat) (tt : BM) (te : EM) (ds : List D) (env : En) : EV → GS → Out (List D) := fun y G2 => (match y with
      | .d y => bindN (lcL k tt te ds env G2) (kL2 y)
      | _ => .st)
theorem kL1_e {k : Nat} {tt : BM} {te : EM} {ds : List D} {env : En} {y : D} {G : GS} : kL1 k tt te ds env (.d y) G = bindN (lcL k tt te ds env G) (kL2 y) := rfl
def kT (k : Nat) (tt : BM) (te : EM) (d : D) (ds : List D) (env : En) : Bool → GS → Out (List D) := fun b G1 => if b = true then bindN (te (env.set k (.ev (.d d))) G1) (kL1 k tt te ds env) else lcL k tt te ds env G1
theorem kT_t {k : Nat} {tt : BM} {te : EM} {d : D} {ds : List D} {env : En} {G : GS} : kT k tt te d ds env true G = bindN (te (env.set k (.ev (.d d))) G) (kL1 k tt te ds env) := rfl
theorem kT_f {k : Nat} {tt : BM} {te : EM} {d : D} {ds : List D} {env : En} {G : GS} : kT k tt te d ds env false G = lcL k tt te ds env G := rfl
theorem lc_c {k : Nat} {tt : BM} {te : EM} {d : D} {ds : List D} {env : En} {G : GS} : lcL k tt te (d :: ds) env G = bindN (tt (env.set k (.ev (.d d))) G) (kT k tt te d ds env) := rfl
theorem len_lst {xs : List D} {G : GS} : fLen [.d (.lst xs)] G = some (.d (.int xs.length), G) := rfl
theorem len_tup {xs : List D} {G : GS} : fLen [.d (.tup xs)] G = some (.d (.int xs.length), G) := rfl
theorem kfn_c {k : String} {g : Ar × FM} {r : List (String × (Ar × FM))} {k' : String} : kfn ((k, g) :: r) k' = if k = k' then some g else kfn r k' := rfl
theorem kix_c {k : String} {i : Nat} {r : List (String × Nat)} {k' : String} : kix ((k, i) :: r) k' = if k = k' then some i else kix r k' := rfl
/-- the class of an instance, its fields -/
def kOf : EV → Option String
  | .d (.ins k _) => some k
  | _ => none
def fsOf : D → List D
  | .ins _ fs => fs
  | _ => []
theorem kOf_i {k : String} {fs : List D} : kOf (.d (.ins k fs)) = some k := rfl
theorem fsOf_i {k : String} {fs : List D} : fsOf (.ins k fs) = fs := rfl
def kMe (A : Ar) (g : FM) (x : EV) : List EV → GS → Out EV := fun xs G2 => if A (xs.length + 1) = true then g (x :: xs) G2 else .st
theorem kMe_e {A : Ar} {g : FM} {x : EV} {xs : List EV} {G : GS} (h : A (xs.length + 1) = true) : kMe A g x xs G = g (x :: xs) G := if_pos h
def methA (o : Option (Ar × FM)) (x : EV) (r : AM) (env : En) (G : GS) : Out EV := match o with
  | some (A, g) => (r env G).bind (kMe A g x)
  | none => .st
def methK (ms : List (String × (Ar × FM))) (o : Option String) (x : EV) (r : AM) (env : En) (G : GS) : Out EV := match o with
  | some k => methA (kfn ms k) x r env G
  | none => .st
def methO (ms : List (String × (Ar × FM))) (x : EV) (r : AM) (env : En) (G : GS) : Out EV := methK ms (kOf x) x r env G
theorem methO_e {ms : List (String × (Ar × FM))} {x : EV} {r : AM} {env : En} {G : GS} : methO ms x r env G = methK ms (kOf x) x r env G := rfl
theorem methK_s {ms : List (String × (Ar × FM))} {k : String} {x : EV} {r : AM} {env : En} {G : GS} : methK ms (some k) x r env G = methA (kfn ms k) x r env G := rfl
theorem methA_s {A : Ar} {g : FM} {x : EV} {r : AM} {env : En} {G : GS} : methA (some (A, g)) x r env G = (r env G).bind (kMe A g x) := rfl
def ownK (cl : String) (A : Ar) (g : FM) (o o' : Option String) (x y : EV) (G : GS) : Option (EV × GS) := match o, o' with
  | some k, some k' => if k = cl ∧ k' = cl ∧ A 2 = true then toOpt (g [x, y] G) else none
  | _, _ => none
theorem ownK_s {cl k k' : String} {A : Ar} {g : FM} {x y : EV} {G : GS} : ownK cl A g (some k) (some k') x y G = if k = cl ∧ k' = cl ∧ A 2 = true then toOpt (g [x, y] G) else none := rfl
theorem ownK_n {cl : String} {o : Option String} {A : Ar} {g : FM} {x y : EV} {G : GS} : ownK cl A g none o x y G = none := rfl
theorem ownK_m {cl : String} {o : Option String} {A : Ar} {g : FM} {x y : EV} {G : GS} : ownK cl A g o none x y G = none := by cases o <;> rfl
theorem fOwn_k {cl : String} {A : Ar} {g : FM} {x y : EV} {G : GS} : fOwn cl A g x y G = ownK cl A g (kOf x) (kOf y) x y G := by
  cases x with
  | o i => rfl
  | d x => cases y with
    | o i => cases x <;> rfl
    | d y => cases x <;> cases y <;> rfl
def own1K (cl : String) (A : Ar) (g : FM) (o : Option String) (x : EV) (G : GS) : Option (EV × GS) := match o with
  | some k => if k = cl ∧ A 1 = true then toOpt (g [x] G) else none
  | _ => none
theorem own1K_s {cl k : String} {A : Ar} {g : FM} {x : EV} {G : GS} : own1K cl A g (some k) x G = if k = cl ∧ A 1 = true then toOpt (g [x] G) else none := rfl
theorem own1K_n {cl : String} {A : Ar} {g : FM} {x : EV} {G : GS} : own1K cl A g none x G = none := rfl
theorem fOwn1_k {cl : String} {A : Ar} {g : FM} {x : EV} {G : GS} : fOwn1 cl A g x G = own1K cl A g (kOf x) x G := by
  cases x with
  | o i => rfl
  | d x => cases x <;> rfl
def fldK (ks : List (String × Nat)) (o : Option String) (fs : List D) : Option D := match o with
  | some k => (kix ks k).bind fun i => fs[i]?
  | none => none
theorem fldK_s {ks : List (String × Nat)} {k : String} {fs : List D} : fldK ks (some k) fs = (kix ks k).bind fun i => fs[i]? := rfl
theorem gFld_k {ks : List (String × Nat)} {x : D} : gFld ks x = fldK ks (kOf (.d x)) (fsOf x) := by cases x <;> rfl
theorem cPos_e {a b : Int} : cPos a b = decide (0 < b) := rfl
theorem cDiv_e {a b : Int} : cDiv a b = (decide (0 < b) && decide (b < 2 ^ 200)) := rfl
theorem lstMax_e : lstMax = 100000 := rfl
theorem arN_t {n : Nat} : arN n n = true := by unfold arN; exact beq_self_eq_true n
theorem arS_0 {n : Nat} : arS 0 n = true := by unfold arS; exact decide_eq_true (Nat.zero_le n)
theorem bYes_e {env : En} {G : GS} : bYes env G = .ok true G := rfl
/-! the meanings, applied; what follows a value is a name -/
def kSet (i : Nat) (env : En) : EV → GS → OutS := fun e G1 => .nx (env.set i (.ev e)) G1
def kSet2 (i j : Nat) (env : En) : EV → GS → OutS := fun e G1 => .nx ((env.set i (.ev e)).set j (.ev e)) G1
def kDrop (env : En) : EV → GS → OutS := fun _ G1 => .nx env G1
def kIf (a b : SM) (env : En) : Bool → GS → OutS := fun k G1 => if k = true then a env G1 else b env G1
def kOwn (i : Nat) (env : En) : List D × GS → GS → OutS := fun p _ => .nx (env.set i (.own (.lst p.1))) p.2
def kApp (xs : List D) (i : Nat) (env : En) : EV → GS → OutS := fun e G1 => match e with
    | .d x => if xs.length < lstMax then .nx (env.set i (.own (.lst (xs ++ [x])))) G1 else .st
    | _ => .st
def kOsub2 (xs : List D) (i : Nat) (env : En) (x : EV) : EV → GS → OutS := fun j G2 => match x, j with
    | .d x, .d (.int j) => (match ixN xs.length j with
      | some j => .nx (env.set i (.own (.lst (xs.set j x)))) G2
      | none => .st)
    | _, _ => .st
def kOsub1 (xs : List D) (i : Nat) (mi : EM) (env : En) : EV → GS → OutS := fun x G1 => ofE (mi env G1) env (kOsub2 xs i env x)
def kFor (k : Nat) (b : SM) (env : En) : List D → GS → OutS := fun ds G1 => forL k b ds env G1
def unpK (o : Option En) (G : GS) : OutS := match o with
  | some env' => .nx env' G
  | none => .st
def kUnp (is : List Nat) (env : En) : EV → GS → OutS := fun e G1 => match e with
  | .d (.tup xs) => unpK (setAll is xs env) G1
  | _ => .st
def kOp2 (f : F2) (x : EV) : EV → GS → Out EV := fun y G2 => lift (f x y G2)
def kOp1 (f : F2) (b : EM) (env : En) : EV → GS → Out EV := fun x G1 => (b env G1).bind (kOp2 f x)
def kUn (f : F1) : EV → GS → Out EV := fun x G1 => lift (f x G1)
def kC2 (x : EV) : List EV → GS → Out (List EV) := fun xs G2 => .ok (x :: xs) G2
def kC1 (r : AM) (env : En) : EV → GS → Out (List EV) := fun x G1 => (r env G1).bind (kC2 x)
def kA2 (i j : Nat) (xs : List EV) : List EV → GS → Out (List EV) := fun ys G2 => if xs.length = i ∧ ys.length = j then .ok (xs ++ ys) G2 else .st
def kA1 (i j : Nat) (r' : AM) (env : En) : List EV → GS → Out (List EV) := fun xs G1 => (r' env G1).bind (kA2 i j xs)
def kFN (fn : FN) : List EV → GS → Out EV := fun xs G1 => lift (fn xs G1)
def kCall (A : Ar) (g : FM) : List EV → GS → Out EV := fun xs G1 => if A xs.length = true then g xs G1 else .st
def kMake (cl : String) (A : Ar) (gi : IM) : List EV → GS → Out EV := fun xs G1 => if A xs.length = true then mkO cl (gi xs G1) else .st
def kCM (cl : String) (A : Ar) (g : FM) : List EV → GS → Out EV := fun xs G1 => if A (xs.length + 1) = true then g (.d (.cls cl) :: xs) G1 else .st
def kMeth (ms : List (String × (Ar × FM))) (r : AM) (env : En) : EV → GS → Out EV := fun x G1 => methO ms x r env G1
def lstK (o : Option (List D)) (G : GS) : Out EV := match o with
  | some ds => if ds.length ≤ lstMax then .ok (.d (.lst ds)) G else .st
  | none => .st
def kLst : List EV → GS → Out EV := fun xs G1 => lstK (datas xs) G1
def tupK (o : Option (List D)) (G : GS) : Out EV := match o with
  | some ds => if ds.length ≤ lstMax then .ok (.d (.tup ds)) G else .st
  | none => .st
def kTup : List EV → GS → Out EV := fun xs G1 => tupK (datas xs) G1
def nlK (o : Option (List D)) (G : GS) : Out (List D × GS) := match o with
  | some ds => if ds.length ≤ lstMax then .ok (ds, G) G else .st
  | none => .st
def kNl : List EV → GS → Out (List D × GS) := fun xs G1 => nlK (datas xs) G1
def nliK (o : Option (List D)) (G : GS) : Out (List D × GS) := match o with
  | some ds => .ok (ds, G) G
  | none => .st
def kNli : List EV → GS → Out (List D × GS) := fun xs G1 => nliK (lOf xs) G1
def kLc2 : List D → GS → Out EV := fun ys G2 => if ys.length ≤ lstMax then .ok (.d (.lst ys)) G2 else .st
def kLc1 (k : Nat) (vs : List Nat) (t : BM) (e : EM) (env : En) : List D → GS → Out EV := fun ds G1 => bindN (lcL k t e ds (wipeE env vs) G1) kLc2
def kNc2 : List D → GS → Out (List D × GS) := fun ys G2 => if ys.length ≤ lstMax then .ok (ys, G2) G2 else .st
def kNc1 (k : Nat) (vs : List Nat) (t : BM) (e : EM) (env : En) : List D → GS → Out (List D × GS) := fun ds G1 => bindN (lcL k t e ds (wipeE env vs) G1) kNc2
def kSeq : EV → GS → Out (List D) := fun e G1 => match e with
  | .d (.lst xs) => .ok xs G1
  | _ => .st
def kTpl : EV → GS → Out (List D) := fun e G1 => match e with
  | .d (.tup xs) => .ok xs G1
  | _ => .st
def kEIf (a b : EM) (env : En) : Bool → GS → Out EV := fun k G1 => if k = true then a env G1 else b env G1
def kEAnd (b : EM) (env : En) : EV → GS → Out EV := fun x G1 => match x with
  | .d (.bl true) => b env G1
  | .d (.bl false) => .ok (.d (.bl false)) G1
  | _ => .st
def kEOr (b : EM) (env : En) : EV → GS → Out EV := fun x G1 => match x with
  | .d (.bl true) => .ok (.d (.bl true)) G1
  | .d (.bl false) => b env G1
  | _ => .st
def kENot : EV → GS → Out EV := fun x G1 => match x with
  | .d (.bl k) => .ok (.d (.bl (!k))) G1
  | _ => .st
def kB (F : EV → GS → Option (Bool × GS)) : EV → GS → Out Bool := fun e G1 => lift (F e G1)
def kBAnd (b : BM) (env : En) : Bool → GS → Out Bool := fun k G1 => if k = true then b env G1 else .ok false G1
def kBOr (b : BM) (env : En) : Bool → GS → Out Bool := fun k G1 => if k = true then .ok true G1 else b env G1
def kBNot : Bool → GS → Out Bool := fun k G1 => .ok (!k) G1
def kOS : EV → GS → Out (Option Int) := fun x G1 => match x with
  | .d (.int i) => .ok (some i) G1
  | _ => .st
def kSl3 (x : EV) (l : Option Int) : Option Int → GS → Out EV := fun h G3 => match x with
  | .d (.lst xs) => .ok (.d (.lst (cutL xs l h))) G3
  | _ => .st
def kSl2 (hi : OM) (env : En) (x : EV) : Option Int → GS → Out EV := fun l G2 => (hi env G2).bind (kSl3 x l)
def kSl1 (lo hi : OM) (env : En) : EV → GS → Out EV := fun x G1 => (lo env G1).bind (kSl2 hi env x)
def kSt3 (x : EV) (l : Option Int) : Option Int → GS → Out EV := fun h G3 => match x with
  | .d (.tup xs) => .ok (.d (.tup (cutL xs l h))) G3
  | _ => .st
def kSt2 (hi : OM) (env : En) (x : EV) : Option Int → GS → Out EV := fun l G2 => (hi env G2).bind (kSt3 x l)
def kSt1 (lo hi : OM) (env : En) : EV → GS → Out EV := fun x G1 => (lo env G1).bind (kSt2 hi env x)
def ixK (o : Option D) (G : GS) : Out EV := match o with
  | some x => .ok (.d x) G
  | none => .st
def kOix (xs : List D) : EV → GS → Out EV := fun j G1 => match j with
    | .d (.int j) => ixK (atI xs j) G1
    | _ => .st
section
variable {a b m n : SM} {e e' mo me mi : EM} {t ta tb : BM} {r r' : AM} {l : LM} {env env' : En} {G : GS} {i j k : Nat} {f : F2} {f1 : F1} {fn : FN} {A : Ar} {g : FM} {gi : IM} {cl : String} {fm : FM'} {x y : D} {u v : EV} {xs ys ds : List D} {us vs : List EV} {is : List Nat} {lo hi : OM} {ms : List (String × (Ar × FM))} {z : Int} {oz ow : Option Int}
theorem sSeq_e : sSeq a b env G = seqO (a env G) b := rfl
theorem sNil_e : sNil env G = .nx env G := rfl
theorem sSet_e : sSet i e env G = ofE (e env G) env (kSet i env) := rfl
theorem kSet_e : kSet i env u G = .nx (env.set i (.ev u)) G := rfl
theorem sSet2_e : sSet2 i j e env G = ofE (e env G) env (kSet2 i j env) := rfl
theorem kSet2_e : kSet2 i j env u G = .nx ((env.set i (.ev u)).set j (.ev u)) G := rfl
theorem sRet_e : sRet e env G = ofE (e env G) env OutS.rt := rfl
theorem sRetN_e : sRetN env G = .rt (.d .non) G := rfl
theorem sDrop_e : sDrop e env G = ofE (e env G) env (kDrop env) := rfl
theorem kDrop_e : kDrop env u G = .nx env G := rfl
theorem sIf_e : sIf t a b env G = ofE (t env G) env (kIf a b env) := rfl
theorem kIf_t : kIf a b env true G = a env G := rfl
theorem kIf_f : kIf a b env false G = b env G := rfl
theorem sBk_e : sBk env G = .bk env G := rfl
theorem sCt_e : sCt env G = .ct env G := rfl
theorem sFrz_e : sFrz i a env G = a (frzE i env) G := rfl
theorem sOwn_e : sOwn i fm env G = ofE (fm env G) env (kOwn i env) := rfl
theorem kOwn_e : kOwn i env (xs, G) G = .nx (env.set i (.own (.lst xs))) G := rfl
def appK (o : Option (List D)) (i : Nat) (m : EM) (env : En) (G : GS) : OutS := match o with
  | some xs => ofE (m env G) env (kApp xs i env)
  | none => .st
theorem sApp_e : sApp i e env G = appK (oL i env) i e env G := rfl
theorem appK_s : appK (some xs) i e env G = ofE (e env G) env (kApp xs i env) := rfl
theorem kApp_e : kApp xs i env (.d x) G = if xs.length < lstMax then .nx (env.set i (.own (.lst (xs ++ [x])))) G else .st := rfl
def osubK (o : Option (List D)) (i : Nat) (mi me : EM) (env : En) (G : GS) : OutS := match o with
  | some xs => ofE (me env G) env (kOsub1 xs i mi env)
  | none => .st
theorem sOSub_e : sOSub i mi me env G = osubK (oL i env) i mi me env G := rfl
theorem osubK_s : osubK (some xs) i mi me env G = ofE (me env G) env (kOsub1 xs i mi env) := rfl
theorem kOsub1_e : kOsub1 xs i mi env u G = ofE (mi env G) env (kOsub2 xs i env u) := rfl
def osK (o : Option Nat) (xs : List D) (i : Nat) (env : En) (x : D) (G : GS) : OutS := match o with
  | some j => .nx (env.set i (.own (.lst (xs.set j x)))) G
  | none => .st
theorem kOsub2_e : kOsub2 xs i env (.d x) (.d (.int z)) G = osK (ixN xs.length z) xs i env x G := rfl
theorem osK_s : osK (some j) xs i env x G = .nx (env.set i (.own (.lst (xs.set j x)))) G := rfl
def oixK (o : Option (List D)) (mi : EM) (env : En) (G : GS) : Out EV := match o with
  | some xs => (mi env G).bind (kOix xs)
  | none => .st
theorem eOIx_e : eOIx i mi env G = oixK (oL i env) mi env G := rfl
theorem oixK_s : oixK (some xs) mi env G = (mi env G).bind (kOix xs) := rfl
theorem kOix_e : kOix xs (.d (.int z)) G = ixK (atI xs z) G := rfl
theorem ixK_s : ixK (some x) G = .ok (.d x) G := rfl
def olenK (o : Option (List D)) (G : GS) : Out EV := match o with
  | some xs => .ok (.d (.int xs.length)) G
  | none => .st
theorem olenK_s : olenK (some xs) G = .ok (.d (.int xs.length)) G := rfl
theorem eOLen_e : eOLen i env G = olenK (oL i env) G := rfl
theorem sFor_e : sFor k l b env G = ofE (l env G) env (kFor k b env) := rfl
theorem kFor_e : kFor k b env ds G = forL k b ds env G := rfl
theorem sUnp_e : sUnp is e env G = ofE (e env G) env (kUnp is env) := rfl
theorem kUnp_e : kUnp is env (.d (.tup xs)) G = unpK (setAll is xs env) G := rfl
theorem unpK_s : unpK (some env') G = .nx env' G := rfl
theorem eC_e : eC x env G = .ok (.d x) G := rfl
theorem eOp_e : eOp f e e' env G = (e env G).bind (kOp1 f e' env) := rfl
theorem kOp1_e : kOp1 f e env u G = (e env G).bind (kOp2 f u) := rfl
theorem kOp2_e : kOp2 f u v G = lift (f u v G) := rfl
theorem eUn_e : eUn f1 e env G = (e env G).bind (kUn f1) := rfl
theorem kUn_e : kUn f1 u G = lift (f1 u G) := rfl
theorem aNil_e : aNil env G = .ok [] G := rfl
theorem aCons_e : aCons e r env G = (e env G).bind (kC1 r env) := rfl
theorem kC1_e : kC1 r env u G = (r env G).bind (kC2 u) := rfl
theorem kC2_e : kC2 u us G = .ok (u :: us) G := rfl
theorem aApp_e : aApp i j r r' env G = (r env G).bind (kA1 i j r' env) := rfl
theorem kA1_e : kA1 i j r' env us G = (r' env G).bind (kA2 i j us) := rfl
theorem kA2_e (h : us.length = i ∧ vs.length = j) : kA2 i j us vs G = .ok (us ++ vs) G := if_pos h
theorem eFN_e : eFN fn r env G = (r env G).bind (kFN fn) := rfl
theorem kFN_e : kFN fn us G = lift (fn us G) := rfl
theorem eCall_e : eCall A g r env G = (r env G).bind (kCall A g) := rfl
theorem kCall_e (h : A us.length = true) : kCall A g us G = g us G := if_pos h
theorem eMake_e : eMake cl A gi r env G = (r env G).bind (kMake cl A gi) := rfl
theorem kMake_e (h : A us.length = true) : kMake cl A gi us G = mkO cl (gi us G) := if_pos h
theorem eCMeth_e : eCMeth cl A g r env G = (r env G).bind (kCM cl A g) := rfl
theorem kCM_e (h : A (us.length + 1) = true) : kCM cl A g us G = g (.d (.cls cl) :: us) G := if_pos h
theorem eMeth_e : eMeth ms e r env G = (e env G).bind (kMeth ms r env) := by
  unfold eMeth
  congr 1
  funext x G1
  cases x with
  | o i => rfl
  | d x => cases x <;> rfl
theorem kMeth_e : kMeth ms r env u G = methO ms u r env G := rfl
theorem eCallO_e : eCallO ms e r env G = eMeth ms e r env G := rfl
theorem eLst_e : eLst r env G = (r env G).bind kLst := rfl
theorem kLst_e : kLst us G = lstK (datas us) G := rfl
theorem lstK_s : lstK (some ds) G = if ds.length ≤ lstMax then .ok (.d (.lst ds)) G else .st := rfl
theorem eTup_e : eTup r env G = (r env G).bind kTup := rfl
theorem kTup_e : kTup us G = tupK (datas us) G := rfl
theorem tupK_s : tupK (some ds) G = if ds.length ≤ lstMax then .ok (.d (.tup ds)) G else .st := rfl
theorem nLst_e : nLst r env G = (r env G).bind kNl := rfl
theorem kNl_e : kNl us G = nlK (datas us) G := rfl
theorem nlK_s : nlK (some ds) G = if ds.length ≤ lstMax then .ok (ds, G) G else .st := rfl
theorem nList_e : nList r env G = (r env G).bind kNli := rfl
theorem kNli_e : kNli us G = nliK (lOf us) G := rfl
theorem nliK_s : nliK (some ds) G = .ok (ds, G) G := rfl
theorem lOf_l : lOf [.d (.lst ds)] = some ds := rfl
theorem lOf_t : lOf [.d (.tup ds)] = some ds := rfl
theorem nLc_e : nLc k is l t e env G = (l env G).bind (kNc1 k is t e env) := rfl
theorem kNc1_e : kNc1 k is t e env ds G = bindN (lcL k t e ds (wipeE env is) G) kNc2 := rfl
theorem kNc2_e : kNc2 ds G = if ds.length ≤ lstMax then .ok (ds, G) G else .st := rfl
theorem eLc_e : eLc k is l t e env G = (l env G).bind (kLc1 k is t e env) := rfl
theorem kLc1_e : kLc1 k is t e env ds G = bindN (lcL k t e ds (wipeE env is) G) kLc2 := rfl
theorem kLc2_e : kLc2 ds G = if ds.length ≤ lstMax then .ok (.d (.lst ds)) G else .st := rfl
theorem lSeq_e : lSeq e env G = (e env G).bind kSeq := rfl
theorem kSeq_e : kSeq (.d (.lst xs)) G = .ok xs G := rfl
theorem lTup_e : lTup e env G = (e env G).bind kTpl := rfl
theorem kTpl_e : kTpl (.d (.tup xs)) G = .ok xs G := rfl
theorem eIf_e : eIf t e e' env G = (t env G).bind (kEIf e e' env) := rfl
theorem kEIf_t : kEIf e e' env true G = e env G := rfl
theorem kEIf_f : kEIf e e' env false G = e' env G := rfl
theorem eAnd_e : eAnd e e' env G = (e env G).bind (kEAnd e' env) := rfl
theorem kEAnd_t : kEAnd e env (.d (.bl true)) G = e env G := rfl
theorem kEAnd_f : kEAnd e env (.d (.bl false)) G = .ok (.d (.bl false)) G := rfl
theorem eOr_e : eOr e e' env G = (e env G).bind (kEOr e' env) := rfl
theorem kEOr_t : kEOr e env (.d (.bl true)) G = .ok (.d (.bl true)) G := rfl
theorem kEOr_f : kEOr e env (.d (.bl false)) G = e env G := rfl
theorem eNot_e : eNot e env G = (e env G).bind kENot := rfl
theorem kENot_e {k : Bool} : kENot (.d (.bl k)) G = .ok (.d (.bl (!k))) G := rfl
theorem bOf_e {F : EV → GS → Option (Bool × GS)} : bOf F e env G = (e env G).bind (kB F) := rfl
theorem kB_e {F : EV → GS → Option (Bool × GS)} : kB F u G = lift (F u G) := rfl
theorem bAnd_e : bAnd ta tb env G = (ta env G).bind (kBAnd tb env) := rfl
theorem kBAnd_t : kBAnd tb env true G = tb env G := rfl
theorem kBAnd_f : kBAnd tb env false G = .ok false G := rfl
theorem bOr_e : bOr ta tb env G = (ta env G).bind (kBOr tb env) := rfl
theorem kBOr_t : kBOr tb env true G = .ok true G := rfl
theorem kBOr_f : kBOr tb env false G = tb env G := rfl
theorem bNot_e : bNot ta env G = (ta env G).bind kBNot := rfl
theorem kBNot_e {k : Bool} : kBNot k G = .ok (!k) G := rfl
theorem eFld_e {ks : List (String × Nat)} : eFld ks e env G = (e env G).bind (kUn (pure1 (gFld ks))) := rfl
theorem runB_e : runB i m us G = retO (m (env0 i us) G) := rfl
theorem env0_e : env0 i us = us.map .ev ++ List.replicate (i - us.length) .no := rfl
theorem oN_e : oNone env G = .ok none G := rfl
theorem oS_e : oSome e env G = (e env G).bind kOS := rfl
theorem kOS_e : kOS (.d (.int z)) G = .ok (some z) G := rfl
theorem eSl_e : eSl e lo hi env G = (e env G).bind (kSl1 lo hi env) := rfl
theorem kSl1_e : kSl1 lo hi env u G = (lo env G).bind (kSl2 hi env u) := rfl
theorem kSl2_e : kSl2 hi env u oz G = (hi env G).bind (kSl3 u oz) := rfl
theorem kSl3_e : kSl3 (.d (.lst xs)) oz ow G = .ok (.d (.lst (cutL xs oz ow))) G := rfl
theorem eSlT_e : eSlT e lo hi env G = (e env G).bind (kSt1 lo hi env) := rfl
theorem kSt1_e : kSt1 lo hi env u G = (lo env G).bind (kSt2 hi env u) := rfl
theorem kSt2_e : kSt2 hi env u oz G = (hi env G).bind (kSt3 u oz) := rfl
theorem kSt3_e : kSt3 (.d (.tup xs)) oz ow G = .ok (.d (.tup (cutL xs oz ow))) G := rfl
end
/-! raising, catching -/
def kEr (cl : String) (ok : D → Bool) (env : En) : EV → GS → OutS := fun e G1 => match e with
  | .d x => if ok x = true then .er cl [x] env G1 else .st
  | _ => .st
theorem sEr_e {cl : String} {ok : D → Bool} {m : EM} {env : En} {G : GS} : sEr cl ok m env G = ofE (m env G) env (kEr cl ok env) := rfl
theorem kEr_e {cl : String} {ok : D → Bool} {x : D} {env : En} {G : GS} (h : ok x = true) : kEr cl ok env (.d x) G = .er cl [x] env G := if_pos h
def tryK (i : Nat) (cl : String) (ms : SM) (o : OutS) : OutS := match o with
  | .er k fs env1 G1 => if k = cl ∧ env1.all plainS = true ∧ i < env1.length then afterO i (ms (env1.set i (.exn cl fs)) G1) else .st
  | o => o
theorem sTryAs_e {i : Nat} {cl : String} {mb ms : SM} {env : En} {G : GS} : sTryAs i cl mb ms env G = tryK i cl ms (mb env G) := rfl
theorem tryK_nx {i : Nat} {cl : String} {ms : SM} {env : En} {G : GS} : tryK i cl ms (.nx env G) = .nx env G := rfl
theorem tryK_rt {i : Nat} {cl : String} {ms : SM} {e : EV} {G : GS} : tryK i cl ms (.rt e G) = .rt e G := rfl
theorem tryK_er {i : Nat} {cl : String} {fs : List D} {ms : SM} {env : En} {G : GS} (h : env.all plainS = true) (hi : i < env.length) : tryK i cl ms (.er cl fs env G) = afterO i (ms (env.set i (.exn cl fs)) G) := if_pos ⟨rfl, h, hi⟩
theorem afterO_rt {i : Nat} {e : EV} {G : GS} : afterO i (.rt e G) = .rt e G := rfl
theorem afterO_nx {i : Nat} {env : En} {G : GS} (h : (env.set i .no).all plainS = true) : afterO i (.nx env G) = .nx (env.set i .no) G := if_pos h
def xfK (o : Option D) (G : GS) : Out EV := match o with
  | some x => .ok (.d x) G
  | none => .st
def xfS (sl : Option Sl) (cl : String) (j : Nat) (G : GS) : Out EV := match sl with
  | some (.exn k fs) => if k = cl then xfK fs[j]? G else .st
  | _ => .st
theorem eXf_e {i : Nat} {cl : String} {j : Nat} {env : En} {G : GS} : eXf i cl j env G = xfS env[i]? cl j G := by
  unfold eXf xfS xfK
  cases (env[i]? : Option Sl) with
  | none => rfl
  | some sl => cases sl <;> rfl
theorem xfS_s {cl : String} {fs : List D} {j : Nat} {G : GS} : xfS (some (.exn cl fs)) cl j G = xfK fs[j]? G := if_pos rfl
theorem xfK_s {x : D} {G : GS} : xfK (some x) G = .ok (.d x) G := rfl
theorem plain_n : plainS .no = true := rfl
theorem plain_e {e : EV} : plainS (.ev e) = true := rfl
/-! comprehensions over what is the picture of a list -/
theorem lc_map {α : Type} {f g : α → D} {k : Nat} {te : EM} {env : En} {G : GS} : ∀ (xs : List α), (∀ x ∈ xs, te (env.set k (.ev (.d (f x)))) G = .ok (.d (g x)) G) → lcL k bYes te (xs.map f) env G = .ok (xs.map g) G
  | [], _ => rfl
  | x :: xs, h => by
    rw [List.map_cons, lc_c, bYes_e, bindN_ok, kT_t, h x (List.mem_cons_self ..), bindN_ok, kL1_e, lc_map xs fun y hy => h y (List.mem_cons_of_mem _ hy), bindN_ok]
    rfl
theorem lc_filt {α : Type} {f g : α → D} {p : α → Bool} {k : Nat} {tt : BM} {te : EM} {env : En} {G : GS} : ∀ (xs : List α), (∀ x ∈ xs, tt (env.set k (.ev (.d (f x)))) G = .ok (p x) G) → (∀ x ∈ xs, p x = true → te (env.set k (.ev (.d (f x)))) G = .ok (.d (g x)) G) → lcL k tt te (xs.map f) env G = .ok ((xs.filter p).map g) G
  | [], _, _ => rfl
  | x :: xs, h, h2 => by
    have ih := lc_filt xs (fun y hy => h y (List.mem_cons_of_mem _ hy)) (fun y hy => h2 y (List.mem_cons_of_mem _ hy))
    rw [List.map_cons, lc_c, h x (List.mem_cons_self ..), bindN_ok]
    cases hp : p x with
    | false => rw [kT_f, ih, List.filter_cons, hp]; rfl
    | true => rw [kT_t, h2 x (List.mem_cons_self ..) hp, bindN_ok, kL1_e, ih, bindN_ok, List.filter_cons, hp]; rfl
def kRng : List EV → GS → Out (List D) := fun xs G1 => match xs with
  | [.d (.int j)] => if -rngMax ≤ j ∧ j ≤ rngMax then .ok (lRng 0 j.toNat) G1 else .st
  | _ => .st
theorem lRng1_e {r : AM} {env : En} {G : GS} : lRng1 r env G = (r env G).bind kRng := rfl
theorem kRng_1 {G : GS} : kRng [.d (.int 1)] G = .ok [.int 0] G := rfl
theorem kRng_2 {G : GS} : kRng [.d (.int 2)] G = .ok [.int 0, .int 1] G := rfl
theorem kRng_3 {G : GS} : kRng [.d (.int 3)] G = .ok [.int 0, .int 1, .int 2] G := rfl
theorem kRng_4 {G : GS} : kRng [.d (.int 4)] G = .ok [.int 0, .int 1, .int 2, .int 3] G := rfl
theorem kRng_5 {G : GS} : kRng [.d (.int 5)] G = .ok [.int 0, .int 1, .int 2, .int 3, .int 4] G := rfl
theorem kRng_6 {G : GS} : kRng [.d (.int 6)] G = .ok [.int 0, .int 1, .int 2, .int 3, .int 4, .int 5] G := rfl
end DL
/-! reading by simp: try with several clauses, defaults -/
namespace DL
open PySem
def tryN (T : List TEnt) (o : OutS) : OutS := match o with
  | .er k fs env1 G1 => match T.find? fun t => t.1 == k with
    | some t => if env1.all plainS = true ∧ t.2.1 < env1.length then afterO t.2.1 (t.2.2 (env1.set t.2.1 (.exn k fs)) G1) else .st
    | none => .st
  | o => o
theorem sTryN_e {T : List TEnt} {mb : SM} {env : En} {G : GS} : sTryN T mb env G = tryN T (mb env G) := by
  unfold sTryN tryN
  cases mb env G <;> rfl
theorem tryN_nx {T : List TEnt} {env : En} {G : GS} : tryN T (.nx env G) = .nx env G := rfl
theorem tryN_rt {T : List TEnt} {e : EV} {G : GS} : tryN T (.rt e G) = .rt e G := rfl
theorem tryN_h {cl : String} {i : Nat} {ms : SM} {T : List TEnt} {fs : List D} {env : En} {G : GS} (h : env.all plainS = true) (hi : i < env.length) : tryN ((cl, i, ms) :: T) (.er cl fs env G) = afterO i (ms (env.set i (.exn cl fs)) G) := by
  show (match ((cl, i, ms) :: T).find? fun t => t.1 == cl with
    | some t => if env.all plainS = true ∧ t.2.1 < env.length then afterO t.2.1 (t.2.2 (env.set t.2.1 (.exn cl fs)) G) else .st
    | none => .st) = _
  rw [List.find?_cons_of_pos (by simp)]
  exact if_pos ⟨h, hi⟩
theorem tryN_t {cl k : String} {i : Nat} {ms : SM} {T : List TEnt} {fs : List D} {env : En} {G : GS} (h : ¬ cl = k) : tryN ((cl, i, ms) :: T) (.er k fs env G) = tryN T (.er k fs env G) := by
  show (match ((cl, i, ms) :: T).find? fun t => t.1 == k with
    | some t => if env.all plainS = true ∧ t.2.1 < env.length then afterO t.2.1 (t.2.2 (env.set t.2.1 (.exn k fs)) G) else .st
    | none => .st) = _
  rw [List.find?_cons_of_neg (by simpa using h)]
  rfl
theorem dflI_e {ds : List D} {g : IM} {es : List EV} {G : GS} : dflI ds g es G = g (es ++ ds.map EV.d) G := rfl
theorem dflF_e {ds : List D} {g : FM} {es : List EV} {G : GS} : dflF ds g es G = g (es ++ ds.map EV.d) G := rfl
end DL
/-! reading by simp: methods with keywords, properties, not of own truth -/
namespace DL
open PySem
def kMK2 (A : Ar) (g : FM) (x : D) : List EV → GS → Out EV := fun xs G2 => if A (xs.length + 1) = true then g (.d x :: xs) G2 else .st
def kMK (cl : String) (A : Ar) (g : FM) (r : AM) (env : En) : EV → GS → Out EV := fun x G1 => match x with
  | .d (.ins k fs) => if k = cl then (r env G1).bind (kMK2 A g (.ins k fs)) else .st
  | _ => .st
theorem eMethK_e {cl : String} {A : Ar} {g : FM} {mo : EM} {r : AM} {env : En} {G : GS} : eMethK cl A g mo r env G = (mo env G).bind (kMK cl A g r env) := rfl
theorem kMK_e {cl : String} {A : Ar} {g : FM} {r : AM} {env : En} {x : D} {G : GS} (h : kOf (.d x) = some cl) : kMK cl A g r env (.d x) G = (r env G).bind (kMK2 A g x) := by
  cases x with
  | ins k fs => cases h; exact if_pos rfl
  | _ => cases h
theorem kMK2_e {A : Ar} {g : FM} {x : D} {us : List EV} {G : GS} (h : A (us.length + 1) = true) : kMK2 A g x us G = g (.d x :: us) G := if_pos h
def kPr (cl : String) (A : Ar) (g : FM) : EV → GS → Out EV := fun x G1 => match x with
  | .d (.ins k fs) => if k = cl ∧ A 1 = true then lift (toOpt (g [.d (.ins k fs)] G1)) else .st
  | _ => .st
theorem eProp_e {cl : String} {A : Ar} {g : FM} {mo : EM} {env : En} {G : GS} : eProp cl A g mo env G = (mo env G).bind (kPr cl A g) := rfl
theorem kPr_e {cl : String} {A : Ar} {g : FM} {x : D} {G : GS} (h : kOf (.d x) = some cl) (hA : A 1 = true) : kPr cl A g (.d x) G = lift (toOpt (g [.d x] G)) := by
  cases x with
  | ins k fs => cases h; exact if_pos ⟨rfl, hA⟩
  | _ => cases h
def notK : Option (Bool × GS) → Out EV
  | some (b, G2) => .ok (.d (.bl (!b))) G2
  | none => .st
def kNotO (cl : String) (A : Ar) (g : FM) : EV → GS → Out EV := fun x G1 => notK (truO cl A g x G1)
theorem eNotO_e {cl : String} {A : Ar} {g : FM} {me : EM} {env : En} {G : GS} : eNotO cl A g me env G = (me env G).bind (kNotO cl A g) := rfl
theorem kNotO_e {cl : String} {A : Ar} {g : FM} {x : EV} {G : GS} : kNotO cl A g x G = notK (truO cl A g x G) := rfl
theorem notK_s {b : Bool} {G : GS} : notK (some (b, G)) = .ok (.d (.bl (!b))) G := rfl
end DL
set_option Elab.async false
set_option linter.all false
set_option maxRecDepth 100000
set_option maxHeartbeats 4000000
/-! texts of small letters -/
namespace DL
open PySem
end DL
set_option Elab.async false
set_option linter.all false
set_option maxRecDepth 100000
set_option maxHeartbeats 4000000
/-! reading by simp: texts by signs, own lists asked -/
namespace DL
open PySem
end DL
set_option Elab.async false
set_option linter.all false
set_option maxRecDepth 100000
set_option maxHeartbeats 4000000
/-! reading by simp: sorted -/
namespace DL
open PySem
end DL
set_option Elab.async false
set_option linter.all false
set_option maxRecDepth 100000
set_option maxHeartbeats 4000000
/-! reading: comprehensions over a list whose rest leaves the store; ascending names without repeats -/
namespace DL
open PySem
theorem elc_of {k : Nat} {vs : List Nat} {mr : LM} {mt : BM} {me : EM} {env : En} {G G1 G2 : GS} {ds ys : List D} (h1 : mr env G = .ok ds G1) (h2 : lcL k mt me ds (wipeE env vs) G1 = .ok ys G2) (hl : ys.length ≤ 100000) : eLc k vs mr mt me env G = .ok (.d (.lst ys)) G2 := by
  unfold eLc
  rw [h1, bind_ok, h2, bindN_ok, lstMax_e, if_pos hl]
theorem rng_of {n : Nat} (h : n ≤ 1000000) {G : GS} {env : En} {m : AM} (hm : m env G = .ok [.d (.int n)] G) : lRng1 m env G = .ok ((List.range n).map fun i : Nat => D.int (i : Nat)) G := by
  unfold lRng1 lRng rngMax
  rw [hm, bind_ok]
  show (if -1000000 ≤ (n : Int) ∧ (n : Int) ≤ 1000000 then Out.ok ((List.range ((n : Int)).toNat).map fun i : Nat => D.int (0 + (i : Int))) G else .st) = _
  rw [if_pos ⟨by omega, by omega⟩, Int.toNat_natCast]
  congr 1
  exact List.map_congr_left fun i _ => by rw [Int.zero_add]
theorem asBs_all : ∀ {α : Type} (xs : List α), asBs (xs.map fun _ => D.bl true) = some (xs.map fun _ => true)
  | _, [] => rfl
  | _, x :: xs => by
    show (asBs (xs.map fun _ => D.bl true)).map (true :: ·) = _
    rw [asBs_all xs]; rfl
theorem all_true {α : Type} (xs : List α) {G : GS} : fAll [.d (.lst (xs.map fun _ => D.bl true))] G = some (.d (.bl true), G) := by
  show Option.map _ ((asBs (xs.map fun _ => D.bl true)).map fun bs => D.bl (bs.all id)) = _
  rw [asBs_all]
  show some (EV.d (.bl ((xs.map fun _ => true).all id)), G) = _
  rw [show (xs.map fun _ => true).all id = true from by rw [List.all_map]; exact List.all_eq_true.mpr fun _ _ => rfl]
/-! ### slices of any kind, own subscripts, read -/
def kSA3 (x : EV) (l : Option Int) (h : Option Int) (G : GS) : Out EV := match x with
  | .d x => (match slD x l h with
    | some y => .ok (.d y) G
    | none => .st)
  | _ => .st
def kSA2 (hi : OM) (env : En) (x : EV) (l : Option Int) (G : GS) : Out EV := (hi env G).bind (kSA3 x l)
def kSA1 (lo hi : OM) (env : En) (x : EV) (G : GS) : Out EV := (lo env G).bind (kSA2 hi env x)
theorem eSlA_e {m : EM} {lo hi : OM} {env : En} {G : GS} : eSlA m lo hi env G = (m env G).bind (kSA1 lo hi env) := rfl
theorem kSA1_e {lo hi : OM} {env : En} {x : EV} {G : GS} : kSA1 lo hi env x G = (lo env G).bind (kSA2 hi env x) := rfl
theorem kSA2_e {hi : OM} {env : En} {x : EV} {l : Option Int} {G : GS} : kSA2 hi env x l G = (hi env G).bind (kSA3 x l) := rfl
theorem kSA3_l {xs : List D} {l h : Option Int} {G : GS} : kSA3 (.d (.lst xs)) l h G = .ok (.d (.lst (cutL xs l h))) G := rfl
theorem kSA3_t {xs : List D} {l h : Option Int} {G : GS} : kSA3 (.d (.tup xs)) l h G = .ok (.d (.tup (cutL xs l h))) G := rfl
def getK (cl : String) (A : Ar) (g : FM) (k : Option String) (x y : EV) (G : GS) : Out EV := match k with
  | some k => if k = cl ∧ A 2 = true then g [x, y] G else .st
  | none => .st
def kGet2 (cl : String) (A : Ar) (g : FM) (x y : EV) (G : GS) : Out EV := getK cl A g (kOf x) x y G
def kGet1 (cl : String) (A : Ar) (g : FM) (mi : EM) (env : En) (x : EV) (G : GS) : Out EV := (mi env G).bind (kGet2 cl A g x)
theorem eGetO_e {cl : String} {A : Ar} {g : FM} {mo mi : EM} {env : En} {G : GS} : eGetO cl A g mo mi env G = (mo env G).bind (kGet1 cl A g mi env) := by
  unfold eGetO kGet1
  congr 1
  funext x G1
  congr 1
  funext y G2
  cases x with
  | d x => cases x <;> rfl
  | o k => rfl
theorem kGet1_e {cl : String} {A : Ar} {g : FM} {mi : EM} {env : En} {x : EV} {G : GS} : kGet1 cl A g mi env x G = (mi env G).bind (kGet2 cl A g x) := rfl
theorem kGet2_e {cl : String} {A : Ar} {g : FM} {x y : EV} {G : GS} : kGet2 cl A g x y G = getK cl A g (kOf x) x y G := rfl
theorem getK_s {cl k : String} {A : Ar} {g : FM} {x y : EV} {G : GS} : getK cl A g (some k) x y G = if k = cl ∧ A 2 = true then g [x, y] G else .st := rfl
end DL
set_option Elab.async false
set_option linter.all false
set_option maxRecDepth 100000
set_option maxHeartbeats 4000000
/-! texts by their signs -/
namespace DL
open PySem
def tx (ws : List Nat) : Str := ⟨ws.toArray⟩
theorem tx_len (ws : List Nat) : (tx ws).length = ws.length := by show ws.toArray.size = _; simp
theorem tx_list (ws : List Nat) : (tx ws).cps.toList = ws := by show ws.toArray.toList = _; simp
theorem tx_of {s : Str} {ws : List Nat} (h : s.cps.toList = ws) : s = tx ws := by
  cases s with
  | mk a =>
    have h' : a.toList = ws := h
    subst h'
    rfl
theorem sum_cnt (c : Nat) : ∀ ws : List Nat, (ws.map fun n => if decide (n = c) = true then (1 : Int) else 0).sum = ((ws.count c : Nat) : Int)
  | [] => rfl
  | n :: ws => by
    rw [List.map_cons, List.sum_cons, sum_cnt c ws, List.count_cons]
    by_cases h : n = c
    · rw [if_pos (decide_eq_true h), if_pos (beq_iff_eq.mpr h)]; omega
    · rw [if_neg (by rw [decide_eq_false h]; decide), if_neg (by rw [beq_iff_eq]; exact h)]; omega
theorem count_tx (ws : List Nat) (c : Nat) : Txt.count (tx ws) ⟨#[c]⟩ = ((ws.count c : Nat) : Int) := by
  rw [PyProof.Rows.count_is, tx_list, PyProof.Rows.countIn_signs_sum, sum_cnt]
theorem ixT_tx {ws : List Nat} {i : Nat} (h : i < ws.length) (hl : ws.length ≤ 1000) (G : GS) : fIxT (.d (.str (tx ws))) (.d (.int (i : Nat))) G = some (.d (.str (tx [ws[i]])), G) := by
  show (if (tx ws).length ≤ lstMax then (match L2.atI (tx ws).cps.toList (i : Int) with
    | some c => some (EV.d (.str ⟨#[c]⟩), G)
    | none => none) else none) = _
  rw [tx_len, if_pos (Nat.le_trans hl (by decide)), tx_list, L2.atI_nat (List.getElem?_eq_getElem h)]
  rfl
theorem txts_tx : ∀ ls : List (List Nat), txts (ls.map fun l => D.str (tx l)) = some (ls.map tx)
  | [] => rfl
  | x :: ls => by show (txts (ls.map fun l => D.str (tx l))).map (tx x :: ·) = _; rw [txts_tx ls]; rfl
theorem glue_tx : ∀ ws : List Nat, Str.join "" (ws.map fun c => tx [c]) = tx ws
  | [] => rfl
  | [c] => rfl
  | c :: d :: r => by
    have h := glue_tx (d :: r)
    refine tx_of ?_
    show (((tx [c]).cps ++ ("" : Str).cps) ++ (Str.join "" ((d :: r).map fun c => tx [c])).cps).toList = _
    rw [Array.toList_append, Array.toList_append, h, tx_list]
    rfl
theorem sum_tx : ∀ ws : List Nat, ((ws.map fun c => tx [c]).map (·.length)).sum = ws.length
  | [] => rfl
  | c :: ws => by
    rw [List.map_cons, List.map_cons, List.sum_cons, sum_tx ws, tx_len, List.length_cons, List.length_cons, List.length_nil]
    omega
/-- ''.join of single signs -/
theorem join_tx {m : EM} {ws : List Nat} {env : En} {G G1 : GS} (hl : ws.length ≤ 1000) (h : m env G = .ok (.d (.lst (ws.map fun c => .str (tx [c])))) G1) : eJoin (eC (.str "")) m env G = .ok (.d (.str (tx ws))) G1 := by
  unfold eJoin
  show (m env G).bind _ = _
  rw [h]
  show lift ((joinD "" (ws.map fun c => D.str (tx [c]))).map fun z => (EV.d z, G1)) = _
  unfold joinD
  have t := txts_tx (ws.map fun c => [c])
  rw [List.map_map, List.map_map] at t
  have t' : txts (ws.map fun c => D.str (tx [c])) = some (ws.map fun c => tx [c]) := t
  rw [t']
  show lift ((if ((ws.map fun c => tx [c]).map (·.length)).sum + (ws.map fun c => tx [c]).length * ("" : Str).length ≤ 16777216 then some (D.str (Txt.join "" (ws.map fun c => tx [c]))) else none).map fun z => (EV.d z, G1)) = _
  rw [if_pos (by rw [sum_tx]; have : ("" : Str).length = 0 := rfl; rw [this, Nat.mul_zero]; omega)]
  show Out.ok (EV.d (D.str (Txt.join "" (ws.map fun c => tx [c])))) G1 = _
  rw [show Txt.join "" (ws.map fun c => tx [c]) = Str.join "" (ws.map fun c => tx [c]) from StrLaws.glued_eq_join _ _, glue_tx]
theorem len_tx {ws : List Nat} (h : ws.length ≤ 100000) {G : GS} : fLen [.d (.str (tx ws))] G = some (.d (.int (ws.length : Nat)), G) := by
  show (if (tx ws).length ≤ strMax then some (EV.d (D.int ((tx ws).length : Nat)), G) else none) = _
  rw [tx_len, if_pos (Nat.le_trans h (by decide))]
end DL
set_option Elab.async false
set_option linter.all false
set_option maxRecDepth 100000
set_option maxHeartbeats 4000000
namespace K58
open PySem DL
/-- the law's box: the cells, the place, the state -/
def bx (cs : List Int) (p : Nat) (s : Int) : GS := [GO.lst (cs.map fun x => .d (.int x)), GO.lst [.o 0, .d (.int p), .d (.int s)]]
theorem at0 {α : Type} (a b c : α) : L2.atI [a, b, c] 0 = some a := rfl
theorem at1 {α : Type} (a b c : α) : L2.atI [a, b, c] 1 = some b := rfl
theorem at2 {α : Type} (a b c : α) : L2.atI [a, b, c] 2 = some c := rfl
theorem ix1 : L2.ixN (0 + 1 + 1 + 1) 1 = some 1 := rfl
theorem ix2 : L2.ixN (0 + 1 + 1 + 1) 2 = some 2 := rfl
theorem atc {cs : List Int} {p : Nat} (h : p < cs.length) : L2.atI (cs.map fun x => EV.d (.int x)) (p : Int) = some (.d (.int cs[p])) := L2.atI_nat (by simp [h])
theorem cdiv {i m : Int} (h0 : 0 < m) (hm : m < 2 ^ 200) : cDiv i m = true := by unfold cDiv; rw [decide_eq_true h0, decide_eq_true hm]; rfl
theorem cpos {i m : Int} (h0 : 0 < m) : cPos i m = true := by unfold cPos; rw [decide_eq_true h0]
theorem cpow : cPow 10 18 = true := by decide +kernel
theorem cmul {i j : Int} (h : -(2 ^ 64) < j ∧ j < 2 ^ 64) : cMul i j = true := by unfold cMul; rw [decide_eq_true (p := -(2 ^ 64) < j ∧ j < 2 ^ 64) h, Bool.or_true]
theorem e18 : Int.toNat 18 = 18 := rfl
theorem ixc {cs : List Int} {p : Nat} (h : p < cs.length) : L2.ixN cs.length (p : Int) = some p := by
  unfold L2.ixN
  rw [if_pos (by omega), if_pos (by omega)]
  simp
theorem set_c {cs : List Int} {p : Nat} {v : Int} : (cs.map fun x => EV.d (.int x)).set p (EV.d (.int v)) = (cs.set p v).map fun x => EV.d (.int x) := by rw [List.map_set]
theorem cm1 {i : Int} : cMul i 48271 = true := cmul ⟨by decide, by decide⟩
theorem cm2 {i : Int} : cMul i 69621 = true := cmul ⟨by decide, by decide⟩
theorem cm3 {i : Int} : cMul i 16807 = true := cmul ⟨by decide, by decide⟩
theorem cm4 {i j : Int} : cMul i (j % 2147483647) = true := cmul ⟨by have := Int.emod_nonneg j (b := 2147483647) (by decide); omega, by have := Int.emod_lt_of_pos j (b := 2147483647) (by decide); omega⟩
theorem cp1 {i : Int} : cPos i 2147483629 = true := cpos (by decide)
theorem cp2 {i : Int} : cPos i 2147483647 = true := cpos (by decide)
theorem cp3 {i : Int} : cPos i 998244353 = true := cpos (by decide)
theorem cd5 {i : Int} : cDiv i 5 = true := cdiv (by decide) (by decide)
def stN (s c p : Int) : Int := (s * 48271 + c % 2147483629 * 69621 + p + 1) % 2147483647
def ouN (st m : Int) : Int := (st * st + st * 16807) % 998244353 / 5 % m
theorem lc_int (s0 : Sl) : ∀ (ns : List Int) (G : GS), lcL 1 bYes (eFN fInt (aCons (eVar 1) aNil)) (ns.map .int) [s0, .no] G = .ok (ns.map .int) G
  | [], G => rfl
  | n :: ns, G => by
    have h := lc_int s0 ns G
    simp only [List.map]
    unfold lcL
    have e1 : eFN fInt (aCons (eVar 1) aNil) [s0, .ev (.d (.int n))] G = .ok (.d (.int n)) G := rfl
    simp only [bYes, bindN, List.set, if_true, e1, h]
theorem box_ok (ns : List Int) (h : ns.length ≤ 63) : g__law_box [scr ns] [] = .ok (.o 1) (bx ns 0 1) := by
  have hc : cutL (ns.map DL.D.int) none (some 63) = ns.map DL.D.int := by
    unfold cutL
    rw [show HT.sIx (ns.map DL.D.int).length 0 none = 0 from rfl, show HT.sIx (ns.map DL.D.int).length (ns.map DL.D.int).length (some 63) = min 63 (ns.map DL.D.int).length from rfl, List.drop_zero, List.length_map, Nat.min_eq_right h, Nat.sub_zero, List.take_of_length_le (by simp)]
  have hl : (ns.map DL.D.int).length ≤ lstMax := by rw [List.length_map]; exact Nat.le_trans h (by decide)
  have h3 : (3 : Nat) ≤ lstMax := by decide
  have e : bx ns 0 1 = [GO.lst ((ns.map DL.D.int).map .d), GO.lst [.o 0, .d (.int 0), .d (.int 1)]] := by
    unfold bx
    rw [List.map_map]
    rfl
  have z : eLcO 1 [1] (lSeq (eSl (eVar 0) oNone (oSome (eC (.int 63))))) bYes (eFN fInt (aCons (eVar 1) aNil)) (env0 2 [scr ns]) [] = .ok (.o 0) [GO.lst ((ns.map DL.D.int).map .d)] := by
    have w : eSl (eVar 0) oNone (oSome (eC (.int 63))) (env0 2 [scr ns]) [] = .ok (.d (.lst (cutL (ns.map DL.D.int) none (some 63)))) [] := rfl
    unfold eLcO eLcF lSeq
    rw [w, hc]
    show bindN (lcL 1 bYes (eFN fInt (aCons (eVar 1) aNil)) (ns.map .int) [.ev (scr ns), .no] []) _ = _
    rw [lc_int]
    show (if (ns.map DL.D.int).length ≤ lstMax then _ else _) = _
    rw [if_pos hl]
    rfl
  have z2 : aCons (eLcO 1 [1] (lSeq (eSl (eVar 0) oNone (oSome (eC (.int 63))))) bYes (eFN fInt (aCons (eVar 1) aNil))) (aCons (eC (.int 0)) (aCons (eC (.int 1)) aNil)) (env0 2 [scr ns]) [] = .ok [.o 0, .d (.int 0), .d (.int 1)] [GO.lst ((ns.map DL.D.int).map .d)] := by
    show Out.bind (eLcO 1 [1] (lSeq (eSl (eVar 0) oNone (oSome (eC (.int 63))))) bYes (eFN fInt (aCons (eVar 1) aNil)) (env0 2 [scr ns]) []) _ = _
    rw [z]
    rfl
  have z3 : eObj (aCons (eLcO 1 [1] (lSeq (eSl (eVar 0) oNone (oSome (eC (.int 63))))) bYes (eFN fInt (aCons (eVar 1) aNil))) (aCons (eC (.int 0)) (aCons (eC (.int 1)) aNil))) (env0 2 [scr ns]) [] = .ok (.o 1) (bx ns 0 1) := by
    unfold eObj
    rw [z2, e]
    exact if_pos (e := Out.st) h3
  show retO (ofE (eObj (aCons (eLcO 1 [1] (lSeq (eSl (eVar 0) oNone (oSome (eC (.int 63))))) bYes (eFN fInt (aCons (eVar 1) aNil))) (aCons (eC (.int 0)) (aCons (eC (.int 1)) aNil))) (env0 2 [scr ns]) []) _ _) = _
  rw [z3]
  rfl
theorem of_tab {α : Type} {N : Nat} {f g : Nat → α} (h : (List.range N).map f = (List.range N).map g) {n : Nat} (hn : n < N) : f n = g n := by
  have z := congrArg (fun l : List α => l[n]?) h
  simpa [hn] using z
theorem sqn {a b : SM} {env env' : En} {G G' : GS} (h : a env G = .nx env' G') : sSeq a b env G = b env' G' := by unfold sSeq; rw [h]; rfl
theorem sqr {a b : SM} {env : En} {G G' : GS} {e : EV} (h : a env G = .rt e G') : sSeq a b env G = .rt e G' := by unfold sSeq; rw [h]; rfl
theorem setn {i : Nat} {m : EM} {env : En} {G G' : GS} {e : EV} (h : m env G = .ok e G') : sSet i m env G = .nx (env.set i (.ev e)) G' := by unfold sSet; rw [h]; rfl
theorem ift {t : BM} {a b : SM} {env : En} {G G' : GS} {k : Bool} (h : t env G = .ok k G') : sIf t a b env G = if k = true then a env G' else b env G' := by unfold sIf; rw [h]; rfl
theorem nat_of {v m : Int} (h0 : 0 ≤ v) (h1 : v < m) : ∃ n : Nat, v = (n : Int) ∧ (n : Int) < m := ⟨v.toNat, by omega, by omega⟩
theorem acons1 {m : EM} {env : En} {G G' : GS} {e : EV} (h : m env G = .ok e G') : aCons m aNil env G = .ok [e] G' := by unfold aCons; rw [h]; rfl
theorem op_eq {f : F2} {a b : EM} {env : En} {G G1 G2 : GS} {x y : EV} (h1 : a env G = .ok x G1) (h2 : b env G1 = .ok y G2) : eOp f a b env G = lift (f x y G2) := by unfold eOp; rw [h1]; show Out.bind (b env G1) _ = _; rw [h2]; rfl
theorem call_eq {n : Ar} {g : FM} {r : AM} {env : En} {G G1 : GS} {xs : List EV} (h : r env G = .ok xs G1) (hl : n xs.length = true) : eCall n g r env G = g xs G1 := by unfold eCall; rw [h]; exact if_pos hl
theorem lc_cons {k : Nat} {te : EM} {d : DL.D} {ds : List DL.D} {env : En} {G G1 G2 : GS} {y : DL.D} {ys : List DL.D} (h : te (env.set k (.ev (.d d))) G = .ok (.d y) G1) (h2 : lcL k bYes te ds env G1 = .ok ys G2) : lcL k bYes te (d :: ds) env G = .ok (y :: ys) G2 := by
  unfold lcL
  simp only [bYes, bindN, if_true]
  rw [h]
  simp only
  rw [h2]
theorem acons_eq {m : EM} {r : AM} {env : En} {G G1 G2 : GS} {x : EV} {xs : List EV} (h1 : m env G = .ok x G1) (h2 : r env G1 = .ok xs G2) : aCons m r env G = .ok (x :: xs) G2 := by unfold aCons; rw [h1]; show Out.bind (r env G1) _ = _; rw [h2]; rfl
theorem make_eq {cl : String} {A : Ar} {g : IM} {r : AM} {env : En} {G G1 G2 : GS} {xs : List EV} {fs : List DL.D} (h : r env G = .ok xs G1) (hA : A xs.length = true) (hg : g xs G1 = .ok fs G2) : eMake cl A g r env G = .ok (.d (.ins cl fs)) G2 := by unfold eMake; rw [h]; show (if A xs.length = true then mkO cl (g xs G1) else .st) = _; rw [if_pos hA, hg]; rfl
theorem cmeth_eq {cl : String} {A : Ar} {g : FM} {r : AM} {env : En} {G G1 : GS} {xs : List EV} (h : r env G = .ok xs G1) (hA : A (xs.length + 1) = true) : eCMeth cl A g r env G = g (.d (.cls cl) :: xs) G1 := by unfold eCMeth; rw [h]; exact if_pos hA
theorem sret_eq {m : EM} {env : En} {G G1 : GS} {e : EV} (h : m env G = .ok e G1) : sRet m env G = .rt e G1 := by unfold sRet; rw [h]; rfl
abbrev Bx := List Int × Nat × Int
structure One where
  mask : Option Str
  side : Bool
  j : Nat
  k : Nat
  off : Nat
  on : Nat
structure One.Ok (x : One) : Prop where
  hj : x.j < 4
  hk : x.k < 3
  ho : x.off < 64
  hn : x.on < 64
  hz : x.off &&& x.on = 0
  hf : x.j = 0 → x.on = 0
  hb : x.j = 1 → x.off = 0
  hq : x.j = 2 → x.off = 63 - x.on
/-- does an ink of this condition print where it is inked (w), or not -/
def tk : Nat → Bool → Bool | 0, _ => true | 1, w => !w | _, w => w
def efO (k : Nat) (w : Bool) (off : Nat) : Nat := if tk k w = true then off else 0
def efN (k : Nat) (w : Bool) (on : Nat) : Nat := if tk k w = true then on else 0
def efM (k : Nat) (w : Bool) : Bool := if tk k w = true then true else w
structure FN where
  o : Nat
  n : Nat
  m : Bool
  o2 : Nat
  n2 : Nat
structure FN.Ok (f : FN) : Prop where
  o : f.o < 64
  n : f.n < 64
  o2 : f.o2 < 64
  n2 : f.n2 < 64
def FN.add (f g : FN) : FN := ⟨if f.m = true then (f.o &&& (63 - g.n2)) ||| g.o2 else (f.o &&& (63 - g.n)) ||| g.o, if f.m = true then (f.n &&& (63 - g.o2)) ||| g.n2 else (f.n &&& (63 - g.o)) ||| g.n, if f.m = true then true else g.m, (f.o2 &&& (63 - g.n2)) ||| g.o2, (f.n2 &&& (63 - g.o2)) ||| g.n2⟩
def FN.app (f : FN) (c : Nat) (w : Bool) : Nat × Bool := if w = true then ((c &&& (63 - f.o2)) ||| f.n2, true) else ((c &&& (63 - f.o)) ||| f.n, f.m)
theorem FN.Ok.add {f g : FN} (hf : f.Ok) (hg : g.Ok) : (f.add g).Ok := by
  obtain ⟨f1, f2, f3, f4⟩ := hf
  obtain ⟨g1, g2, g3, g4⟩ := hg
  refine ⟨?_, ?_, or_lt64 (and_lt64 f3) g3, or_lt64 (and_lt64 f4) g4⟩
  · show (if f.m = true then _ else _) < 64
    split
    · exact or_lt64 (and_lt64 f1) g3
    · exact or_lt64 (and_lt64 f1) g1
  · show (if f.m = true then _ else _) < 64
    split
    · exact or_lt64 (and_lt64 f2) g4
    · exact or_lt64 (and_lt64 f2) g2
def FN.zero : FN := ⟨0, 0, false, 0, 0⟩
theorem FN.zero_add (f : FN) : FN.zero.add f = f := by
  obtain ⟨fo, fn, fm, fo2, fn2⟩ := f
  simp [FN.zero, FN.add]
def inkF (k off on : Nat) : FN := ⟨efO k false off, efN k false on, efM k false, efO k true off, efN k true on⟩
theorem inkF_ok {k off on : Nat} (ho : off < 64) (hn : on < 64) : (inkF k off on).Ok := by
  refine ⟨?_, ?_, ?_, ?_⟩
  · show efO k false off < 64
    unfold efO; split <;> omega
  · show efN k false on < 64
    unfold efN; split <;> omega
  · show efO k true off < 64
    unfold efO; split <;> omega
  · show efN k true on < 64
    unfold efN; split <;> omega
def One.f (x : One) : FN := inkF x.k x.off x.on
theorem One.Ok.f {x : One} (h : x.Ok) : x.f.Ok := inkF_ok h.ho h.hn
def One.act (x : One) (lit : List Str) : Bool := match x.mask with
  | none => true
  | some m => !decide ((lit.any (· == m) != false) = x.side)
def One.app (x : One) (lit : List Str) (s : Nat × Bool) : Nat × Bool := if x.act lit = true then x.f.app s.1 s.2 else s
def run (lit : List Str) : List One → Nat × Bool → Nat × Bool
  | [], s => s
  | x :: xs, s => run lit xs (x.app lit s)
def sg (c : Nat) : Str := ⟨#[c]⟩
theorem sq_er {a b : SM} {env env' : En} {G G' : GS} {cl : String} {fs : List DL.D} (h : a env G = .er cl fs env' G') : sSeq a b env G = .er cl fs env' G' := by unfold sSeq; rw [h]; rfl
theorem text_s (s : Str) : gIsi TB [.str s, .ty "str"] = some (.bl true) := by kernel_rfl
theorem text_ok (s : Str) (G : GS) : g__law_same_text [.d (.str s), .d (.str s)] G = .ok (.d (.bl true)) G := by simp -implicitDefEqProofs only [bind_ok, bind_er, bindN_ok, ofE_ok, ofE_er, seqO_nx, seqO_rt, seqO_er, seqO_bk, seqO_ct, loopO_nx, loopO_ct, loopO_bk, loopO_rt, loopO_er, lift_s, retO_rt, retO_nx, retO_er, mkO_ok, mkO_er, toOpt_ok, eVar_z, eVar_s, oL_z, oL_s, frz_z, frz_s, wipe_n, wipe_c, datas_n, datas_c, map_s, bind_s, setA_n, setA_c, p2_d, p1_d, pN_d, fEq_i, fEq_s, fEq_b, fEq_ii, fNe_i, fNe_s, fNe_b, fSub_i, fAdd_i, fAnd_i, fOr_i, fXor_i, fLt_i, fLe_i, fGt_i, fGe_i, fIs_d, fIsNot_d, fIsB_b, isB_b, tru_b, tru_i, tru_l, tru_t, orE_s, orE_n, alt2_e, alt1_e, altN_e, fIx_l, fIx_t, at_0, at_1, at_2, at_3, at_4, at_5, for_n, for_c, lc_n, len_lst, len_tup, kfn_c, kix_c, sSeq_e, sNil_e, sSet_e, sSet2_e, sRet_e, sRetN_e, sDrop_e, sIf_e, sBk_e, sCt_e, sFrz_e, sOwn_e, sFor_e, sUnp_e, eC_e, eOp_e, eUn_e, aNil_e, aCons_e, aApp_e, eFN_e, eCall_e, eMake_e, eCMeth_e, eCallO_e, eLst_e, eTup_e, nLst_e, nLc_e, eLc_e, lSeq_e, lTup_e, eIf_e, eAnd_e, eOr_e, eNot_e, bOf_e, bAnd_e, bOr_e, bNot_e, eFld_e, runB_e, env0_e, oN_e, List.set_cons_zero, List.set_cons_succ, List.map_cons, List.map_nil, List.cons_append, List.nil_append, List.replicate_succ, List.replicate_zero, List.length_cons, List.length_nil, List.getElem?_cons_zero, List.getElem?_cons_succ, reduceIte, if_true, if_false, Bool.false_eq_true, arN_t, decide_true, decide_false, isNon, Bool.not_true, Bool.not_false, Bool.true_and, Bool.false_and, Bool.and_true, Bool.and_false, bYes_e, lstMax_e, Nat.reduceAdd, Nat.reduceSub, Nat.reduceLeDiff, Int.reduceLT, Int.reduceLE, Int.reduceEq, String.reduceEq, and_self, decide_eq_true_eq, and_true, true_and, cPos_e, cDiv_e, fMod_i, fDiv_i, Int.reduceMod, Int.reduceDiv, Int.reduceSub, Int.reduceAdd, Int.reducePow, kOf_i, fsOf_i, fOwn_k, fOwn1_k, gFld_k, methO_e, methK_s, methA_s, ownK_s, ownK_n, ownK_m, own1K_s, own1K_n, fldK_s, sApp_e, appK_s, sOSub_e, osubK_s, eOIx_e, oixK_s, eOLen_e, olenK_s, ixN_p, Int.reduceToNat, Nat.reduceLT, oS_e, eSl_e, eSlT_e, kSet_e, kSet2_e, kDrop_e, kIf_t, kIf_f, kOwn_e, kApp_e, kOsub1_e, kOsub2_e, osK_s, kOix_e, ixK_s, kFor_e, kUnp_e, unpK_s, kOp1_e, kOp2_e, kUn_e, kC1_e, kC2_e, kA1_e, kA2_e, kFN_e, kCall_e, kMake_e, kCM_e, kMeth_e, kLst_e, lstK_s, kTup_e, tupK_s, kNl_e, nlK_s, nList_e, kNli_e, nliK_s, lOf_l, lOf_t, kNc1_e, kNc2_e, kLc1_e, kLc2_e, kSeq_e, kTpl_e, kEIf_t, kEIf_f, kEAnd_t, kEAnd_f, kEOr_t, kEOr_f, kENot_e, kB_e, kBAnd_t, kBAnd_f, kBOr_t, kBOr_f, kBNot_e, kOS_e, kSl1_e, kSl2_e, kSl3_e, kSt1_e, kSt2_e, kSt3_e, eMeth_e, kMe_e, lc_c, kL1_e, kL2_e, kT_t, kT_f, Int.cast_ofNat_Int, Int.natCast_zero, Int.natCast_one, lRng1_e, kRng_1, kRng_2, kRng_3, kRng_4, kRng_5, kRng_6, List.length_map, arS_0, sEr_e, sTryAs_e, tryK_nx, tryK_rt, tryK_er, afterO_rt, afterO_nx, eXf_e, xfS_s, xfK_s, plain_n, plain_e, List.all_cons, List.all_nil, eq_self, sTryN_e, tryN_nx, tryN_rt, tryN_h, tryN_t, dflI_e, dflF_e, not_false_eq_true, eMethK_e, kMK_e, kMK2_e, eProp_e, kPr_e, eNotO_e, kNotO_e, notK_s, eSlA_e, kSA1_e, kSA2_e, kSA3_l, kSA3_t, eGetO_e, kGet1_e, kGet2_e, getK_s, g__law_same_text, m__law_same_text, fIsi, text_s]
def Ly (s : Str) : Prop := PyData.canLay0 (.str s) = true
theorem toPys_m : ∀ l : List Str, toPys (l.map DL.D.str) = some (l.map PyData.str)
  | [] => rfl
  | x :: l => by
    show (some (PyData.str x)).bind (fun a => (toPys (l.map DL.D.str)).map (a :: ·)) = _
    rw [toPys_m l]
    rfl
theorem lay_m : ∀ l : List Str, (∀ s ∈ l, Ly s) → PyData.canLay0 (.list (l.map PyData.str)) = true := fun l h => by
  show PyData.canLayAll0 (l.map PyData.str) = true
  induction l with
  | nil => rfl
  | cons x l ih =>
    show (PyData.canLay0 (.str x) && PyData.canLayAll0 (l.map PyData.str)) = true
    rw [h x (List.mem_cons_self ..), ih fun s hs => h s (List.mem_cons_of_mem _ hs)]
    rfl
theorem dep_m : ∀ l : List Str, PyData.depthAll (l.map PyData.str) = 0
  | [] => rfl
  | x :: l => by show max 0 (PyData.depthAll (l.map PyData.str)) = 0; rw [dep_m l]; rfl
theorem is_ok (b : Bool) (G : GS) : g__law_is [.d (.bl b), .d (.bl b)] G = .ok (.d (.bl true)) G := by cases b <;> kernel_rfl
end K58
set_option Elab.async false
set_option linter.all false
set_option maxRecDepth 100000
set_option maxHeartbeats 4000000
namespace K58
open PySem DL
/-- a sign of a shape -/
def Sg (c : Nat) : Prop := c = 35 ∨ c = 46
structure Gd (w : Nat) (L : List (List Nat)) : Prop where
  ne : L ≠ []
  hl : L.length ≤ 40
  w1 : 1 ≤ w
  w2 : w ≤ 40
  hw : ∀ l ∈ L, l.length = w
  hs : ∀ l ∈ L, ∀ c ∈ l, Sg c
def txD (l : List Nat) : DL.D := .str (tx l)
def shD (w : Nat) (L : List (List Nat)) : DL.D := .ins "Shape" [.tup (L.map txD), .int (w : Nat), .int (L.length : Nat)]
theorem sg_cnt : ∀ ws : List Nat, (∀ c ∈ ws, Sg c) → ws.count 35 + ws.count 46 = ws.length
  | [], _ => rfl
  | c :: ws, h => by
    have ih := sg_cnt ws fun x hx => h x (.tail _ hx)
    rw [List.count_cons, List.count_cons, List.length_cons]
    rcases h c List.mem_cons_self with rfl | rfl
    · rw [if_pos (by decide), if_neg (by decide)]; omega
    · rw [if_neg (by decide), if_pos (by decide)]; omega
theorem cnt_e {ws : List Nat} {c : Nat} {env : En} {G : GS} {m : EM} (h : m env G = .ok (.d (.str (tx ws))) G) : eCount m (eC (.str ⟨#[c]⟩)) env G = .ok (.d (.int (ws.count c : Nat))) G := by
  unfold eCount
  rw [h]
  show Out.ok (EV.d (DL.D.int (Txt.count (tx ws) ⟨#[c]⟩))) G = _
  rw [count_tx]
theorem line_ok {ws : List Nat} (h1 : 1 ≤ ws.length) (h2 : ws.length ≤ 40) (hs : ∀ c ∈ ws, Sg c) (G : GS) : g__is_line [.d (.str (tx ws))] G = .ok (.d (.bl true)) G := by
  have c1 : eCount (eVar 0) (eC (.str "#")) [.ev (.d (.str (tx ws)))] G = .ok (.d (.int (ws.count 35 : Nat))) G := cnt_e (c := 35) rfl
  have c2 : eCount (eVar 0) (eC (.str ".")) [.ev (.d (.str (tx ws)))] G = .ok (.d (.int (ws.count 46 : Nat))) G := cnt_e (c := 46) rfl
  have l := len_tx (ws := ws) (by omega) (G := G)
  have d1 : decide ((ws.length : Int) < 1) = false := decide_eq_false (by omega)
  have d2 : decide ((40 : Int) < (ws.length : Int)) = false := decide_eq_false (by omega)
  have d3 : decide ((ws.count 35 : Int) + (ws.count 46 : Int) = (ws.length : Int)) = true := decide_eq_true (by have := sg_cnt ws hs; omega)
  simp -implicitDefEqProofs only [bind_ok, bind_er, bindN_ok, ofE_ok, ofE_er, seqO_nx, seqO_rt, seqO_er, seqO_bk, seqO_ct, loopO_nx, loopO_ct, loopO_bk, loopO_rt, loopO_er, lift_s, retO_rt, retO_nx, retO_er, mkO_ok, mkO_er, toOpt_ok, eVar_z, eVar_s, oL_z, oL_s, frz_z, frz_s, wipe_n, wipe_c, datas_n, datas_c, map_s, bind_s, setA_n, setA_c, p2_d, p1_d, pN_d, fEq_i, fEq_s, fEq_b, fEq_ii, fNe_i, fNe_s, fNe_b, fSub_i, fAdd_i, fAnd_i, fOr_i, fXor_i, fLt_i, fLe_i, fGt_i, fGe_i, fIs_d, fIsNot_d, fIsB_b, isB_b, tru_b, tru_i, tru_l, tru_t, orE_s, orE_n, alt2_e, alt1_e, altN_e, fIx_l, fIx_t, at_0, at_1, at_2, at_3, at_4, at_5, for_n, for_c, lc_n, len_lst, len_tup, kfn_c, kix_c, sSeq_e, sNil_e, sSet_e, sSet2_e, sRet_e, sRetN_e, sDrop_e, sIf_e, sBk_e, sCt_e, sFrz_e, sOwn_e, sFor_e, sUnp_e, eC_e, eOp_e, eUn_e, aNil_e, aCons_e, aApp_e, eFN_e, eCall_e, eMake_e, eCMeth_e, eCallO_e, eLst_e, eTup_e, nLst_e, nLc_e, eLc_e, lSeq_e, lTup_e, eIf_e, eAnd_e, eOr_e, eNot_e, bOf_e, bAnd_e, bOr_e, bNot_e, eFld_e, runB_e, env0_e, oN_e, List.set_cons_zero, List.set_cons_succ, List.map_cons, List.map_nil, List.cons_append, List.nil_append, List.replicate_succ, List.replicate_zero, List.length_cons, List.length_nil, List.getElem?_cons_zero, List.getElem?_cons_succ, reduceIte, if_true, if_false, Bool.false_eq_true, arN_t, decide_true, decide_false, isNon, Bool.not_true, Bool.not_false, Bool.true_and, Bool.false_and, Bool.and_true, Bool.and_false, bYes_e, lstMax_e, Nat.reduceAdd, Nat.reduceSub, Nat.reduceLeDiff, Int.reduceLT, Int.reduceLE, Int.reduceEq, String.reduceEq, and_self, decide_eq_true_eq, and_true, true_and, cPos_e, cDiv_e, fMod_i, fDiv_i, Int.reduceMod, Int.reduceDiv, Int.reduceSub, Int.reduceAdd, Int.reducePow, kOf_i, fsOf_i, fOwn_k, fOwn1_k, gFld_k, methO_e, methK_s, methA_s, ownK_s, ownK_n, ownK_m, own1K_s, own1K_n, fldK_s, sApp_e, appK_s, sOSub_e, osubK_s, eOIx_e, oixK_s, eOLen_e, olenK_s, ixN_p, Int.reduceToNat, Nat.reduceLT, oS_e, eSl_e, eSlT_e, kSet_e, kSet2_e, kDrop_e, kIf_t, kIf_f, kOwn_e, kApp_e, kOsub1_e, kOsub2_e, osK_s, kOix_e, ixK_s, kFor_e, kUnp_e, unpK_s, kOp1_e, kOp2_e, kUn_e, kC1_e, kC2_e, kA1_e, kA2_e, kFN_e, kCall_e, kMake_e, kCM_e, kMeth_e, kLst_e, lstK_s, kTup_e, tupK_s, kNl_e, nlK_s, nList_e, kNli_e, nliK_s, lOf_l, lOf_t, kNc1_e, kNc2_e, kLc1_e, kLc2_e, kSeq_e, kTpl_e, kEIf_t, kEIf_f, kEAnd_t, kEAnd_f, kEOr_t, kEOr_f, kENot_e, kB_e, kBAnd_t, kBAnd_f, kBOr_t, kBOr_f, kBNot_e, kOS_e, kSl1_e, kSl2_e, kSl3_e, kSt1_e, kSt2_e, kSt3_e, eMeth_e, kMe_e, lc_c, kL1_e, kL2_e, kT_t, kT_f, Int.cast_ofNat_Int, Int.natCast_zero, Int.natCast_one, lRng1_e, kRng_1, kRng_2, kRng_3, kRng_4, kRng_5, kRng_6, List.length_map, arS_0, sEr_e, sTryAs_e, tryK_nx, tryK_rt, tryK_er, afterO_rt, afterO_nx, eXf_e, xfS_s, xfK_s, plain_n, plain_e, List.all_cons, List.all_nil, eq_self, sTryN_e, tryN_nx, tryN_rt, tryN_h, tryN_t, dflI_e, dflF_e, not_false_eq_true, eMethK_e, kMK_e, kMK2_e, eProp_e, kPr_e, eNotO_e, kNotO_e, notK_s, eSlA_e, kSA1_e, kSA2_e, kSA3_l, kSA3_t, eGetO_e, kGet1_e, kGet2_e, getK_s, g__is_line, m__is_line, l, d1, d2, ↓c1, ↓c2, d3]
@[reducible] def bL : SM := sIf (bOr (bOf isB (eOp (fGe) (eVar 2) (eC (.int 40)))) (bOr (bOf isB (eOp (fNe) (eFN fLen (aCons (eVar 3) (aNil))) (eFN fLen (aCons (eOp fIx (eVar 1) (eC (.int 0))) (aNil))))) (bNot (bOf truE (eCall (arN 1) g__is_line (aCons (eVar 3) (aNil))))))) (sEr "InvalidShape" okI (eVar 2)) (sNil)
theorem at0_c {α : Type} (x : α) (r : List α) : L2.atI (x :: r) 0 = some x := L2.atI_nat (xs := x :: r) (j := 0) rfl
theorem at0_tx {w : Nat} {L : List (List Nat)} (g : Gd w L) : ∃ l, l.length = w ∧ L2.atI (L.map txD) 0 = some (.str (tx l)) := by
  cases L with
  | nil => exact absurd rfl g.ne
  | cons l r => exact ⟨l, g.hw l List.mem_cons_self, at0_c _ _⟩
theorem bL_ok {w k : Nat} {L : List (List Nat)} (g : Gd w L) {l : List Nat} (hl : l ∈ L) (hk : k < 40) (o : Sl) (G : GS) : bL [o, .ev (.d (.tup (L.map txD))), .ev (.d (.int (k : Nat))), .ev (.d (.str (tx l)))] G = .nx [o, .ev (.d (.tup (L.map txD))), .ev (.d (.int (k : Nat))), .ev (.d (.str (tx l)))] G := by
  obtain ⟨l0, e0, a0⟩ := at0_tx g
  have h := g.hw l hl
  have hw1 := g.w1
  have hw2 := g.w2
  have li := line_ok (by omega) (by omega) (g.hs l hl) G
  have l1 := len_tx (ws := l) (by omega) (G := G)
  have l2 := len_tx (ws := l0) (by omega) (G := G)
  have d1 : decide ((40 : Int) ≤ (k : Int)) = false := decide_eq_false (by omega)
  have d2 : decide ((l.length : Int) = (l0.length : Int)) = true := decide_eq_true (by omega)
  simp -implicitDefEqProofs only [bind_ok, bind_er, bindN_ok, ofE_ok, ofE_er, seqO_nx, seqO_rt, seqO_er, seqO_bk, seqO_ct, loopO_nx, loopO_ct, loopO_bk, loopO_rt, loopO_er, lift_s, retO_rt, retO_nx, retO_er, mkO_ok, mkO_er, toOpt_ok, eVar_z, eVar_s, oL_z, oL_s, frz_z, frz_s, wipe_n, wipe_c, datas_n, datas_c, map_s, bind_s, setA_n, setA_c, p2_d, p1_d, pN_d, fEq_i, fEq_s, fEq_b, fEq_ii, fNe_i, fNe_s, fNe_b, fSub_i, fAdd_i, fAnd_i, fOr_i, fXor_i, fLt_i, fLe_i, fGt_i, fGe_i, fIs_d, fIsNot_d, fIsB_b, isB_b, tru_b, tru_i, tru_l, tru_t, orE_s, orE_n, alt2_e, alt1_e, altN_e, fIx_l, fIx_t, at_0, at_1, at_2, at_3, at_4, at_5, for_n, for_c, lc_n, len_lst, len_tup, kfn_c, kix_c, sSeq_e, sNil_e, sSet_e, sSet2_e, sRet_e, sRetN_e, sDrop_e, sIf_e, sBk_e, sCt_e, sFrz_e, sOwn_e, sFor_e, sUnp_e, eC_e, eOp_e, eUn_e, aNil_e, aCons_e, aApp_e, eFN_e, eCall_e, eMake_e, eCMeth_e, eCallO_e, eLst_e, eTup_e, nLst_e, nLc_e, eLc_e, lSeq_e, lTup_e, eIf_e, eAnd_e, eOr_e, eNot_e, bOf_e, bAnd_e, bOr_e, bNot_e, eFld_e, runB_e, env0_e, oN_e, List.set_cons_zero, List.set_cons_succ, List.map_cons, List.map_nil, List.cons_append, List.nil_append, List.replicate_succ, List.replicate_zero, List.length_cons, List.length_nil, List.getElem?_cons_zero, List.getElem?_cons_succ, reduceIte, if_true, if_false, Bool.false_eq_true, arN_t, decide_true, decide_false, isNon, Bool.not_true, Bool.not_false, Bool.true_and, Bool.false_and, Bool.and_true, Bool.and_false, bYes_e, lstMax_e, Nat.reduceAdd, Nat.reduceSub, Nat.reduceLeDiff, Int.reduceLT, Int.reduceLE, Int.reduceEq, String.reduceEq, and_self, decide_eq_true_eq, and_true, true_and, cPos_e, cDiv_e, fMod_i, fDiv_i, Int.reduceMod, Int.reduceDiv, Int.reduceSub, Int.reduceAdd, Int.reducePow, kOf_i, fsOf_i, fOwn_k, fOwn1_k, gFld_k, methO_e, methK_s, methA_s, ownK_s, ownK_n, ownK_m, own1K_s, own1K_n, fldK_s, sApp_e, appK_s, sOSub_e, osubK_s, eOIx_e, oixK_s, eOLen_e, olenK_s, ixN_p, Int.reduceToNat, Nat.reduceLT, oS_e, eSl_e, eSlT_e, kSet_e, kSet2_e, kDrop_e, kIf_t, kIf_f, kOwn_e, kApp_e, kOsub1_e, kOsub2_e, osK_s, kOix_e, ixK_s, kFor_e, kUnp_e, unpK_s, kOp1_e, kOp2_e, kUn_e, kC1_e, kC2_e, kA1_e, kA2_e, kFN_e, kCall_e, kMake_e, kCM_e, kMeth_e, kLst_e, lstK_s, kTup_e, tupK_s, kNl_e, nlK_s, nList_e, kNli_e, nliK_s, lOf_l, lOf_t, kNc1_e, kNc2_e, kLc1_e, kLc2_e, kSeq_e, kTpl_e, kEIf_t, kEIf_f, kEAnd_t, kEAnd_f, kEOr_t, kEOr_f, kENot_e, kB_e, kBAnd_t, kBAnd_f, kBOr_t, kBOr_f, kBNot_e, kOS_e, kSl1_e, kSl2_e, kSl3_e, kSt1_e, kSt2_e, kSt3_e, eMeth_e, kMe_e, lc_c, kL1_e, kL2_e, kT_t, kT_f, Int.cast_ofNat_Int, Int.natCast_zero, Int.natCast_one, lRng1_e, kRng_1, kRng_2, kRng_3, kRng_4, kRng_5, kRng_6, List.length_map, arS_0, sEr_e, sTryAs_e, tryK_nx, tryK_rt, tryK_er, afterO_rt, afterO_nx, eXf_e, xfS_s, xfK_s, plain_n, plain_e, List.all_cons, List.all_nil, eq_self, sTryN_e, tryN_nx, tryN_rt, tryN_h, tryN_t, dflI_e, dflF_e, not_false_eq_true, eMethK_e, kMK_e, kMK2_e, eProp_e, kPr_e, eNotO_e, kNotO_e, notK_s, eSlA_e, kSA1_e, kSA2_e, kSA3_l, kSA3_t, eGetO_e, kGet1_e, kGet2_e, getK_s, bL, d1, a0, l1, l2, d2, li]
theorem loop_ok {w : Nat} {L : List (List Nat)} (g : Gd w L) (o : Sl) (G : GS) : ∀ (xs : List (List Nat)) (k : Nat) (s2 s3 : Sl), (∀ l ∈ xs, l ∈ L) → k + xs.length ≤ 40 → ∃ s2' s3', forT [2, 3] bL (enumL k (xs.map txD)) [o, .ev (.d (.tup (L.map txD))), s2, s3] G = .nx [o, .ev (.d (.tup (L.map txD))), s2', s3'] G
  | [], k, s2, s3, _, _ => ⟨s2, s3, rfl⟩
  | l :: xs, k, s2, s3, h, hk => by
    rw [List.length_cons] at hk
    obtain ⟨s2', s3', e⟩ := loop_ok g o G xs (k + 1) (.ev (.d (.int (k : Nat)))) (.ev (.d (.str (tx l)))) (fun x hx => h x (.tail _ hx)) (by omega)
    refine ⟨s2', s3', ?_⟩
    have u : unpE [2, 3] (.tup [.int (k : Nat), txD l]) [o, .ev (.d (.tup (L.map txD))), s2, s3] = some [o, .ev (.d (.tup (L.map txD))), .ev (.d (.int (k : Nat))), .ev (.d (.str (tx l)))] := rfl
    rw [List.map_cons]
    show forT [2, 3] bL (.tup [.int (k : Nat), txD l] :: enumL (k + 1) (xs.map txD)) _ _ = _
    rw [forT_some u, bL_ok g (h l List.mem_cons_self) (by omega), loopO_nx, e]
theorem datas_tx : ∀ L : List (List Nat), datas (L.map fun l => EV.d (txD l)) = some (L.map txD)
  | [] => rfl
  | l :: L => by
    show (datas (L.map fun l => EV.d (txD l))).map (txD l :: ·) = _
    rw [datas_tx L]; rfl
theorem init_ok {w : Nat} {L : List (List Nat)} (g : Gd w L) (G : GS) : g_Shape___init__ (L.map fun l => .d (txD l)) G = .ok [.tup (L.map txD), .int (w : Nat), .int (L.length : Nat)] G := by
  have hl := g.hl
  obtain ⟨l0, e0, a0⟩ := at0_tx g
  have hw2 := g.w2
  obtain ⟨s2, s3, e⟩ := loop_ok g (.own (.ins "Shape" [])) G L 0 .no .no (fun _ h => h) (by omega)
  have st : g_Shape___init__ (L.map fun l => .d (txD l)) G = retI "Shape" (m_Shape___init__ [.own (.ins "Shape" []), .ev (.d (.tup (L.map txD))), .no, .no] G) := by
    show starI 0 (runI 4 "Shape" m_Shape___init__) (L.map fun l => .d (txD l)) G = _
    unfold starI starA
    rw [List.drop_zero, datas_tx]
    show (match (if (L.map txD).length ≤ 1000 then some (List.take 0 (L.map fun l => EV.d (txD l)) ++ [EV.d (.tup (L.map txD))]) else none) with | some es' => runI 4 "Shape" m_Shape___init__ es' G | none => .st) = _
    rw [if_pos (by rw [List.length_map]; omega), List.take_zero]
    rfl
  rw [st]
  have a : sIf (bNot (bOf truE (eVar 1))) (sEr "InvalidShape" okI (eC (.int 0))) sNil [.own (.ins "Shape" []), .ev (.d (.tup (L.map txD))), .no, .no] G = .nx [.own (.ins "Shape" []), .ev (.d (.tup (L.map txD))), .no, .no] G := by
    cases L with
    | nil => exact absurd rfl g.ne
    | cons l r => rfl
  have b : sForT [2, 3] (lEnumT (aCons (eVar 1) (aNil))) bL [.own (.ins "Shape" []), .ev (.d (.tup (L.map txD))), .no, .no] G = .nx [.own (.ins "Shape" []), .ev (.d (.tup (L.map txD))), s2, s3] G := e
  have c : ∀ fs, eFN fLen (aCons (eOp fIx (eVar 1) (eC (.int 0))) (aNil)) [.own (.ins "Shape" fs), .ev (.d (.tup (L.map txD))), s2, s3] G = .ok (.d (.int (w : Nat))) G := fun fs => by
    have l2 := len_tx (ws := l0) (by omega) (G := G)
    rw [e0] at l2
    simp -implicitDefEqProofs only [bind_ok, bind_er, bindN_ok, ofE_ok, ofE_er, seqO_nx, seqO_rt, seqO_er, seqO_bk, seqO_ct, loopO_nx, loopO_ct, loopO_bk, loopO_rt, loopO_er, lift_s, retO_rt, retO_nx, retO_er, mkO_ok, mkO_er, toOpt_ok, eVar_z, eVar_s, oL_z, oL_s, frz_z, frz_s, wipe_n, wipe_c, datas_n, datas_c, map_s, bind_s, setA_n, setA_c, p2_d, p1_d, pN_d, fEq_i, fEq_s, fEq_b, fEq_ii, fNe_i, fNe_s, fNe_b, fSub_i, fAdd_i, fAnd_i, fOr_i, fXor_i, fLt_i, fLe_i, fGt_i, fGe_i, fIs_d, fIsNot_d, fIsB_b, isB_b, tru_b, tru_i, tru_l, tru_t, orE_s, orE_n, alt2_e, alt1_e, altN_e, fIx_l, fIx_t, at_0, at_1, at_2, at_3, at_4, at_5, for_n, for_c, lc_n, len_lst, len_tup, kfn_c, kix_c, sSeq_e, sNil_e, sSet_e, sSet2_e, sRet_e, sRetN_e, sDrop_e, sIf_e, sBk_e, sCt_e, sFrz_e, sOwn_e, sFor_e, sUnp_e, eC_e, eOp_e, eUn_e, aNil_e, aCons_e, aApp_e, eFN_e, eCall_e, eMake_e, eCMeth_e, eCallO_e, eLst_e, eTup_e, nLst_e, nLc_e, eLc_e, lSeq_e, lTup_e, eIf_e, eAnd_e, eOr_e, eNot_e, bOf_e, bAnd_e, bOr_e, bNot_e, eFld_e, runB_e, env0_e, oN_e, List.set_cons_zero, List.set_cons_succ, List.map_cons, List.map_nil, List.cons_append, List.nil_append, List.replicate_succ, List.replicate_zero, List.length_cons, List.length_nil, List.getElem?_cons_zero, List.getElem?_cons_succ, reduceIte, if_true, if_false, Bool.false_eq_true, arN_t, decide_true, decide_false, isNon, Bool.not_true, Bool.not_false, Bool.true_and, Bool.false_and, Bool.and_true, Bool.and_false, bYes_e, lstMax_e, Nat.reduceAdd, Nat.reduceSub, Nat.reduceLeDiff, Int.reduceLT, Int.reduceLE, Int.reduceEq, String.reduceEq, and_self, decide_eq_true_eq, and_true, true_and, cPos_e, cDiv_e, fMod_i, fDiv_i, Int.reduceMod, Int.reduceDiv, Int.reduceSub, Int.reduceAdd, Int.reducePow, kOf_i, fsOf_i, fOwn_k, fOwn1_k, gFld_k, methO_e, methK_s, methA_s, ownK_s, ownK_n, ownK_m, own1K_s, own1K_n, fldK_s, sApp_e, appK_s, sOSub_e, osubK_s, eOIx_e, oixK_s, eOLen_e, olenK_s, ixN_p, Int.reduceToNat, Nat.reduceLT, oS_e, eSl_e, eSlT_e, kSet_e, kSet2_e, kDrop_e, kIf_t, kIf_f, kOwn_e, kApp_e, kOsub1_e, kOsub2_e, osK_s, kOix_e, ixK_s, kFor_e, kUnp_e, unpK_s, kOp1_e, kOp2_e, kUn_e, kC1_e, kC2_e, kA1_e, kA2_e, kFN_e, kCall_e, kMake_e, kCM_e, kMeth_e, kLst_e, lstK_s, kTup_e, tupK_s, kNl_e, nlK_s, nList_e, kNli_e, nliK_s, lOf_l, lOf_t, kNc1_e, kNc2_e, kLc1_e, kLc2_e, kSeq_e, kTpl_e, kEIf_t, kEIf_f, kEAnd_t, kEAnd_f, kEOr_t, kEOr_f, kENot_e, kB_e, kBAnd_t, kBAnd_f, kBOr_t, kBOr_f, kBNot_e, kOS_e, kSl1_e, kSl2_e, kSl3_e, kSt1_e, kSt2_e, kSt3_e, eMeth_e, kMe_e, lc_c, kL1_e, kL2_e, kT_t, kT_f, Int.cast_ofNat_Int, Int.natCast_zero, Int.natCast_one, lRng1_e, kRng_1, kRng_2, kRng_3, kRng_4, kRng_5, kRng_6, List.length_map, arS_0, sEr_e, sTryAs_e, tryK_nx, tryK_rt, tryK_er, afterO_rt, afterO_nx, eXf_e, xfS_s, xfK_s, plain_n, plain_e, List.all_cons, List.all_nil, eq_self, sTryN_e, tryN_nx, tryN_rt, tryN_h, tryN_t, dflI_e, dflF_e, not_false_eq_true, eMethK_e, kMK_e, kMK2_e, eProp_e, kPr_e, eNotO_e, kNotO_e, notK_s, eSlA_e, kSA1_e, kSA2_e, kSA3_l, kSA3_t, eGetO_e, kGet1_e, kGet2_e, getK_s, a0, l2]
  show retI "Shape" (sSeq (sIf (bNot (bOf truE (eVar 1))) (sEr "InvalidShape" okI (eC (.int 0))) sNil) (sSeq (sForT [2, 3] (lEnumT (aCons (eVar 1) (aNil))) bL) _) [.own (.ins "Shape" []), .ev (.d (.tup (L.map txD))), .no, .no] G) = _
  rw [sqn a, sqn b]
  have f1 : sFld 0 "Shape" 1 (eFN fLen (aCons (eOp fIx (eVar 1) (eC (.int 0))) (aNil))) [.own (.ins "Shape" [.tup (L.map txD)]), .ev (.d (.tup (L.map txD))), s2, s3] G = .nx [.own (.ins "Shape" [.tup (L.map txD), .int (w : Nat)]), .ev (.d (.tup (L.map txD))), s2, s3] G := by
    unfold sFld
    rw [c]
    rfl
  show retI "Shape" (sSeq (sFld 0 "Shape" 1 (eFN fLen (aCons (eOp fIx (eVar 1) (eC (.int 0))) (aNil)))) (sFld 0 "Shape" 2 (eFN fLen (aCons (eVar 1) (aNil)))) [.own (.ins "Shape" [.tup (L.map txD)]), .ev (.d (.tup (L.map txD))), s2, s3] G) = _
  rw [sqn f1]
  show Out.ok [DL.D.tup (L.map txD), .int (w : Nat), .int ((L.map txD).length : Nat)] G = _
  rw [List.length_map]
theorem make_sh {w : Nat} {L : List (List Nat)} (g : Gd w L) {r : AM} {env : En} {G G1 : GS} (h : r env G = .ok (L.map fun l => .d (txD l)) G1) : eMake "Shape" (arS 0) g_Shape___init__ r env G = .ok (.d (shD w L)) G1 :=
  make_eq h arS_0 (init_ok g G1)
theorem map_txE (L : List (List Nat)) : (L.map txD).map EV.d = L.map fun l => EV.d (txD l) := by rw [List.map_map]; rfl
theorem sh_k (w : Nat) (L : List (List Nat)) : kOf (.d (shD w L)) = some "Shape" := rfl
theorem sh_f (w : Nat) (L : List (List Nat)) : fsOf (shD w L) = [.tup (L.map txD), .int (w : Nat), .int (L.length : Nat)] := rfl
theorem isi_tup (xs : List DL.D) : gIsi TB [.tup xs, .ty "tuple"] = some (.bl true) := by kernel_rfl
theorem isi_sh (l : List DL.D) : gIsi TB [.ins "Shape" l, .cls "Shape"] = some (.bl true) := by kernel_rfl
@[reducible] def snL : EM := eLc 2 [2] (lRng1 (aCons (eFN fLen (aCons (eVar 1) (aNil))) (aNil))) (bYes) (eCall (arN 2) g__law_same_text (aCons (eOp fIx (eVar 0) (eVar 2)) (aCons (eOp fIx (eVar 1) (eVar 2)) (aNil))))
theorem at_tx {L : List (List Nat)} {i : Nat} (h : i < L.length) : L2.atI (L.map txD) (i : Int) = some (.str (tx L[i])) :=
  L2.atI_nat (by rw [List.getElem?_map, List.getElem?_eq_getElem h]; rfl)
theorem int_ok (n : Nat) (G : GS) : g__law_int [.d (.int (n : Nat)), .d (.int (n : Nat))] G = .ok (.d (.bl true)) G := by
  have d : decide ((n : Int) = n) = true := decide_eq_true rfl
  have e : gIsi TB [.int (n : Nat), .ty "int"] = some (.bl true) := rfl
  have e2 : gIsi TB [.int (n : Nat), .ty "bool"] = some (.bl false) := rfl
  simp -implicitDefEqProofs only [bind_ok, bind_er, bindN_ok, ofE_ok, ofE_er, seqO_nx, seqO_rt, seqO_er, seqO_bk, seqO_ct, loopO_nx, loopO_ct, loopO_bk, loopO_rt, loopO_er, lift_s, retO_rt, retO_nx, retO_er, mkO_ok, mkO_er, toOpt_ok, eVar_z, eVar_s, oL_z, oL_s, frz_z, frz_s, wipe_n, wipe_c, datas_n, datas_c, map_s, bind_s, setA_n, setA_c, p2_d, p1_d, pN_d, fEq_i, fEq_s, fEq_b, fEq_ii, fNe_i, fNe_s, fNe_b, fSub_i, fAdd_i, fAnd_i, fOr_i, fXor_i, fLt_i, fLe_i, fGt_i, fGe_i, fIs_d, fIsNot_d, fIsB_b, isB_b, tru_b, tru_i, tru_l, tru_t, orE_s, orE_n, alt2_e, alt1_e, altN_e, fIx_l, fIx_t, at_0, at_1, at_2, at_3, at_4, at_5, for_n, for_c, lc_n, len_lst, len_tup, kfn_c, kix_c, sSeq_e, sNil_e, sSet_e, sSet2_e, sRet_e, sRetN_e, sDrop_e, sIf_e, sBk_e, sCt_e, sFrz_e, sOwn_e, sFor_e, sUnp_e, eC_e, eOp_e, eUn_e, aNil_e, aCons_e, aApp_e, eFN_e, eCall_e, eMake_e, eCMeth_e, eCallO_e, eLst_e, eTup_e, nLst_e, nLc_e, eLc_e, lSeq_e, lTup_e, eIf_e, eAnd_e, eOr_e, eNot_e, bOf_e, bAnd_e, bOr_e, bNot_e, eFld_e, runB_e, env0_e, oN_e, List.set_cons_zero, List.set_cons_succ, List.map_cons, List.map_nil, List.cons_append, List.nil_append, List.replicate_succ, List.replicate_zero, List.length_cons, List.length_nil, List.getElem?_cons_zero, List.getElem?_cons_succ, reduceIte, if_true, if_false, Bool.false_eq_true, arN_t, decide_true, decide_false, isNon, Bool.not_true, Bool.not_false, Bool.true_and, Bool.false_and, Bool.and_true, Bool.and_false, bYes_e, lstMax_e, Nat.reduceAdd, Nat.reduceSub, Nat.reduceLeDiff, Int.reduceLT, Int.reduceLE, Int.reduceEq, String.reduceEq, and_self, decide_eq_true_eq, and_true, true_and, cPos_e, cDiv_e, fMod_i, fDiv_i, Int.reduceMod, Int.reduceDiv, Int.reduceSub, Int.reduceAdd, Int.reducePow, kOf_i, fsOf_i, fOwn_k, fOwn1_k, gFld_k, methO_e, methK_s, methA_s, ownK_s, ownK_n, ownK_m, own1K_s, own1K_n, fldK_s, sApp_e, appK_s, sOSub_e, osubK_s, eOIx_e, oixK_s, eOLen_e, olenK_s, ixN_p, Int.reduceToNat, Nat.reduceLT, oS_e, eSl_e, eSlT_e, kSet_e, kSet2_e, kDrop_e, kIf_t, kIf_f, kOwn_e, kApp_e, kOsub1_e, kOsub2_e, osK_s, kOix_e, ixK_s, kFor_e, kUnp_e, unpK_s, kOp1_e, kOp2_e, kUn_e, kC1_e, kC2_e, kA1_e, kA2_e, kFN_e, kCall_e, kMake_e, kCM_e, kMeth_e, kLst_e, lstK_s, kTup_e, tupK_s, kNl_e, nlK_s, nList_e, kNli_e, nliK_s, lOf_l, lOf_t, kNc1_e, kNc2_e, kLc1_e, kLc2_e, kSeq_e, kTpl_e, kEIf_t, kEIf_f, kEAnd_t, kEAnd_f, kEOr_t, kEOr_f, kENot_e, kB_e, kBAnd_t, kBAnd_f, kBOr_t, kBOr_f, kBNot_e, kOS_e, kSl1_e, kSl2_e, kSl3_e, kSt1_e, kSt2_e, kSt3_e, eMeth_e, kMe_e, lc_c, kL1_e, kL2_e, kT_t, kT_f, Int.cast_ofNat_Int, Int.natCast_zero, Int.natCast_one, lRng1_e, kRng_1, kRng_2, kRng_3, kRng_4, kRng_5, kRng_6, List.length_map, arS_0, sEr_e, sTryAs_e, tryK_nx, tryK_rt, tryK_er, afterO_rt, afterO_nx, eXf_e, xfS_s, xfK_s, plain_n, plain_e, List.all_cons, List.all_nil, eq_self, sTryN_e, tryN_nx, tryN_rt, tryN_h, tryN_t, dflI_e, dflF_e, not_false_eq_true, eMethK_e, kMK_e, kMK2_e, eProp_e, kPr_e, eNotO_e, kNotO_e, notK_s, eSlA_e, kSA1_e, kSA2_e, kSA3_l, kSA3_t, eGetO_e, kGet1_e, kGet2_e, getK_s, g__law_int, m__law_int, fIsi, e, e2, d]
theorem mem_getD {L : List (List Nat)} {i : Nat} (h : i < L.length) : L.getD i [] ∈ L := by
  rw [List.getD_eq_getElem?_getD, List.getElem?_eq_getElem h]
  exact List.getElem_mem h
theorem get_D {l : List Nat} {i : Nat} (h : i < l.length) : l[i] = l.getD i 0 := by
  rw [List.getD_eq_getElem?_getD, List.getElem?_eq_getElem h]; rfl
theorem Gd.pos {w : Nat} {L : List (List Nat)} (g : Gd w L) : 0 < L.length := List.length_pos_iff.mpr g.ne
theorem ixD {l : List Nat} {i : Nat} (h : i < l.length) (hl : l.length ≤ 1000) (G : GS) : fIxT (.d (.str (tx l))) (.d (.int (i : Nat))) G = some (.d (.str (tx [l.getD i 0])), G) := by
  rw [ixT_tx h hl, get_D h]
def blk (W H c : Nat) : List (List Nat) := List.replicate H (List.replicate W c)
theorem sg_ix {u : Nat} (hu : u < 2) (G : GS) : ∃ c, Sg c ∧ fIxT (.d (.str ".#")) (.d (.int (u : Nat))) G = some (.d (.str (tx [c])), G) := by
  have h : u = 0 ∨ u = 1 := by omega
  rcases h with rfl | rfl
  · exact ⟨46, .inr rfl, ixT_tx (ws := [46, 35]) (i := 0) (by decide) (by decide) G⟩
  · exact ⟨35, .inl rfl, ixT_tx (ws := [46, 35]) (i := 1) (by decide) (by decide) G⟩
end K58
set_option Elab.async false
set_option linter.all false
set_option maxRecDepth 100000
set_option maxHeartbeats 4000000
namespace K58
open PySem DL
/-! ### drawing with more in the store -/
def bxt (t : GS) (cs : List Int) (p : Nat) (s : Int) : GS := GO.lst (cs.map fun x => .d (.int x)) :: GO.lst [.o 0, .d (.int p), .d (.int s)] :: t
theorem ge_drawT (t : GS) (cs : List Int) (p : Nat) (s m : Int) (h0 : 0 < m) (hm : m < 2 ^ 200) : ∃ (v : Int) (cs' : List Int) (p' : Nat) (s' : Int), g__law_draw [.o 1, .d (.int m)] (bxt t cs p s) = .ok (.d (.int v)) (bxt t cs' p' s') ∧ 0 ≤ v ∧ v < m := by
  by_cases hc : cs = []
  · subst hc
    exact ⟨0, [], p, s, by kernel_rfl, by omega, h0⟩
  · have hl : decide ((cs.length : Int) = 0) = false := decide_eq_false fun z => hc (List.length_eq_zero_iff.mp (by omega))
    have hq : ∀ i, cPos i m = true := fun i => cpos h0
    have hd : ∀ i, cDiv i m = true := fun i => cdiv h0 hm
    by_cases hp : p < cs.length
    · have hpi : decide ((p : Int) < (cs.length : Int)) = true := decide_eq_true (by omega)
      have ha := atc hp
      have hx := ixc hp
      by_cases hb : (10 : Int) ^ 18 ≤ cs[p]
      · refine ⟨cs[p] % m, cs.set p (cs[p] / m), p, s, ?_, Int.emod_nonneg _ (by omega), Int.emod_lt_of_pos _ h0⟩
        have hb' : decide ((10 : Int) ^ 18 ≤ cs[p]) = true := decide_eq_true hb
        generalize cs[p] = c at *
        simp only [g__law_draw, m__law_draw, runB, env0, bxt, List.map, List.length, List.replicate, List.append, List.cons_append, List.nil_append, sSeq, sSet, sIf, sRet, sNil, sSub, seqO, ofE, Out.bind, eOp, eVar, eC, aNil, aCons, eFN, fIx, fLen, bOf, isB, bAnd, lift, retO, pure2, gII, gIC, gEq, gAdd,
          fEq, fLt, fGe, fPow, fDiv, fMod, fMul, fAdd, fInt, pureN, gInt, datas, Option.map, Option.bind, List.set, List.getElem?_cons_zero, List.getElem?_cons_succ, List.length_map, at0, at1, at2, ix1, ix2, cpow, e18, if_true, if_false, reduceIte, Bool.false_eq_true, Nat.succ_eq_add_one, Nat.sub_zero, hl, hpi, ha, hx, hb', hq, hd, set_c]
      · have hb' : decide ((10 : Int) ^ 18 ≤ cs[p]) = false := decide_eq_false hb
        generalize cs[p] = c at *
        refine ⟨ouN (stN s c p) m, cs, p + 1, stN s c p, ?_, Int.emod_nonneg _ (Int.ne_of_gt h0), Int.emod_lt_of_pos _ h0⟩
        · simp only [g__law_draw, m__law_draw, runB, env0, bxt, List.map, List.length, List.replicate, List.append, List.cons_append, List.nil_append, sSeq, sSet, sIf, sRet, sNil, sSub, seqO, ofE, Out.bind, eOp, eVar, eC, aNil, aCons, eFN, fIx, fLen, bOf, isB, bAnd, lift, retO, pure2, gII, gIC, gEq, gAdd,
          fEq, fLt, fGe, fPow, fDiv, fMod, fMul, fAdd, fInt, pureN, gInt, datas, Option.map, Option.bind, List.set, List.getElem?_cons_zero, List.getElem?_cons_succ, List.length_map, at0, at1, at2, ix1, ix2, cpow, e18, if_true, if_false, reduceIte, Bool.false_eq_true, Nat.succ_eq_add_one, Nat.sub_zero, hl, hpi, ha, hx, hb', hq, hd, set_c, cm1, cm2, cm3, cm4, cp1, cp2, cp3, cd5, Int.natCast_add, Int.natCast_one]
          rfl
    · have hpi : decide ((p : Int) < (cs.length : Int)) = false := decide_eq_false (by omega)
      refine ⟨ouN (stN s 0 p) m, cs, p + 1, stN s 0 p, ?_, Int.emod_nonneg _ (Int.ne_of_gt h0), Int.emod_lt_of_pos _ h0⟩
      · simp only [g__law_draw, m__law_draw, runB, env0, bxt, List.map, List.length, List.replicate, List.append, List.cons_append, List.nil_append, sSeq, sSet, sIf, sRet, sNil, sSub, seqO, ofE, Out.bind, eOp, eVar, eC, aNil, aCons, eFN, fIx, fLen, bOf, isB, bAnd, lift, retO, pure2, gII, gIC, gEq, gAdd,
          fEq, fLt, fGe, fPow, fDiv, fMod, fMul, fAdd, fInt, pureN, gInt, datas, Option.map, Option.bind, List.set, List.getElem?_cons_zero, List.getElem?_cons_succ, List.length_map, at0, at1, at2, ix1, ix2, cpow, e18, if_true, if_false, reduceIte, Bool.false_eq_true, Nat.succ_eq_add_one, Nat.sub_zero, hl, hpi, hq, hd, set_c, cm1, cm2, cm3, cm4, cp1, cp2, cp3, cd5, Int.natCast_add, Int.natCast_one]
        rfl
def bT (t : GS) (b : Bx) : GS := bxt t b.1 b.2.1 b.2.2
theorem drawB (t : GS) (b : Bx) (m : Int) (h0 : 0 < m) (hm : m < 2 ^ 200) : ∃ (v : Nat) (b' : Bx), g__law_draw [.o 1, .d (.int m)] (bT t b) = .ok (.d (.int (v : Nat))) (bT t b') ∧ (v : Int) < m := by
  obtain ⟨v, cs', p', s', e, h1, h2⟩ := ge_drawT t b.1 b.2.1 b.2.2 m h0 hm
  obtain ⟨n, rfl, hn⟩ := nat_of h1 h2
  exact ⟨n, (cs', p', s'), e, hn⟩
theorem drawT (t : GS) (b : Bx) (m : Int) (h0 : 0 < m) (hm : m < 1000) : ∃ (v : Nat) (b' : Bx), g__law_draw [.o 1, .d (.int m)] (bT t b) = .ok (.d (.int (v : Nat))) (bT t b') ∧ (v : Int) < m := drawB t b m h0 (Int.lt_trans hm (by decide))
/-! ### lists of lines, in the store or not -/
def ent (L : List (List Nat)) : GO := GO.lst (L.map fun l => .d (txD l))
def Lv (v : EV) (t : GS) (L : List (List Nat)) : Prop := v = .d (.lst (L.map txD)) ∨ ∃ k : Nat, v = .o (k + 2) ∧ t[k]? = some (ent L)
theorem bT_get (t : GS) (b : Bx) (k : Nat) : ((bT t b)[k + 2]? : Option GO) = t[k]? := rfl
theorem Lv.more {v : EV} {t : GS} {L : List (List Nat)} (h : Lv v t L) (u : GS) : Lv v (t ++ u) L := by
  rcases h with h | ⟨k, h1, h2⟩
  · exact .inl h
  · refine .inr ⟨k, h1, ?_⟩
    rw [List.getElem?_append_left (List.getElem?_eq_some_iff.mp h2).1]
    exact h2
theorem Lv.new (t : GS) (L : List (List Nat)) : Lv (.o (t.length + 2)) (t ++ [ent L]) L := .inr ⟨t.length, rfl, by simp⟩
theorem Lv.dat (t : GS) (L : List (List Nat)) : Lv (.d (.lst (L.map txD))) t L := .inl rfl
theorem Lv.len {v : EV} {t : GS} {L : List (List Nat)} (h : Lv v t L) (b : Bx) : fLen [v] (bT t b) = some (.d (.int (L.length : Nat)), bT t b) := by
  rcases h with rfl | ⟨k, rfl, h2⟩
  · show some (EV.d (.int ((L.map txD).length : Nat)), bT t b) = _
    rw [List.length_map]
  · show (match ((bT t b)[k + 2]? : Option GO) with
      | some (GO.lst xs) => some (EV.d (.int (xs.length : Nat)), bT t b)
      | _ => none) = _
    rw [bT_get, h2]
    show some (EV.d (.int ((L.map fun l => EV.d (txD l)).length : Nat)), bT t b) = _
    rw [List.length_map]
theorem Lv.ix {v : EV} {t : GS} {L : List (List Nat)} (h : Lv v t L) (b : Bx) {i : Nat} (hi : i < L.length) : fIx v (.d (.int (i : Nat))) (bT t b) = some (.d (.str (tx L[i])), bT t b) := by
  rcases h with rfl | ⟨k, rfl, h2⟩
  · show (L2.atI (L.map txD) (i : Int)).map (fun z => (EV.d z, bT t b)) = _
    rw [at_tx hi]
    rfl
  · show (match ((bT t b)[k + 2]? : Option GO) with
      | some (GO.lst xs) => (L2.atI xs (i : Int)).map fun z => (z, bT t b)
      | _ => none) = _
    rw [bT_get, h2]
    show (L2.atI (L.map fun l => EV.d (txD l)) (i : Int)).map (fun z => (z, bT t b)) = _
    rw [L2.atI_nat (xs := L.map fun l => EV.d (txD l)) (j := i) (by rw [List.getElem?_map, List.getElem?_eq_getElem hi]; rfl)]
    rfl
theorem Lv.ix0 {v : EV} {t : GS} {L : List (List Nat)} (h : Lv v t L) (b : Bx) (hi : 0 < L.length) : fIx v (.d (.int 0)) (bT t b) = some (.d (.str (tx L[0])), bT t b) := h.ix b hi
theorem datas_x (L : List (List Nat)) : datas (L.map fun l => EV.d (txD l)) = some (L.map txD) := datas_tx L
theorem Lv.lst {v : EV} {t : GS} {L : List (List Nat)} (h : Lv v t L) (b : Bx) : lstE v (bT t b) = some (L.map txD) := by
  rcases h with rfl | ⟨k, rfl, h2⟩
  · rfl
  · show (match ((bT t b)[k + 2]? : Option GO) with
      | some (GO.lst es) => datas es
      | _ => none) = _
    rw [bT_get, h2]
    exact datas_x L
theorem Lv.tup {v : EV} {t : GS} {L : List (List Nat)} (h : Lv v t L) (b : Bx) : fTupleE [v] (bT t b) = some (.d (.tup (L.map txD)), bT t b) := by
  have l := h.lst b
  rcases h with rfl | ⟨k, rfl, h2⟩
  · rfl
  · show (lstE (.o (k + 2)) (bT t b)).map (fun ds => (EV.d (.tup ds), bT t b)) = _
    rw [l]
    rfl
theorem Lv.list {v : EV} {t : GS} {L : List (List Nat)} (h : Lv v t L) (b : Bx) : fListO [v] (bT t b) = some (.o (t.length + 2), bT (t ++ [ent L]) b) := by
  rcases h with rfl | ⟨k, rfl, h2⟩
  · show some (EV.o (t.length + 2), bT t b ++ [GO.lst ((L.map txD).map .d)]) = _
    rw [List.map_map]
    rfl
  · show (match ((bT t b)[k + 2]? : Option GO) with
      | some (GO.lst xs) => some (EV.o (t.length + 2), bT t b ++ [GO.lst xs])
      | _ => none) = _
    rw [bT_get, h2]
    rfl
theorem Lv.star {v : EV} {t : GS} {L : List (List Nat)} (h : Lv v t L) (b : Bx) {m : EM} {env : En} (hm : m env (bT t b) = .ok v (bT t b)) : aStX m aNil env (bT t b) = .ok (L.map fun l => .d (txD l)) (bT t b) := by
  unfold aStX
  rw [hm, bind_ok]
  rcases h with rfl | ⟨k, rfl, h2⟩
  · show Out.ok ((L.map txD).map EV.d ++ []) (bT t b) = _
    rw [List.append_nil, map_txE]
  · show (match ((bT t b)[k + 2]? : Option GO) with
      | some (GO.lst xs) => Out.bind (aNil env (bT t b)) fun zs G2 => .ok (xs ++ zs) G2
      | _ => .st) = _
    rw [bT_get, h2]
    show Out.ok ((L.map fun l => EV.d (txD l)) ++ []) (bT t b) = _
    rw [List.append_nil]
/-! ### what is bad -/
structure Ln (L : List (List Nat)) : Prop where
  hl : L.length ≤ 50
  hw : ∀ l ∈ L, l.length ≤ 100
  hc : ∀ l ∈ L, ∀ c ∈ l, c < 128
def sgB (c : Nat) : Bool := decide (c = 35) || decide (c = 46)
theorem sgB_sg {c : Nat} (h : sgB c = true) : Sg c := by
  unfold sgB at h
  rcases Bool.or_eq_true_iff.mp h with h | h
  · exact .inl (of_decide_eq_true h)
  · exact .inr (of_decide_eq_true h)
def bB (w k : Nat) (l : List Nat) : Bool := decide (l.length < 1) || (decide (40 < l.length) || (!decide (l.length = w) || (decide (39 < k) || !l.all sgB)))
def badF (w : Nat) : Nat → List (List Nat) → Option Nat
  | _, [] => none
  | k, l :: r => if bB w k l = true then some k else badF w (k + 1) r
def badO : List (List Nat) → Option Nat
  | [] => some 0
  | l :: r => badF l.length 0 (l :: r)
theorem badF_none {w : Nat} : ∀ (r : List (List Nat)) (k : Nat), badF w k r = none → (∀ l ∈ r, 1 ≤ l.length ∧ l.length ≤ 40 ∧ l.length = w ∧ ∀ c ∈ l, Sg c) ∧ (r ≠ [] → k + r.length ≤ 40)
  | [], k, _ => ⟨fun _ h => (nomatch h), fun h => absurd rfl h⟩
  | l :: r, k, h => by
    unfold badF at h
    split at h
    · cases h
    · rename_i hb
      obtain ⟨h1, h2⟩ := badF_none r (k + 1) h
      have hb' : bB w k l = false := by cases z : bB w k l with | false => rfl | true => exact absurd z hb
      unfold bB at hb'
      simp only [Bool.or_eq_false_iff, Bool.not_eq_false', decide_eq_false_iff_not, decide_eq_true_eq] at hb'
      obtain ⟨a1, a2, a3, a4, a5⟩ := hb'
      refine ⟨fun x hx => ?_, fun _ => ?_⟩
      · rcases List.mem_cons.mp hx with rfl | hx
        · exact ⟨by omega, by omega, a3, fun c hc => sgB_sg (List.all_eq_true.mp a5 c hc)⟩
        · exact h1 x hx
      · rw [List.length_cons]
        by_cases hr : r = []
        · subst hr
          show k + (0 + 1) ≤ 40
          omega
        · have := h2 hr
          omega
theorem bad_gd {L : List (List Nat)} (h : badO L = none) : ∃ w, Gd w L := by
  cases L with
  | nil => cases h
  | cons l r =>
    have h' : badF l.length 0 (l :: r) = none := h
    obtain ⟨h1, h2⟩ := badF_none (l :: r) 0 h'
    have h3 := h2 (by simp)
    have h0 := h1 l List.mem_cons_self
    exact ⟨l.length, by simp, by omega, h0.1, h0.2.1, fun x hx => (h1 x hx).2.2.1, fun x hx => (h1 x hx).2.2.2⟩
theorem cnt_all : ∀ l : List Nat, l.count 35 + l.count 46 ≤ l.length ∧ decide (((l.count 35 : Nat) : Int) + ((l.count 46 : Nat) : Int) = (l.length : Nat)) = l.all sgB
  | [] => ⟨Nat.le_refl _, rfl⟩
  | c :: l => by
    obtain ⟨h1, h2⟩ := cnt_all l
    rw [List.count_cons, List.count_cons, List.length_cons, List.all_cons, ← h2]
    by_cases a : c = 35
    · subst a
      rw [if_pos (by decide), if_neg (by decide), show sgB 35 = true from rfl, Bool.true_and]
      exact ⟨by omega, decide_eq_decide.mpr ⟨fun h => by omega, fun h => by omega⟩⟩
    · by_cases b : c = 46
      · subst b
        rw [if_neg (by decide), if_pos (by decide), show sgB 46 = true from rfl, Bool.true_and]
        exact ⟨by omega, decide_eq_decide.mpr ⟨fun h => by omega, fun h => by omega⟩⟩
      · have s : sgB c = false := by unfold sgB; rw [decide_eq_false a, decide_eq_false b]; rfl
        rw [if_neg (by rw [beq_iff_eq]; exact a), if_neg (by rw [beq_iff_eq]; exact b), s, Bool.false_and]
        exact ⟨by omega, decide_eq_false (by omega)⟩
def isLn (l : List Nat) : Bool := !decide (l.length < 1) && (!decide (40 < l.length) && l.all sgB)
theorem line_gen {l : List Nat} (hl : l.length ≤ 100) (G : GS) : g__is_line [.d (.str (tx l))] G = .ok (.d (.bl (isLn l))) G := by
  have c1 : eCount (eVar 0) (eC (.str "#")) [.ev (.d (.str (tx l)))] G = .ok (.d (.int (l.count 35 : Nat))) G := cnt_e (c := 35) rfl
  have c2 : eCount (eVar 0) (eC (.str ".")) [.ev (.d (.str (tx l)))] G = .ok (.d (.int (l.count 46 : Nat))) G := cnt_e (c := 46) rfl
  have le := len_tx (ws := l) (by omega) (G := G)
  have ca := (cnt_all l).2
  unfold isLn
  by_cases h1 : l.length < 1
  · have d1 : decide ((l.length : Int) < 1) = true := decide_eq_true (by omega)
    rw [decide_eq_true h1]
    simp -implicitDefEqProofs only [bind_ok, bind_er, bindN_ok, ofE_ok, ofE_er, seqO_nx, seqO_rt, seqO_er, seqO_bk, seqO_ct, loopO_nx, loopO_ct, loopO_bk, loopO_rt, loopO_er, lift_s, retO_rt, retO_nx, retO_er, mkO_ok, mkO_er, toOpt_ok, eVar_z, eVar_s, oL_z, oL_s, frz_z, frz_s, wipe_n, wipe_c, datas_n, datas_c, map_s, bind_s, setA_n, setA_c, p2_d, p1_d, pN_d, fEq_i, fEq_s, fEq_b, fEq_ii, fNe_i, fNe_s, fNe_b, fSub_i, fAdd_i, fAnd_i, fOr_i, fXor_i, fLt_i, fLe_i, fGt_i, fGe_i, fIs_d, fIsNot_d, fIsB_b, isB_b, tru_b, tru_i, tru_l, tru_t, orE_s, orE_n, alt2_e, alt1_e, altN_e, fIx_l, fIx_t, at_0, at_1, at_2, at_3, at_4, at_5, for_n, for_c, lc_n, len_lst, len_tup, kfn_c, kix_c, sSeq_e, sNil_e, sSet_e, sSet2_e, sRet_e, sRetN_e, sDrop_e, sIf_e, sBk_e, sCt_e, sFrz_e, sOwn_e, sFor_e, sUnp_e, eC_e, eOp_e, eUn_e, aNil_e, aCons_e, aApp_e, eFN_e, eCall_e, eMake_e, eCMeth_e, eCallO_e, eLst_e, eTup_e, nLst_e, nLc_e, eLc_e, lSeq_e, lTup_e, eIf_e, eAnd_e, eOr_e, eNot_e, bOf_e, bAnd_e, bOr_e, bNot_e, eFld_e, runB_e, env0_e, oN_e, List.set_cons_zero, List.set_cons_succ, List.map_cons, List.map_nil, List.cons_append, List.nil_append, List.replicate_succ, List.replicate_zero, List.length_cons, List.length_nil, List.getElem?_cons_zero, List.getElem?_cons_succ, reduceIte, if_true, if_false, Bool.false_eq_true, arN_t, decide_true, decide_false, isNon, Bool.not_true, Bool.not_false, Bool.true_and, Bool.false_and, Bool.and_true, Bool.and_false, bYes_e, lstMax_e, Nat.reduceAdd, Nat.reduceSub, Nat.reduceLeDiff, Int.reduceLT, Int.reduceLE, Int.reduceEq, String.reduceEq, and_self, decide_eq_true_eq, and_true, true_and, cPos_e, cDiv_e, fMod_i, fDiv_i, Int.reduceMod, Int.reduceDiv, Int.reduceSub, Int.reduceAdd, Int.reducePow, kOf_i, fsOf_i, fOwn_k, fOwn1_k, gFld_k, methO_e, methK_s, methA_s, ownK_s, ownK_n, ownK_m, own1K_s, own1K_n, fldK_s, sApp_e, appK_s, sOSub_e, osubK_s, eOIx_e, oixK_s, eOLen_e, olenK_s, ixN_p, Int.reduceToNat, Nat.reduceLT, oS_e, eSl_e, eSlT_e, kSet_e, kSet2_e, kDrop_e, kIf_t, kIf_f, kOwn_e, kApp_e, kOsub1_e, kOsub2_e, osK_s, kOix_e, ixK_s, kFor_e, kUnp_e, unpK_s, kOp1_e, kOp2_e, kUn_e, kC1_e, kC2_e, kA1_e, kA2_e, kFN_e, kCall_e, kMake_e, kCM_e, kMeth_e, kLst_e, lstK_s, kTup_e, tupK_s, kNl_e, nlK_s, nList_e, kNli_e, nliK_s, lOf_l, lOf_t, kNc1_e, kNc2_e, kLc1_e, kLc2_e, kSeq_e, kTpl_e, kEIf_t, kEIf_f, kEAnd_t, kEAnd_f, kEOr_t, kEOr_f, kENot_e, kB_e, kBAnd_t, kBAnd_f, kBOr_t, kBOr_f, kBNot_e, kOS_e, kSl1_e, kSl2_e, kSl3_e, kSt1_e, kSt2_e, kSt3_e, eMeth_e, kMe_e, lc_c, kL1_e, kL2_e, kT_t, kT_f, Int.cast_ofNat_Int, Int.natCast_zero, Int.natCast_one, lRng1_e, kRng_1, kRng_2, kRng_3, kRng_4, kRng_5, kRng_6, List.length_map, arS_0, sEr_e, sTryAs_e, tryK_nx, tryK_rt, tryK_er, afterO_rt, afterO_nx, eXf_e, xfS_s, xfK_s, plain_n, plain_e, List.all_cons, List.all_nil, eq_self, sTryN_e, tryN_nx, tryN_rt, tryN_h, tryN_t, dflI_e, dflF_e, not_false_eq_true, eMethK_e, kMK_e, kMK2_e, eProp_e, kPr_e, eNotO_e, kNotO_e, notK_s, eSlA_e, kSA1_e, kSA2_e, kSA3_l, kSA3_t, eGetO_e, kGet1_e, kGet2_e, getK_s, g__is_line, m__is_line, le, d1]
  · have d1 : decide ((l.length : Int) < 1) = false := decide_eq_false (by omega)
    rw [decide_eq_false h1]
    by_cases h2 : 40 < l.length
    · have d2 : decide ((40 : Int) < (l.length : Int)) = true := decide_eq_true (by omega)
      rw [decide_eq_true h2]
      simp -implicitDefEqProofs only [bind_ok, bind_er, bindN_ok, ofE_ok, ofE_er, seqO_nx, seqO_rt, seqO_er, seqO_bk, seqO_ct, loopO_nx, loopO_ct, loopO_bk, loopO_rt, loopO_er, lift_s, retO_rt, retO_nx, retO_er, mkO_ok, mkO_er, toOpt_ok, eVar_z, eVar_s, oL_z, oL_s, frz_z, frz_s, wipe_n, wipe_c, datas_n, datas_c, map_s, bind_s, setA_n, setA_c, p2_d, p1_d, pN_d, fEq_i, fEq_s, fEq_b, fEq_ii, fNe_i, fNe_s, fNe_b, fSub_i, fAdd_i, fAnd_i, fOr_i, fXor_i, fLt_i, fLe_i, fGt_i, fGe_i, fIs_d, fIsNot_d, fIsB_b, isB_b, tru_b, tru_i, tru_l, tru_t, orE_s, orE_n, alt2_e, alt1_e, altN_e, fIx_l, fIx_t, at_0, at_1, at_2, at_3, at_4, at_5, for_n, for_c, lc_n, len_lst, len_tup, kfn_c, kix_c, sSeq_e, sNil_e, sSet_e, sSet2_e, sRet_e, sRetN_e, sDrop_e, sIf_e, sBk_e, sCt_e, sFrz_e, sOwn_e, sFor_e, sUnp_e, eC_e, eOp_e, eUn_e, aNil_e, aCons_e, aApp_e, eFN_e, eCall_e, eMake_e, eCMeth_e, eCallO_e, eLst_e, eTup_e, nLst_e, nLc_e, eLc_e, lSeq_e, lTup_e, eIf_e, eAnd_e, eOr_e, eNot_e, bOf_e, bAnd_e, bOr_e, bNot_e, eFld_e, runB_e, env0_e, oN_e, List.set_cons_zero, List.set_cons_succ, List.map_cons, List.map_nil, List.cons_append, List.nil_append, List.replicate_succ, List.replicate_zero, List.length_cons, List.length_nil, List.getElem?_cons_zero, List.getElem?_cons_succ, reduceIte, if_true, if_false, Bool.false_eq_true, arN_t, decide_true, decide_false, isNon, Bool.not_true, Bool.not_false, Bool.true_and, Bool.false_and, Bool.and_true, Bool.and_false, bYes_e, lstMax_e, Nat.reduceAdd, Nat.reduceSub, Nat.reduceLeDiff, Int.reduceLT, Int.reduceLE, Int.reduceEq, String.reduceEq, and_self, decide_eq_true_eq, and_true, true_and, cPos_e, cDiv_e, fMod_i, fDiv_i, Int.reduceMod, Int.reduceDiv, Int.reduceSub, Int.reduceAdd, Int.reducePow, kOf_i, fsOf_i, fOwn_k, fOwn1_k, gFld_k, methO_e, methK_s, methA_s, ownK_s, ownK_n, ownK_m, own1K_s, own1K_n, fldK_s, sApp_e, appK_s, sOSub_e, osubK_s, eOIx_e, oixK_s, eOLen_e, olenK_s, ixN_p, Int.reduceToNat, Nat.reduceLT, oS_e, eSl_e, eSlT_e, kSet_e, kSet2_e, kDrop_e, kIf_t, kIf_f, kOwn_e, kApp_e, kOsub1_e, kOsub2_e, osK_s, kOix_e, ixK_s, kFor_e, kUnp_e, unpK_s, kOp1_e, kOp2_e, kUn_e, kC1_e, kC2_e, kA1_e, kA2_e, kFN_e, kCall_e, kMake_e, kCM_e, kMeth_e, kLst_e, lstK_s, kTup_e, tupK_s, kNl_e, nlK_s, nList_e, kNli_e, nliK_s, lOf_l, lOf_t, kNc1_e, kNc2_e, kLc1_e, kLc2_e, kSeq_e, kTpl_e, kEIf_t, kEIf_f, kEAnd_t, kEAnd_f, kEOr_t, kEOr_f, kENot_e, kB_e, kBAnd_t, kBAnd_f, kBOr_t, kBOr_f, kBNot_e, kOS_e, kSl1_e, kSl2_e, kSl3_e, kSt1_e, kSt2_e, kSt3_e, eMeth_e, kMe_e, lc_c, kL1_e, kL2_e, kT_t, kT_f, Int.cast_ofNat_Int, Int.natCast_zero, Int.natCast_one, lRng1_e, kRng_1, kRng_2, kRng_3, kRng_4, kRng_5, kRng_6, List.length_map, arS_0, sEr_e, sTryAs_e, tryK_nx, tryK_rt, tryK_er, afterO_rt, afterO_nx, eXf_e, xfS_s, xfK_s, plain_n, plain_e, List.all_cons, List.all_nil, eq_self, sTryN_e, tryN_nx, tryN_rt, tryN_h, tryN_t, dflI_e, dflF_e, not_false_eq_true, eMethK_e, kMK_e, kMK2_e, eProp_e, kPr_e, eNotO_e, kNotO_e, notK_s, eSlA_e, kSA1_e, kSA2_e, kSA3_l, kSA3_t, eGetO_e, kGet1_e, kGet2_e, getK_s, g__is_line, m__is_line, le, d1, d2]
    · have d2 : decide ((40 : Int) < (l.length : Int)) = false := decide_eq_false (by omega)
      rw [decide_eq_false h2]
      simp -implicitDefEqProofs only [bind_ok, bind_er, bindN_ok, ofE_ok, ofE_er, seqO_nx, seqO_rt, seqO_er, seqO_bk, seqO_ct, loopO_nx, loopO_ct, loopO_bk, loopO_rt, loopO_er, lift_s, retO_rt, retO_nx, retO_er, mkO_ok, mkO_er, toOpt_ok, eVar_z, eVar_s, oL_z, oL_s, frz_z, frz_s, wipe_n, wipe_c, datas_n, datas_c, map_s, bind_s, setA_n, setA_c, p2_d, p1_d, pN_d, fEq_i, fEq_s, fEq_b, fEq_ii, fNe_i, fNe_s, fNe_b, fSub_i, fAdd_i, fAnd_i, fOr_i, fXor_i, fLt_i, fLe_i, fGt_i, fGe_i, fIs_d, fIsNot_d, fIsB_b, isB_b, tru_b, tru_i, tru_l, tru_t, orE_s, orE_n, alt2_e, alt1_e, altN_e, fIx_l, fIx_t, at_0, at_1, at_2, at_3, at_4, at_5, for_n, for_c, lc_n, len_lst, len_tup, kfn_c, kix_c, sSeq_e, sNil_e, sSet_e, sSet2_e, sRet_e, sRetN_e, sDrop_e, sIf_e, sBk_e, sCt_e, sFrz_e, sOwn_e, sFor_e, sUnp_e, eC_e, eOp_e, eUn_e, aNil_e, aCons_e, aApp_e, eFN_e, eCall_e, eMake_e, eCMeth_e, eCallO_e, eLst_e, eTup_e, nLst_e, nLc_e, eLc_e, lSeq_e, lTup_e, eIf_e, eAnd_e, eOr_e, eNot_e, bOf_e, bAnd_e, bOr_e, bNot_e, eFld_e, runB_e, env0_e, oN_e, List.set_cons_zero, List.set_cons_succ, List.map_cons, List.map_nil, List.cons_append, List.nil_append, List.replicate_succ, List.replicate_zero, List.length_cons, List.length_nil, List.getElem?_cons_zero, List.getElem?_cons_succ, reduceIte, if_true, if_false, Bool.false_eq_true, arN_t, decide_true, decide_false, isNon, Bool.not_true, Bool.not_false, Bool.true_and, Bool.false_and, Bool.and_true, Bool.and_false, bYes_e, lstMax_e, Nat.reduceAdd, Nat.reduceSub, Nat.reduceLeDiff, Int.reduceLT, Int.reduceLE, Int.reduceEq, String.reduceEq, and_self, decide_eq_true_eq, and_true, true_and, cPos_e, cDiv_e, fMod_i, fDiv_i, Int.reduceMod, Int.reduceDiv, Int.reduceSub, Int.reduceAdd, Int.reducePow, kOf_i, fsOf_i, fOwn_k, fOwn1_k, gFld_k, methO_e, methK_s, methA_s, ownK_s, ownK_n, ownK_m, own1K_s, own1K_n, fldK_s, sApp_e, appK_s, sOSub_e, osubK_s, eOIx_e, oixK_s, eOLen_e, olenK_s, ixN_p, Int.reduceToNat, Nat.reduceLT, oS_e, eSl_e, eSlT_e, kSet_e, kSet2_e, kDrop_e, kIf_t, kIf_f, kOwn_e, kApp_e, kOsub1_e, kOsub2_e, osK_s, kOix_e, ixK_s, kFor_e, kUnp_e, unpK_s, kOp1_e, kOp2_e, kUn_e, kC1_e, kC2_e, kA1_e, kA2_e, kFN_e, kCall_e, kMake_e, kCM_e, kMeth_e, kLst_e, lstK_s, kTup_e, tupK_s, kNl_e, nlK_s, nList_e, kNli_e, nliK_s, lOf_l, lOf_t, kNc1_e, kNc2_e, kLc1_e, kLc2_e, kSeq_e, kTpl_e, kEIf_t, kEIf_f, kEAnd_t, kEAnd_f, kEOr_t, kEOr_f, kENot_e, kB_e, kBAnd_t, kBAnd_f, kBOr_t, kBOr_f, kBNot_e, kOS_e, kSl1_e, kSl2_e, kSl3_e, kSt1_e, kSt2_e, kSt3_e, eMeth_e, kMe_e, lc_c, kL1_e, kL2_e, kT_t, kT_f, Int.cast_ofNat_Int, Int.natCast_zero, Int.natCast_one, lRng1_e, kRng_1, kRng_2, kRng_3, kRng_4, kRng_5, kRng_6, List.length_map, arS_0, sEr_e, sTryAs_e, tryK_nx, tryK_rt, tryK_er, afterO_rt, afterO_nx, eXf_e, xfS_s, xfK_s, plain_n, plain_e, List.all_cons, List.all_nil, eq_self, sTryN_e, tryN_nx, tryN_rt, tryN_h, tryN_t, dflI_e, dflF_e, not_false_eq_true, eMethK_e, kMK_e, kMK2_e, eProp_e, kPr_e, eNotO_e, kNotO_e, notK_s, eSlA_e, kSA1_e, kSA2_e, kSA3_l, kSA3_t, eGetO_e, kGet1_e, kGet2_e, getK_s, g__is_line, m__is_line, le, d1, d2, ↓c1, ↓c2, ca]
theorem bB_is (w k : Nat) (l : List Nat) : bB w k l = (decide ((40 : Int) ≤ k) || ((!decide ((l.length : Int) = w)) || !isLn l)) := by
  have e1 : decide ((40 : Int) ≤ k) = decide (39 < k) := decide_eq_decide.mpr ⟨fun h => by omega, fun h => by omega⟩
  have e2 : decide ((l.length : Int) = w) = decide (l.length = w) := decide_eq_decide.mpr ⟨fun h => by omega, fun h => by omega⟩
  unfold bB isLn
  rw [e1, e2]
  cases decide (l.length < 1) <;> cases decide (40 < l.length) <;> cases decide (l.length = w) <;> cases decide (39 < k) <;> cases l.all sgB <;> rfl
/-! ### Shape(*lines) of any lines -/
theorem okI_b {i : Int} (h : i.natAbs < 2 ^ 200) : okI (.int i) = true := by
  show decide (i.natAbs.log2 < 1920) = true
  refine decide_eq_true ?_
  by_cases z : i.natAbs = 0
  · rw [z]; decide
  · exact Nat.lt_of_lt_of_le ((Nat.log2_lt z).mpr h) (by decide)
theorem okI_k {k : Nat} (h : k ≤ 1000) : okI (.int (k : Nat)) = true := okI_b (by rw [Int.natAbs_natCast]; exact Nat.lt_of_le_of_lt h (by decide))
theorem bL_gen {w k : Nat} {L : List (List Nat)} (ln : Ln L) (h0 : ∃ l, l.length = w ∧ L2.atI (L.map txD) 0 = some (.str (tx l))) {l : List Nat} (hl : l ∈ L) (hw : w ≤ 100) (hk : k ≤ 1000) (o : Sl) (G : GS) : bL [o, .ev (.d (.tup (L.map txD))), .ev (.d (.int (k : Nat))), .ev (.d (.str (tx l)))] G = if bB w k l = true then .er "InvalidShape" [.int (k : Nat)] [o, .ev (.d (.tup (L.map txD))), .ev (.d (.int (k : Nat))), .ev (.d (.str (tx l)))] G else .nx [o, .ev (.d (.tup (L.map txD))), .ev (.d (.int (k : Nat))), .ev (.d (.str (tx l)))] G := by
  obtain ⟨l0, e0, a0⟩ := h0
  have hll := ln.hw l hl
  have li := line_gen hll G
  have l1 := len_tx (ws := l) (by omega) (G := G)
  have l2 := len_tx (ws := l0) (by omega) (G := G)
  rw [e0] at l2
  have ke : ∀ env, kEr "InvalidShape" okI env (.d (.int (k : Nat))) G = .er "InvalidShape" [.int (k : Nat)] env G := fun env => kEr_e (okI_k hk)
  rw [bB_is]
  cases d1 : decide ((40 : Int) ≤ k) with
  | true => rw [if_pos (by rfl)]; simp -implicitDefEqProofs only [bind_ok, bind_er, bindN_ok, ofE_ok, ofE_er, seqO_nx, seqO_rt, seqO_er, seqO_bk, seqO_ct, loopO_nx, loopO_ct, loopO_bk, loopO_rt, loopO_er, lift_s, retO_rt, retO_nx, retO_er, mkO_ok, mkO_er, toOpt_ok, eVar_z, eVar_s, oL_z, oL_s, frz_z, frz_s, wipe_n, wipe_c, datas_n, datas_c, map_s, bind_s, setA_n, setA_c, p2_d, p1_d, pN_d, fEq_i, fEq_s, fEq_b, fEq_ii, fNe_i, fNe_s, fNe_b, fSub_i, fAdd_i, fAnd_i, fOr_i, fXor_i, fLt_i, fLe_i, fGt_i, fGe_i, fIs_d, fIsNot_d, fIsB_b, isB_b, tru_b, tru_i, tru_l, tru_t, orE_s, orE_n, alt2_e, alt1_e, altN_e, fIx_l, fIx_t, at_0, at_1, at_2, at_3, at_4, at_5, for_n, for_c, lc_n, len_lst, len_tup, kfn_c, kix_c, sSeq_e, sNil_e, sSet_e, sSet2_e, sRet_e, sRetN_e, sDrop_e, sIf_e, sBk_e, sCt_e, sFrz_e, sOwn_e, sFor_e, sUnp_e, eC_e, eOp_e, eUn_e, aNil_e, aCons_e, aApp_e, eFN_e, eCall_e, eMake_e, eCMeth_e, eCallO_e, eLst_e, eTup_e, nLst_e, nLc_e, eLc_e, lSeq_e, lTup_e, eIf_e, eAnd_e, eOr_e, eNot_e, bOf_e, bAnd_e, bOr_e, bNot_e, eFld_e, runB_e, env0_e, oN_e, List.set_cons_zero, List.set_cons_succ, List.map_cons, List.map_nil, List.cons_append, List.nil_append, List.replicate_succ, List.replicate_zero, List.length_cons, List.length_nil, List.getElem?_cons_zero, List.getElem?_cons_succ, reduceIte, if_true, if_false, Bool.false_eq_true, arN_t, decide_true, decide_false, isNon, Bool.not_true, Bool.not_false, Bool.true_and, Bool.false_and, Bool.and_true, Bool.and_false, bYes_e, lstMax_e, Nat.reduceAdd, Nat.reduceSub, Nat.reduceLeDiff, Int.reduceLT, Int.reduceLE, Int.reduceEq, String.reduceEq, and_self, decide_eq_true_eq, and_true, true_and, cPos_e, cDiv_e, fMod_i, fDiv_i, Int.reduceMod, Int.reduceDiv, Int.reduceSub, Int.reduceAdd, Int.reducePow, kOf_i, fsOf_i, fOwn_k, fOwn1_k, gFld_k, methO_e, methK_s, methA_s, ownK_s, ownK_n, ownK_m, own1K_s, own1K_n, fldK_s, sApp_e, appK_s, sOSub_e, osubK_s, eOIx_e, oixK_s, eOLen_e, olenK_s, ixN_p, Int.reduceToNat, Nat.reduceLT, oS_e, eSl_e, eSlT_e, kSet_e, kSet2_e, kDrop_e, kIf_t, kIf_f, kOwn_e, kApp_e, kOsub1_e, kOsub2_e, osK_s, kOix_e, ixK_s, kFor_e, kUnp_e, unpK_s, kOp1_e, kOp2_e, kUn_e, kC1_e, kC2_e, kA1_e, kA2_e, kFN_e, kCall_e, kMake_e, kCM_e, kMeth_e, kLst_e, lstK_s, kTup_e, tupK_s, kNl_e, nlK_s, nList_e, kNli_e, nliK_s, lOf_l, lOf_t, kNc1_e, kNc2_e, kLc1_e, kLc2_e, kSeq_e, kTpl_e, kEIf_t, kEIf_f, kEAnd_t, kEAnd_f, kEOr_t, kEOr_f, kENot_e, kB_e, kBAnd_t, kBAnd_f, kBOr_t, kBOr_f, kBNot_e, kOS_e, kSl1_e, kSl2_e, kSl3_e, kSt1_e, kSt2_e, kSt3_e, eMeth_e, kMe_e, lc_c, kL1_e, kL2_e, kT_t, kT_f, Int.cast_ofNat_Int, Int.natCast_zero, Int.natCast_one, lRng1_e, kRng_1, kRng_2, kRng_3, kRng_4, kRng_5, kRng_6, List.length_map, arS_0, sEr_e, sTryAs_e, tryK_nx, tryK_rt, tryK_er, afterO_rt, afterO_nx, eXf_e, xfS_s, xfK_s, plain_n, plain_e, List.all_cons, List.all_nil, eq_self, sTryN_e, tryN_nx, tryN_rt, tryN_h, tryN_t, dflI_e, dflF_e, not_false_eq_true, eMethK_e, kMK_e, kMK2_e, eProp_e, kPr_e, eNotO_e, kNotO_e, notK_s, eSlA_e, kSA1_e, kSA2_e, kSA3_l, kSA3_t, eGetO_e, kGet1_e, kGet2_e, getK_s, bL, d1, ke]
  | false =>
    cases d2 : decide ((l.length : Int) = w) with
    | false => rw [if_pos (by rfl)]; simp -implicitDefEqProofs only [bind_ok, bind_er, bindN_ok, ofE_ok, ofE_er, seqO_nx, seqO_rt, seqO_er, seqO_bk, seqO_ct, loopO_nx, loopO_ct, loopO_bk, loopO_rt, loopO_er, lift_s, retO_rt, retO_nx, retO_er, mkO_ok, mkO_er, toOpt_ok, eVar_z, eVar_s, oL_z, oL_s, frz_z, frz_s, wipe_n, wipe_c, datas_n, datas_c, map_s, bind_s, setA_n, setA_c, p2_d, p1_d, pN_d, fEq_i, fEq_s, fEq_b, fEq_ii, fNe_i, fNe_s, fNe_b, fSub_i, fAdd_i, fAnd_i, fOr_i, fXor_i, fLt_i, fLe_i, fGt_i, fGe_i, fIs_d, fIsNot_d, fIsB_b, isB_b, tru_b, tru_i, tru_l, tru_t, orE_s, orE_n, alt2_e, alt1_e, altN_e, fIx_l, fIx_t, at_0, at_1, at_2, at_3, at_4, at_5, for_n, for_c, lc_n, len_lst, len_tup, kfn_c, kix_c, sSeq_e, sNil_e, sSet_e, sSet2_e, sRet_e, sRetN_e, sDrop_e, sIf_e, sBk_e, sCt_e, sFrz_e, sOwn_e, sFor_e, sUnp_e, eC_e, eOp_e, eUn_e, aNil_e, aCons_e, aApp_e, eFN_e, eCall_e, eMake_e, eCMeth_e, eCallO_e, eLst_e, eTup_e, nLst_e, nLc_e, eLc_e, lSeq_e, lTup_e, eIf_e, eAnd_e, eOr_e, eNot_e, bOf_e, bAnd_e, bOr_e, bNot_e, eFld_e, runB_e, env0_e, oN_e, List.set_cons_zero, List.set_cons_succ, List.map_cons, List.map_nil, List.cons_append, List.nil_append, List.replicate_succ, List.replicate_zero, List.length_cons, List.length_nil, List.getElem?_cons_zero, List.getElem?_cons_succ, reduceIte, if_true, if_false, Bool.false_eq_true, arN_t, decide_true, decide_false, isNon, Bool.not_true, Bool.not_false, Bool.true_and, Bool.false_and, Bool.and_true, Bool.and_false, bYes_e, lstMax_e, Nat.reduceAdd, Nat.reduceSub, Nat.reduceLeDiff, Int.reduceLT, Int.reduceLE, Int.reduceEq, String.reduceEq, and_self, decide_eq_true_eq, and_true, true_and, cPos_e, cDiv_e, fMod_i, fDiv_i, Int.reduceMod, Int.reduceDiv, Int.reduceSub, Int.reduceAdd, Int.reducePow, kOf_i, fsOf_i, fOwn_k, fOwn1_k, gFld_k, methO_e, methK_s, methA_s, ownK_s, ownK_n, ownK_m, own1K_s, own1K_n, fldK_s, sApp_e, appK_s, sOSub_e, osubK_s, eOIx_e, oixK_s, eOLen_e, olenK_s, ixN_p, Int.reduceToNat, Nat.reduceLT, oS_e, eSl_e, eSlT_e, kSet_e, kSet2_e, kDrop_e, kIf_t, kIf_f, kOwn_e, kApp_e, kOsub1_e, kOsub2_e, osK_s, kOix_e, ixK_s, kFor_e, kUnp_e, unpK_s, kOp1_e, kOp2_e, kUn_e, kC1_e, kC2_e, kA1_e, kA2_e, kFN_e, kCall_e, kMake_e, kCM_e, kMeth_e, kLst_e, lstK_s, kTup_e, tupK_s, kNl_e, nlK_s, nList_e, kNli_e, nliK_s, lOf_l, lOf_t, kNc1_e, kNc2_e, kLc1_e, kLc2_e, kSeq_e, kTpl_e, kEIf_t, kEIf_f, kEAnd_t, kEAnd_f, kEOr_t, kEOr_f, kENot_e, kB_e, kBAnd_t, kBAnd_f, kBOr_t, kBOr_f, kBNot_e, kOS_e, kSl1_e, kSl2_e, kSl3_e, kSt1_e, kSt2_e, kSt3_e, eMeth_e, kMe_e, lc_c, kL1_e, kL2_e, kT_t, kT_f, Int.cast_ofNat_Int, Int.natCast_zero, Int.natCast_one, lRng1_e, kRng_1, kRng_2, kRng_3, kRng_4, kRng_5, kRng_6, List.length_map, arS_0, sEr_e, sTryAs_e, tryK_nx, tryK_rt, tryK_er, afterO_rt, afterO_nx, eXf_e, xfS_s, xfK_s, plain_n, plain_e, List.all_cons, List.all_nil, eq_self, sTryN_e, tryN_nx, tryN_rt, tryN_h, tryN_t, dflI_e, dflF_e, not_false_eq_true, eMethK_e, kMK_e, kMK2_e, eProp_e, kPr_e, eNotO_e, kNotO_e, notK_s, eSlA_e, kSA1_e, kSA2_e, kSA3_l, kSA3_t, eGetO_e, kGet1_e, kGet2_e, getK_s, bL, d1, a0, l1, l2, d2, ke]
    | true =>
      cases d3 : isLn l with
      | false => rw [d3] at li; rw [if_pos (by rfl)]; simp -implicitDefEqProofs only [bind_ok, bind_er, bindN_ok, ofE_ok, ofE_er, seqO_nx, seqO_rt, seqO_er, seqO_bk, seqO_ct, loopO_nx, loopO_ct, loopO_bk, loopO_rt, loopO_er, lift_s, retO_rt, retO_nx, retO_er, mkO_ok, mkO_er, toOpt_ok, eVar_z, eVar_s, oL_z, oL_s, frz_z, frz_s, wipe_n, wipe_c, datas_n, datas_c, map_s, bind_s, setA_n, setA_c, p2_d, p1_d, pN_d, fEq_i, fEq_s, fEq_b, fEq_ii, fNe_i, fNe_s, fNe_b, fSub_i, fAdd_i, fAnd_i, fOr_i, fXor_i, fLt_i, fLe_i, fGt_i, fGe_i, fIs_d, fIsNot_d, fIsB_b, isB_b, tru_b, tru_i, tru_l, tru_t, orE_s, orE_n, alt2_e, alt1_e, altN_e, fIx_l, fIx_t, at_0, at_1, at_2, at_3, at_4, at_5, for_n, for_c, lc_n, len_lst, len_tup, kfn_c, kix_c, sSeq_e, sNil_e, sSet_e, sSet2_e, sRet_e, sRetN_e, sDrop_e, sIf_e, sBk_e, sCt_e, sFrz_e, sOwn_e, sFor_e, sUnp_e, eC_e, eOp_e, eUn_e, aNil_e, aCons_e, aApp_e, eFN_e, eCall_e, eMake_e, eCMeth_e, eCallO_e, eLst_e, eTup_e, nLst_e, nLc_e, eLc_e, lSeq_e, lTup_e, eIf_e, eAnd_e, eOr_e, eNot_e, bOf_e, bAnd_e, bOr_e, bNot_e, eFld_e, runB_e, env0_e, oN_e, List.set_cons_zero, List.set_cons_succ, List.map_cons, List.map_nil, List.cons_append, List.nil_append, List.replicate_succ, List.replicate_zero, List.length_cons, List.length_nil, List.getElem?_cons_zero, List.getElem?_cons_succ, reduceIte, if_true, if_false, Bool.false_eq_true, arN_t, decide_true, decide_false, isNon, Bool.not_true, Bool.not_false, Bool.true_and, Bool.false_and, Bool.and_true, Bool.and_false, bYes_e, lstMax_e, Nat.reduceAdd, Nat.reduceSub, Nat.reduceLeDiff, Int.reduceLT, Int.reduceLE, Int.reduceEq, String.reduceEq, and_self, decide_eq_true_eq, and_true, true_and, cPos_e, cDiv_e, fMod_i, fDiv_i, Int.reduceMod, Int.reduceDiv, Int.reduceSub, Int.reduceAdd, Int.reducePow, kOf_i, fsOf_i, fOwn_k, fOwn1_k, gFld_k, methO_e, methK_s, methA_s, ownK_s, ownK_n, ownK_m, own1K_s, own1K_n, fldK_s, sApp_e, appK_s, sOSub_e, osubK_s, eOIx_e, oixK_s, eOLen_e, olenK_s, ixN_p, Int.reduceToNat, Nat.reduceLT, oS_e, eSl_e, eSlT_e, kSet_e, kSet2_e, kDrop_e, kIf_t, kIf_f, kOwn_e, kApp_e, kOsub1_e, kOsub2_e, osK_s, kOix_e, ixK_s, kFor_e, kUnp_e, unpK_s, kOp1_e, kOp2_e, kUn_e, kC1_e, kC2_e, kA1_e, kA2_e, kFN_e, kCall_e, kMake_e, kCM_e, kMeth_e, kLst_e, lstK_s, kTup_e, tupK_s, kNl_e, nlK_s, nList_e, kNli_e, nliK_s, lOf_l, lOf_t, kNc1_e, kNc2_e, kLc1_e, kLc2_e, kSeq_e, kTpl_e, kEIf_t, kEIf_f, kEAnd_t, kEAnd_f, kEOr_t, kEOr_f, kENot_e, kB_e, kBAnd_t, kBAnd_f, kBOr_t, kBOr_f, kBNot_e, kOS_e, kSl1_e, kSl2_e, kSl3_e, kSt1_e, kSt2_e, kSt3_e, eMeth_e, kMe_e, lc_c, kL1_e, kL2_e, kT_t, kT_f, Int.cast_ofNat_Int, Int.natCast_zero, Int.natCast_one, lRng1_e, kRng_1, kRng_2, kRng_3, kRng_4, kRng_5, kRng_6, List.length_map, arS_0, sEr_e, sTryAs_e, tryK_nx, tryK_rt, tryK_er, afterO_rt, afterO_nx, eXf_e, xfS_s, xfK_s, plain_n, plain_e, List.all_cons, List.all_nil, eq_self, sTryN_e, tryN_nx, tryN_rt, tryN_h, tryN_t, dflI_e, dflF_e, not_false_eq_true, eMethK_e, kMK_e, kMK2_e, eProp_e, kPr_e, eNotO_e, kNotO_e, notK_s, eSlA_e, kSA1_e, kSA2_e, kSA3_l, kSA3_t, eGetO_e, kGet1_e, kGet2_e, getK_s, bL, d1, a0, l1, l2, d2, li, ke]
      | true => rw [d3] at li; rw [if_neg (by decide)]; simp -implicitDefEqProofs only [bind_ok, bind_er, bindN_ok, ofE_ok, ofE_er, seqO_nx, seqO_rt, seqO_er, seqO_bk, seqO_ct, loopO_nx, loopO_ct, loopO_bk, loopO_rt, loopO_er, lift_s, retO_rt, retO_nx, retO_er, mkO_ok, mkO_er, toOpt_ok, eVar_z, eVar_s, oL_z, oL_s, frz_z, frz_s, wipe_n, wipe_c, datas_n, datas_c, map_s, bind_s, setA_n, setA_c, p2_d, p1_d, pN_d, fEq_i, fEq_s, fEq_b, fEq_ii, fNe_i, fNe_s, fNe_b, fSub_i, fAdd_i, fAnd_i, fOr_i, fXor_i, fLt_i, fLe_i, fGt_i, fGe_i, fIs_d, fIsNot_d, fIsB_b, isB_b, tru_b, tru_i, tru_l, tru_t, orE_s, orE_n, alt2_e, alt1_e, altN_e, fIx_l, fIx_t, at_0, at_1, at_2, at_3, at_4, at_5, for_n, for_c, lc_n, len_lst, len_tup, kfn_c, kix_c, sSeq_e, sNil_e, sSet_e, sSet2_e, sRet_e, sRetN_e, sDrop_e, sIf_e, sBk_e, sCt_e, sFrz_e, sOwn_e, sFor_e, sUnp_e, eC_e, eOp_e, eUn_e, aNil_e, aCons_e, aApp_e, eFN_e, eCall_e, eMake_e, eCMeth_e, eCallO_e, eLst_e, eTup_e, nLst_e, nLc_e, eLc_e, lSeq_e, lTup_e, eIf_e, eAnd_e, eOr_e, eNot_e, bOf_e, bAnd_e, bOr_e, bNot_e, eFld_e, runB_e, env0_e, oN_e, List.set_cons_zero, List.set_cons_succ, List.map_cons, List.map_nil, List.cons_append, List.nil_append, List.replicate_succ, List.replicate_zero, List.length_cons, List.length_nil, List.getElem?_cons_zero, List.getElem?_cons_succ, reduceIte, if_true, if_false, Bool.false_eq_true, arN_t, decide_true, decide_false, isNon, Bool.not_true, Bool.not_false, Bool.true_and, Bool.false_and, Bool.and_true, Bool.and_false, bYes_e, lstMax_e, Nat.reduceAdd, Nat.reduceSub, Nat.reduceLeDiff, Int.reduceLT, Int.reduceLE, Int.reduceEq, String.reduceEq, and_self, decide_eq_true_eq, and_true, true_and, cPos_e, cDiv_e, fMod_i, fDiv_i, Int.reduceMod, Int.reduceDiv, Int.reduceSub, Int.reduceAdd, Int.reducePow, kOf_i, fsOf_i, fOwn_k, fOwn1_k, gFld_k, methO_e, methK_s, methA_s, ownK_s, ownK_n, ownK_m, own1K_s, own1K_n, fldK_s, sApp_e, appK_s, sOSub_e, osubK_s, eOIx_e, oixK_s, eOLen_e, olenK_s, ixN_p, Int.reduceToNat, Nat.reduceLT, oS_e, eSl_e, eSlT_e, kSet_e, kSet2_e, kDrop_e, kIf_t, kIf_f, kOwn_e, kApp_e, kOsub1_e, kOsub2_e, osK_s, kOix_e, ixK_s, kFor_e, kUnp_e, unpK_s, kOp1_e, kOp2_e, kUn_e, kC1_e, kC2_e, kA1_e, kA2_e, kFN_e, kCall_e, kMake_e, kCM_e, kMeth_e, kLst_e, lstK_s, kTup_e, tupK_s, kNl_e, nlK_s, nList_e, kNli_e, nliK_s, lOf_l, lOf_t, kNc1_e, kNc2_e, kLc1_e, kLc2_e, kSeq_e, kTpl_e, kEIf_t, kEIf_f, kEAnd_t, kEAnd_f, kEOr_t, kEOr_f, kENot_e, kB_e, kBAnd_t, kBAnd_f, kBOr_t, kBOr_f, kBNot_e, kOS_e, kSl1_e, kSl2_e, kSl3_e, kSt1_e, kSt2_e, kSt3_e, eMeth_e, kMe_e, lc_c, kL1_e, kL2_e, kT_t, kT_f, Int.cast_ofNat_Int, Int.natCast_zero, Int.natCast_one, lRng1_e, kRng_1, kRng_2, kRng_3, kRng_4, kRng_5, kRng_6, List.length_map, arS_0, sEr_e, sTryAs_e, tryK_nx, tryK_rt, tryK_er, afterO_rt, afterO_nx, eXf_e, xfS_s, xfK_s, plain_n, plain_e, List.all_cons, List.all_nil, eq_self, sTryN_e, tryN_nx, tryN_rt, tryN_h, tryN_t, dflI_e, dflF_e, not_false_eq_true, eMethK_e, kMK_e, kMK2_e, eProp_e, kPr_e, eNotO_e, kNotO_e, notK_s, eSlA_e, kSA1_e, kSA2_e, kSA3_l, kSA3_t, eGetO_e, kGet1_e, kGet2_e, getK_s, bL, d1, a0, l1, l2, d2, li]
theorem loop_gen {w : Nat} {L : List (List Nat)} (ln : Ln L) (h0 : ∃ l, l.length = w ∧ L2.atI (L.map txD) 0 = some (.str (tx l))) (hw : w ≤ 100) (o : Sl) (G : GS) : ∀ (xs : List (List Nat)) (k : Nat) (s2 s3 : Sl) (j : Nat), (∀ l ∈ xs, l ∈ L) → k + xs.length ≤ 1000 → badF w k xs = some j → ∃ env', forT [2, 3] bL (enumL k (xs.map txD)) [o, .ev (.d (.tup (L.map txD))), s2, s3] G = .er "InvalidShape" [.int (j : Nat)] env' G
  | [], k, s2, s3, j, _, _, h => nomatch h
  | l :: xs, k, s2, s3, j, hm, hk, h => by
    rw [List.length_cons] at hk
    have u : unpE [2, 3] (.tup [.int (k : Nat), txD l]) [o, .ev (.d (.tup (L.map txD))), s2, s3] = some [o, .ev (.d (.tup (L.map txD))), .ev (.d (.int (k : Nat))), .ev (.d (.str (tx l)))] := rfl
    have b := bL_gen (k := k) ln h0 (hm l List.mem_cons_self) hw (by omega) o G
    rw [List.map_cons]
    unfold badF at h
    split at h
    · rename_i hb
      cases h
      rw [if_pos hb] at b
      refine ⟨[o, .ev (.d (.tup (L.map txD))), .ev (.d (.int (k : Nat))), .ev (.d (.str (tx l)))], ?_⟩
      show forT [2, 3] bL (.tup [.int (k : Nat), txD l] :: enumL (k + 1) (xs.map txD)) _ _ = _
      rw [forT_some u, b, loopO_er]
    · rename_i hb
      rw [if_neg hb] at b
      obtain ⟨env', e⟩ := loop_gen ln h0 hw o G xs (k + 1) (.ev (.d (.int (k : Nat)))) (.ev (.d (.str (tx l)))) j (fun x hx => hm x (.tail _ hx)) (by omega) h
      refine ⟨env', ?_⟩
      show forT [2, 3] bL (.tup [.int (k : Nat), txD l] :: enumL (k + 1) (xs.map txD)) _ _ = _
      rw [forT_some u, b, loopO_nx, e]
theorem init_er {L : List (List Nat)} (ln : Ln L) {j : Nat} (h : badO L = some j) (G : GS) : g_Shape___init__ (L.map fun l => .d (txD l)) G = .er "InvalidShape" [.int (j : Nat)] G := by
  have hl := ln.hl
  have st : g_Shape___init__ (L.map fun l => .d (txD l)) G = retI "Shape" (m_Shape___init__ [.own (.ins "Shape" []), .ev (.d (.tup (L.map txD))), .no, .no] G) := by
    show starI 0 (runI 4 "Shape" m_Shape___init__) (L.map fun l => .d (txD l)) G = _
    unfold starI starA
    rw [List.drop_zero, datas_tx]
    show (match (if (L.map txD).length ≤ 1000 then some (List.take 0 (L.map fun l => EV.d (txD l)) ++ [EV.d (.tup (L.map txD))]) else none) with | some es' => runI 4 "Shape" m_Shape___init__ es' G | none => .st) = _
    rw [if_pos (by rw [List.length_map]; omega), List.take_zero]
    rfl
  rw [st]
  cases L with
  | nil =>
    cases h
    kernel_rfl
  | cons l r =>
    obtain ⟨env', e⟩ := loop_gen (w := l.length) ln ⟨l, rfl, at0_c _ _⟩ (ln.hw l List.mem_cons_self) (.own (.ins "Shape" [])) G (l :: r) 0 .no .no j (fun _ h => h) (by omega) h
    have b : sForT [2, 3] (lEnumT (aCons (eVar 1) (aNil))) bL [.own (.ins "Shape" []), .ev (.d (.tup ((l :: r).map txD))), .no, .no] G = .er "InvalidShape" [.int (j : Nat)] env' G := e
    have a : sIf (bNot (bOf truE (eVar 1))) (sEr "InvalidShape" okI (eC (.int 0))) sNil [.own (.ins "Shape" []), .ev (.d (.tup ((l :: r).map txD))), .no, .no] G = .nx [.own (.ins "Shape" []), .ev (.d (.tup ((l :: r).map txD))), .no, .no] G := rfl
    show retI "Shape" (sSeq (sIf (bNot (bOf truE (eVar 1))) (sEr "InvalidShape" okI (eC (.int 0))) sNil) (sSeq (sForT [2, 3] (lEnumT (aCons (eVar 1) (aNil))) bL) _) [.own (.ins "Shape" []), .ev (.d (.tup ((l :: r).map txD))), .no, .no] G) = _
    rw [sqn a, sq_er b]
    rfl
/-! ### the law's own reading of it -/
theorem tx1_inj (c d : Nat) : decide (tx [c] = tx [d]) = decide (c = d) := by
  refine decide_eq_decide.mpr ⟨fun h => ?_, fun h => by rw [h]⟩
  have := congrArg (fun s : Str => s.cps.toList) h
  simp only [tx_list] at this
  exact (List.cons.inj this).1
theorem beq_s (a b : Str) : (a == b) = decide (a = b) := by
  by_cases h : a = b
  · rw [decide_eq_true h, h, beq_self_eq_true]
  · rw [decide_eq_false h]; exact beq_eq_false_iff_ne.mpr h
def f1 (c : Nat) : DL.D := .str (tx [c])
theorem chD_tx (l : List Nat) : chD (tx l) = l.map f1 := by
  unfold chD
  rw [tx_list]
  rfl
theorem nin_sg (c : Nat) (G : GS) : fNotInS (.d (f1 c)) (.d (.lst [.str ".", .str "#"])) G = some (.d (.bl (!sgB c)), G) := by
  show some (EV.d (.bl ((tx [46] == tx [c] || (tx [35] == tx [c] || false)) != true)), G) = _
  rw [beq_s, beq_s, tx1_inj, tx1_inj, Bool.or_false]
  have e1 : decide (46 = c) = decide (c = 46) := decide_eq_decide.mpr ⟨Eq.symm, Eq.symm⟩
  have e2 : decide (35 = c) = decide (c = 35) := decide_eq_decide.mpr ⟨Eq.symm, Eq.symm⟩
  unfold sgB
  rw [e1, e2]
  cases decide (c = 46) <;> cases decide (c = 35) <;> rfl
theorem odd_ok (l : List Nat) (hl : l.length ≤ 100) (s0 s1 : Sl) (G : GS) : eLc 3 [3] (lStr (eVar 2)) (bOf isB (eOp (fNotInS) (eVar 3) (eLst (aCons (eC (.str ".")) (aCons (eC (.str "#")) (aNil)))))) (eVar 3) [s0, s1, .ev (.d (.str (tx l))), .no] G = .ok (.d (.lst ((l.filter fun c => !sgB c).map f1))) G := by
  refine elc_of (ds := l.map f1) (by rw [← chD_tx]; rfl) (lc_filt (f := f1) (g := f1) (p := fun c => !sgB c) l (fun c _ => ?_) fun c _ _ => rfl) (by rw [List.length_map]; have := List.length_filter_le (fun c => !sgB c) l; omega)
  have n := nin_sg c G
  simp -implicitDefEqProofs only [bind_ok, bind_er, bindN_ok, ofE_ok, ofE_er, seqO_nx, seqO_rt, seqO_er, seqO_bk, seqO_ct, loopO_nx, loopO_ct, loopO_bk, loopO_rt, loopO_er, lift_s, retO_rt, retO_nx, retO_er, mkO_ok, mkO_er, toOpt_ok, eVar_z, eVar_s, oL_z, oL_s, frz_z, frz_s, wipe_n, wipe_c, datas_n, datas_c, map_s, bind_s, setA_n, setA_c, p2_d, p1_d, pN_d, fEq_i, fEq_s, fEq_b, fEq_ii, fNe_i, fNe_s, fNe_b, fSub_i, fAdd_i, fAnd_i, fOr_i, fXor_i, fLt_i, fLe_i, fGt_i, fGe_i, fIs_d, fIsNot_d, fIsB_b, isB_b, tru_b, tru_i, tru_l, tru_t, orE_s, orE_n, alt2_e, alt1_e, altN_e, fIx_l, fIx_t, at_0, at_1, at_2, at_3, at_4, at_5, for_n, for_c, lc_n, len_lst, len_tup, kfn_c, kix_c, sSeq_e, sNil_e, sSet_e, sSet2_e, sRet_e, sRetN_e, sDrop_e, sIf_e, sBk_e, sCt_e, sFrz_e, sOwn_e, sFor_e, sUnp_e, eC_e, eOp_e, eUn_e, aNil_e, aCons_e, aApp_e, eFN_e, eCall_e, eMake_e, eCMeth_e, eCallO_e, eLst_e, eTup_e, nLst_e, nLc_e, eLc_e, lSeq_e, lTup_e, eIf_e, eAnd_e, eOr_e, eNot_e, bOf_e, bAnd_e, bOr_e, bNot_e, eFld_e, runB_e, env0_e, oN_e, List.set_cons_zero, List.set_cons_succ, List.map_cons, List.map_nil, List.cons_append, List.nil_append, List.replicate_succ, List.replicate_zero, List.length_cons, List.length_nil, List.getElem?_cons_zero, List.getElem?_cons_succ, reduceIte, if_true, if_false, Bool.false_eq_true, arN_t, decide_true, decide_false, isNon, Bool.not_true, Bool.not_false, Bool.true_and, Bool.false_and, Bool.and_true, Bool.and_false, bYes_e, lstMax_e, Nat.reduceAdd, Nat.reduceSub, Nat.reduceLeDiff, Int.reduceLT, Int.reduceLE, Int.reduceEq, String.reduceEq, and_self, decide_eq_true_eq, and_true, true_and, cPos_e, cDiv_e, fMod_i, fDiv_i, Int.reduceMod, Int.reduceDiv, Int.reduceSub, Int.reduceAdd, Int.reducePow, kOf_i, fsOf_i, fOwn_k, fOwn1_k, gFld_k, methO_e, methK_s, methA_s, ownK_s, ownK_n, ownK_m, own1K_s, own1K_n, fldK_s, sApp_e, appK_s, sOSub_e, osubK_s, eOIx_e, oixK_s, eOLen_e, olenK_s, ixN_p, Int.reduceToNat, Nat.reduceLT, oS_e, eSl_e, eSlT_e, kSet_e, kSet2_e, kDrop_e, kIf_t, kIf_f, kOwn_e, kApp_e, kOsub1_e, kOsub2_e, osK_s, kOix_e, ixK_s, kFor_e, kUnp_e, unpK_s, kOp1_e, kOp2_e, kUn_e, kC1_e, kC2_e, kA1_e, kA2_e, kFN_e, kCall_e, kMake_e, kCM_e, kMeth_e, kLst_e, lstK_s, kTup_e, tupK_s, kNl_e, nlK_s, nList_e, kNli_e, nliK_s, lOf_l, lOf_t, kNc1_e, kNc2_e, kLc1_e, kLc2_e, kSeq_e, kTpl_e, kEIf_t, kEIf_f, kEAnd_t, kEAnd_f, kEOr_t, kEOr_f, kENot_e, kB_e, kBAnd_t, kBAnd_f, kBOr_t, kBOr_f, kBNot_e, kOS_e, kSl1_e, kSl2_e, kSl3_e, kSt1_e, kSt2_e, kSt3_e, eMeth_e, kMe_e, lc_c, kL1_e, kL2_e, kT_t, kT_f, Int.cast_ofNat_Int, Int.natCast_zero, Int.natCast_one, lRng1_e, kRng_1, kRng_2, kRng_3, kRng_4, kRng_5, kRng_6, List.length_map, arS_0, sEr_e, sTryAs_e, tryK_nx, tryK_rt, tryK_er, afterO_rt, afterO_nx, eXf_e, xfS_s, xfK_s, plain_n, plain_e, List.all_cons, List.all_nil, eq_self, sTryN_e, tryN_nx, tryN_rt, tryN_h, tryN_t, dflI_e, dflF_e, not_false_eq_true, eMethK_e, kMK_e, kMK2_e, eProp_e, kPr_e, eNotO_e, kNotO_e, notK_s, eSlA_e, kSA1_e, kSA2_e, kSA3_l, kSA3_t, eGetO_e, kGet1_e, kGet2_e, getK_s, ↓n]
theorem ne_nil (xs : List Nat) (hx : ∀ c ∈ xs, c < 128) (G : GS) : fNe (.d (.lst (xs.map f1))) (.d (.lst [])) G = some (.d (.bl (!xs.isEmpty)), G) := by
  have m : xs.map f1 = (xs.map fun c => tx [c]).map DL.D.str := by rw [List.map_map]; rfl
  have ly : ∀ s ∈ xs.map (fun c => tx [c]), Ly s := fun s hs => by
    obtain ⟨c, hc, rfl⟩ := List.mem_map.mp hs
    have := hx c hc
    show (tx [c]).cps.all (· < 0x110000) = true
    rw [← Array.all_toList, List.all_eq_true]
    intro d hd
    rw [tx_list, List.mem_singleton] at hd
    subst hd
    exact decide_eq_true (by omega)
  have e : gEq (.lst (xs.map f1)) (.lst []) = some xs.isEmpty := by
    rw [m]
    show (match (toPys ((xs.map fun c => tx [c]).map DL.D.str)).map PyData.list, some (PyData.list []) with
      | some x, some y => if (SeqAt.shaped x && SeqAt.shaped y) = true then some (PyData.eqv x y) else none
      | _, _ => none) = _
    rw [toPys_m]
    have s : SeqAt.shaped (PyData.list ((xs.map fun c => tx [c]).map PyData.str)) = true := by
      show ((PyData.list ((xs.map fun c => tx [c]).map PyData.str)).canLay0 && decide (PyData.depthAll ((xs.map fun c => tx [c]).map PyData.str) + 1 ≤ 64)) = true
      rw [lay_m _ ly, dep_m]
      rfl
    show (if (SeqAt.shaped (PyData.list ((xs.map fun c => tx [c]).map PyData.str)) && true) = true then some (PyData.eqvAll ((xs.map fun c => tx [c]).map PyData.str) []) else none) = _
    rw [s]
    cases xs <;> rfl
  show Option.map _ ((gEq (.lst (xs.map f1)) (.lst [])).map fun k => DL.D.bl (!k)) = _
  rw [e]
  rfl
theorem filt_all (l : List Nat) : (l.filter fun c => !sgB c).isEmpty = l.all sgB := by
  induction l with
  | nil => rfl
  | cons c l ih =>
    rw [List.all_cons]
    cases h : sgB c with
    | true => rw [List.filter_cons_of_neg (by rw [h]; decide), ih]; rfl
    | false => rw [List.filter_cons_of_pos (by rw [h]; rfl)]; rfl
@[reducible] def BB : SM := (sSeq (sSet 2 (eOp fIx (eVar 0) (eVar 1))) (sSeq (sIf (bOr (bOf isB (eOp (fLt) (eFN fLen (aCons (eVar 2) (aNil))) (eC (.int 1)))) (bOr (bOf isB (eOp (fGt) (eFN fLen (aCons (eVar 2) (aNil))) (eC (.int 40)))) (bOr (bOf isB (eOp (fNe) (eFN fLen (aCons (eVar 2) (aNil))) (eFN fLen (aCons (eOp fIx (eVar 0) (eC (.int 0))) (aNil))))) (bOf isB (eOp (fGt) (eVar 1) (eC (.int 39))))))) (sRet (eVar 1)) (sNil)) (sIf (bOf isB (eOp (fNe) (eLc 3 [3] (lStr (eVar 2)) (bOf isB (eOp (fNotInS) (eVar 3) (eLst (aCons (eC (.str ".")) (aCons (eC (.str "#")) (aNil)))))) (eVar 3)) (eLst (aNil)))) (sRet (eVar 1)) (sNil))))
theorem BB_ok {v : EV} {t : GS} {L : List (List Nat)} (h : Lv v t L) (ln : Ln L) (hp : 0 < L.length) {k : Nat} (hk : k < L.length) (s2 : Sl) (b : Bx) : BB [.ev v, .ev (.d (.int (k : Nat))), s2, .no] (bT t b) = if bB (L[0]).length k L[k] = true then .rt (.d (.int (k : Nat))) (bT t b) else .nx [.ev v, .ev (.d (.int (k : Nat))), .ev (.d (.str (tx L[k]))), .no] (bT t b) := by
  have i := h.ix b hk
  have i0 := h.ix0 b hp
  have hw := ln.hw _ (List.getElem_mem hk)
  have hw0 := ln.hw _ (List.getElem_mem hp)
  have l1 := len_tx (ws := L[k]) (by omega) (G := bT t b)
  have l2 := len_tx (ws := L[0]) (by omega) (G := bT t b)
  have od := odd_ok L[k] hw (.ev v) (.ev (.d (.int (k : Nat)))) (bT t b)
  have nn := ne_nil (L[k].filter fun c => !sgB c) (fun c hc => ln.hc _ (List.getElem_mem hk) c (List.mem_filter.mp hc).1) (bT t b)
  rw [filt_all] at nn
  unfold bB
  have e1 : decide (L[k].length < 1) = decide ((L[k].length : Int) < 1) := decide_eq_decide.mpr ⟨fun h => by omega, fun h => by omega⟩
  have e2 : decide (40 < L[k].length) = decide ((40 : Int) < L[k].length) := decide_eq_decide.mpr ⟨fun h => by omega, fun h => by omega⟩
  have e3 : decide (L[k].length = L[0].length) = decide ((L[k].length : Int) = L[0].length) := decide_eq_decide.mpr ⟨fun h => by omega, fun h => by omega⟩
  have e4 : decide (39 < k) = decide ((39 : Int) < k) := decide_eq_decide.mpr ⟨fun h => by omega, fun h => by omega⟩
  rw [e1, e2, e3, e4]
  cases d1 : decide ((L[k].length : Int) < 1) with
  | true => rw [if_pos (by rfl)]; simp -implicitDefEqProofs only [bind_ok, bind_er, bindN_ok, ofE_ok, ofE_er, seqO_nx, seqO_rt, seqO_er, seqO_bk, seqO_ct, loopO_nx, loopO_ct, loopO_bk, loopO_rt, loopO_er, lift_s, retO_rt, retO_nx, retO_er, mkO_ok, mkO_er, toOpt_ok, eVar_z, eVar_s, oL_z, oL_s, frz_z, frz_s, wipe_n, wipe_c, datas_n, datas_c, map_s, bind_s, setA_n, setA_c, p2_d, p1_d, pN_d, fEq_i, fEq_s, fEq_b, fEq_ii, fNe_i, fNe_s, fNe_b, fSub_i, fAdd_i, fAnd_i, fOr_i, fXor_i, fLt_i, fLe_i, fGt_i, fGe_i, fIs_d, fIsNot_d, fIsB_b, isB_b, tru_b, tru_i, tru_l, tru_t, orE_s, orE_n, alt2_e, alt1_e, altN_e, fIx_l, fIx_t, at_0, at_1, at_2, at_3, at_4, at_5, for_n, for_c, lc_n, len_lst, len_tup, kfn_c, kix_c, sSeq_e, sNil_e, sSet_e, sSet2_e, sRet_e, sRetN_e, sDrop_e, sIf_e, sBk_e, sCt_e, sFrz_e, sOwn_e, sFor_e, sUnp_e, eC_e, eOp_e, eUn_e, aNil_e, aCons_e, aApp_e, eFN_e, eCall_e, eMake_e, eCMeth_e, eCallO_e, eLst_e, eTup_e, nLst_e, nLc_e, eLc_e, lSeq_e, lTup_e, eIf_e, eAnd_e, eOr_e, eNot_e, bOf_e, bAnd_e, bOr_e, bNot_e, eFld_e, runB_e, env0_e, oN_e, List.set_cons_zero, List.set_cons_succ, List.map_cons, List.map_nil, List.cons_append, List.nil_append, List.replicate_succ, List.replicate_zero, List.length_cons, List.length_nil, List.getElem?_cons_zero, List.getElem?_cons_succ, reduceIte, if_true, if_false, Bool.false_eq_true, arN_t, decide_true, decide_false, isNon, Bool.not_true, Bool.not_false, Bool.true_and, Bool.false_and, Bool.and_true, Bool.and_false, bYes_e, lstMax_e, Nat.reduceAdd, Nat.reduceSub, Nat.reduceLeDiff, Int.reduceLT, Int.reduceLE, Int.reduceEq, String.reduceEq, and_self, decide_eq_true_eq, and_true, true_and, cPos_e, cDiv_e, fMod_i, fDiv_i, Int.reduceMod, Int.reduceDiv, Int.reduceSub, Int.reduceAdd, Int.reducePow, kOf_i, fsOf_i, fOwn_k, fOwn1_k, gFld_k, methO_e, methK_s, methA_s, ownK_s, ownK_n, ownK_m, own1K_s, own1K_n, fldK_s, sApp_e, appK_s, sOSub_e, osubK_s, eOIx_e, oixK_s, eOLen_e, olenK_s, ixN_p, Int.reduceToNat, Nat.reduceLT, oS_e, eSl_e, eSlT_e, kSet_e, kSet2_e, kDrop_e, kIf_t, kIf_f, kOwn_e, kApp_e, kOsub1_e, kOsub2_e, osK_s, kOix_e, ixK_s, kFor_e, kUnp_e, unpK_s, kOp1_e, kOp2_e, kUn_e, kC1_e, kC2_e, kA1_e, kA2_e, kFN_e, kCall_e, kMake_e, kCM_e, kMeth_e, kLst_e, lstK_s, kTup_e, tupK_s, kNl_e, nlK_s, nList_e, kNli_e, nliK_s, lOf_l, lOf_t, kNc1_e, kNc2_e, kLc1_e, kLc2_e, kSeq_e, kTpl_e, kEIf_t, kEIf_f, kEAnd_t, kEAnd_f, kEOr_t, kEOr_f, kENot_e, kB_e, kBAnd_t, kBAnd_f, kBOr_t, kBOr_f, kBNot_e, kOS_e, kSl1_e, kSl2_e, kSl3_e, kSt1_e, kSt2_e, kSt3_e, eMeth_e, kMe_e, lc_c, kL1_e, kL2_e, kT_t, kT_f, Int.cast_ofNat_Int, Int.natCast_zero, Int.natCast_one, lRng1_e, kRng_1, kRng_2, kRng_3, kRng_4, kRng_5, kRng_6, List.length_map, arS_0, sEr_e, sTryAs_e, tryK_nx, tryK_rt, tryK_er, afterO_rt, afterO_nx, eXf_e, xfS_s, xfK_s, plain_n, plain_e, List.all_cons, List.all_nil, eq_self, sTryN_e, tryN_nx, tryN_rt, tryN_h, tryN_t, dflI_e, dflF_e, not_false_eq_true, eMethK_e, kMK_e, kMK2_e, eProp_e, kPr_e, eNotO_e, kNotO_e, notK_s, eSlA_e, kSA1_e, kSA2_e, kSA3_l, kSA3_t, eGetO_e, kGet1_e, kGet2_e, getK_s, BB, i, i0, l1, l2, d1]
  | false =>
    cases d2 : decide ((40 : Int) < L[k].length) with
    | true => rw [if_pos (by rfl)]; simp -implicitDefEqProofs only [bind_ok, bind_er, bindN_ok, ofE_ok, ofE_er, seqO_nx, seqO_rt, seqO_er, seqO_bk, seqO_ct, loopO_nx, loopO_ct, loopO_bk, loopO_rt, loopO_er, lift_s, retO_rt, retO_nx, retO_er, mkO_ok, mkO_er, toOpt_ok, eVar_z, eVar_s, oL_z, oL_s, frz_z, frz_s, wipe_n, wipe_c, datas_n, datas_c, map_s, bind_s, setA_n, setA_c, p2_d, p1_d, pN_d, fEq_i, fEq_s, fEq_b, fEq_ii, fNe_i, fNe_s, fNe_b, fSub_i, fAdd_i, fAnd_i, fOr_i, fXor_i, fLt_i, fLe_i, fGt_i, fGe_i, fIs_d, fIsNot_d, fIsB_b, isB_b, tru_b, tru_i, tru_l, tru_t, orE_s, orE_n, alt2_e, alt1_e, altN_e, fIx_l, fIx_t, at_0, at_1, at_2, at_3, at_4, at_5, for_n, for_c, lc_n, len_lst, len_tup, kfn_c, kix_c, sSeq_e, sNil_e, sSet_e, sSet2_e, sRet_e, sRetN_e, sDrop_e, sIf_e, sBk_e, sCt_e, sFrz_e, sOwn_e, sFor_e, sUnp_e, eC_e, eOp_e, eUn_e, aNil_e, aCons_e, aApp_e, eFN_e, eCall_e, eMake_e, eCMeth_e, eCallO_e, eLst_e, eTup_e, nLst_e, nLc_e, eLc_e, lSeq_e, lTup_e, eIf_e, eAnd_e, eOr_e, eNot_e, bOf_e, bAnd_e, bOr_e, bNot_e, eFld_e, runB_e, env0_e, oN_e, List.set_cons_zero, List.set_cons_succ, List.map_cons, List.map_nil, List.cons_append, List.nil_append, List.replicate_succ, List.replicate_zero, List.length_cons, List.length_nil, List.getElem?_cons_zero, List.getElem?_cons_succ, reduceIte, if_true, if_false, Bool.false_eq_true, arN_t, decide_true, decide_false, isNon, Bool.not_true, Bool.not_false, Bool.true_and, Bool.false_and, Bool.and_true, Bool.and_false, bYes_e, lstMax_e, Nat.reduceAdd, Nat.reduceSub, Nat.reduceLeDiff, Int.reduceLT, Int.reduceLE, Int.reduceEq, String.reduceEq, and_self, decide_eq_true_eq, and_true, true_and, cPos_e, cDiv_e, fMod_i, fDiv_i, Int.reduceMod, Int.reduceDiv, Int.reduceSub, Int.reduceAdd, Int.reducePow, kOf_i, fsOf_i, fOwn_k, fOwn1_k, gFld_k, methO_e, methK_s, methA_s, ownK_s, ownK_n, ownK_m, own1K_s, own1K_n, fldK_s, sApp_e, appK_s, sOSub_e, osubK_s, eOIx_e, oixK_s, eOLen_e, olenK_s, ixN_p, Int.reduceToNat, Nat.reduceLT, oS_e, eSl_e, eSlT_e, kSet_e, kSet2_e, kDrop_e, kIf_t, kIf_f, kOwn_e, kApp_e, kOsub1_e, kOsub2_e, osK_s, kOix_e, ixK_s, kFor_e, kUnp_e, unpK_s, kOp1_e, kOp2_e, kUn_e, kC1_e, kC2_e, kA1_e, kA2_e, kFN_e, kCall_e, kMake_e, kCM_e, kMeth_e, kLst_e, lstK_s, kTup_e, tupK_s, kNl_e, nlK_s, nList_e, kNli_e, nliK_s, lOf_l, lOf_t, kNc1_e, kNc2_e, kLc1_e, kLc2_e, kSeq_e, kTpl_e, kEIf_t, kEIf_f, kEAnd_t, kEAnd_f, kEOr_t, kEOr_f, kENot_e, kB_e, kBAnd_t, kBAnd_f, kBOr_t, kBOr_f, kBNot_e, kOS_e, kSl1_e, kSl2_e, kSl3_e, kSt1_e, kSt2_e, kSt3_e, eMeth_e, kMe_e, lc_c, kL1_e, kL2_e, kT_t, kT_f, Int.cast_ofNat_Int, Int.natCast_zero, Int.natCast_one, lRng1_e, kRng_1, kRng_2, kRng_3, kRng_4, kRng_5, kRng_6, List.length_map, arS_0, sEr_e, sTryAs_e, tryK_nx, tryK_rt, tryK_er, afterO_rt, afterO_nx, eXf_e, xfS_s, xfK_s, plain_n, plain_e, List.all_cons, List.all_nil, eq_self, sTryN_e, tryN_nx, tryN_rt, tryN_h, tryN_t, dflI_e, dflF_e, not_false_eq_true, eMethK_e, kMK_e, kMK2_e, eProp_e, kPr_e, eNotO_e, kNotO_e, notK_s, eSlA_e, kSA1_e, kSA2_e, kSA3_l, kSA3_t, eGetO_e, kGet1_e, kGet2_e, getK_s, BB, i, i0, l1, l2, d1, d2]
    | false =>
      cases d3 : decide ((L[k].length : Int) = L[0].length) with
      | false => rw [if_pos (by rfl)]; simp -implicitDefEqProofs only [bind_ok, bind_er, bindN_ok, ofE_ok, ofE_er, seqO_nx, seqO_rt, seqO_er, seqO_bk, seqO_ct, loopO_nx, loopO_ct, loopO_bk, loopO_rt, loopO_er, lift_s, retO_rt, retO_nx, retO_er, mkO_ok, mkO_er, toOpt_ok, eVar_z, eVar_s, oL_z, oL_s, frz_z, frz_s, wipe_n, wipe_c, datas_n, datas_c, map_s, bind_s, setA_n, setA_c, p2_d, p1_d, pN_d, fEq_i, fEq_s, fEq_b, fEq_ii, fNe_i, fNe_s, fNe_b, fSub_i, fAdd_i, fAnd_i, fOr_i, fXor_i, fLt_i, fLe_i, fGt_i, fGe_i, fIs_d, fIsNot_d, fIsB_b, isB_b, tru_b, tru_i, tru_l, tru_t, orE_s, orE_n, alt2_e, alt1_e, altN_e, fIx_l, fIx_t, at_0, at_1, at_2, at_3, at_4, at_5, for_n, for_c, lc_n, len_lst, len_tup, kfn_c, kix_c, sSeq_e, sNil_e, sSet_e, sSet2_e, sRet_e, sRetN_e, sDrop_e, sIf_e, sBk_e, sCt_e, sFrz_e, sOwn_e, sFor_e, sUnp_e, eC_e, eOp_e, eUn_e, aNil_e, aCons_e, aApp_e, eFN_e, eCall_e, eMake_e, eCMeth_e, eCallO_e, eLst_e, eTup_e, nLst_e, nLc_e, eLc_e, lSeq_e, lTup_e, eIf_e, eAnd_e, eOr_e, eNot_e, bOf_e, bAnd_e, bOr_e, bNot_e, eFld_e, runB_e, env0_e, oN_e, List.set_cons_zero, List.set_cons_succ, List.map_cons, List.map_nil, List.cons_append, List.nil_append, List.replicate_succ, List.replicate_zero, List.length_cons, List.length_nil, List.getElem?_cons_zero, List.getElem?_cons_succ, reduceIte, if_true, if_false, Bool.false_eq_true, arN_t, decide_true, decide_false, isNon, Bool.not_true, Bool.not_false, Bool.true_and, Bool.false_and, Bool.and_true, Bool.and_false, bYes_e, lstMax_e, Nat.reduceAdd, Nat.reduceSub, Nat.reduceLeDiff, Int.reduceLT, Int.reduceLE, Int.reduceEq, String.reduceEq, and_self, decide_eq_true_eq, and_true, true_and, cPos_e, cDiv_e, fMod_i, fDiv_i, Int.reduceMod, Int.reduceDiv, Int.reduceSub, Int.reduceAdd, Int.reducePow, kOf_i, fsOf_i, fOwn_k, fOwn1_k, gFld_k, methO_e, methK_s, methA_s, ownK_s, ownK_n, ownK_m, own1K_s, own1K_n, fldK_s, sApp_e, appK_s, sOSub_e, osubK_s, eOIx_e, oixK_s, eOLen_e, olenK_s, ixN_p, Int.reduceToNat, Nat.reduceLT, oS_e, eSl_e, eSlT_e, kSet_e, kSet2_e, kDrop_e, kIf_t, kIf_f, kOwn_e, kApp_e, kOsub1_e, kOsub2_e, osK_s, kOix_e, ixK_s, kFor_e, kUnp_e, unpK_s, kOp1_e, kOp2_e, kUn_e, kC1_e, kC2_e, kA1_e, kA2_e, kFN_e, kCall_e, kMake_e, kCM_e, kMeth_e, kLst_e, lstK_s, kTup_e, tupK_s, kNl_e, nlK_s, nList_e, kNli_e, nliK_s, lOf_l, lOf_t, kNc1_e, kNc2_e, kLc1_e, kLc2_e, kSeq_e, kTpl_e, kEIf_t, kEIf_f, kEAnd_t, kEAnd_f, kEOr_t, kEOr_f, kENot_e, kB_e, kBAnd_t, kBAnd_f, kBOr_t, kBOr_f, kBNot_e, kOS_e, kSl1_e, kSl2_e, kSl3_e, kSt1_e, kSt2_e, kSt3_e, eMeth_e, kMe_e, lc_c, kL1_e, kL2_e, kT_t, kT_f, Int.cast_ofNat_Int, Int.natCast_zero, Int.natCast_one, lRng1_e, kRng_1, kRng_2, kRng_3, kRng_4, kRng_5, kRng_6, List.length_map, arS_0, sEr_e, sTryAs_e, tryK_nx, tryK_rt, tryK_er, afterO_rt, afterO_nx, eXf_e, xfS_s, xfK_s, plain_n, plain_e, List.all_cons, List.all_nil, eq_self, sTryN_e, tryN_nx, tryN_rt, tryN_h, tryN_t, dflI_e, dflF_e, not_false_eq_true, eMethK_e, kMK_e, kMK2_e, eProp_e, kPr_e, eNotO_e, kNotO_e, notK_s, eSlA_e, kSA1_e, kSA2_e, kSA3_l, kSA3_t, eGetO_e, kGet1_e, kGet2_e, getK_s, BB, i, i0, l1, l2, d1, d2, d3]
      | true =>
        cases d4 : decide ((39 : Int) < k) with
        | true => rw [if_pos (by rfl)]; simp -implicitDefEqProofs only [bind_ok, bind_er, bindN_ok, ofE_ok, ofE_er, seqO_nx, seqO_rt, seqO_er, seqO_bk, seqO_ct, loopO_nx, loopO_ct, loopO_bk, loopO_rt, loopO_er, lift_s, retO_rt, retO_nx, retO_er, mkO_ok, mkO_er, toOpt_ok, eVar_z, eVar_s, oL_z, oL_s, frz_z, frz_s, wipe_n, wipe_c, datas_n, datas_c, map_s, bind_s, setA_n, setA_c, p2_d, p1_d, pN_d, fEq_i, fEq_s, fEq_b, fEq_ii, fNe_i, fNe_s, fNe_b, fSub_i, fAdd_i, fAnd_i, fOr_i, fXor_i, fLt_i, fLe_i, fGt_i, fGe_i, fIs_d, fIsNot_d, fIsB_b, isB_b, tru_b, tru_i, tru_l, tru_t, orE_s, orE_n, alt2_e, alt1_e, altN_e, fIx_l, fIx_t, at_0, at_1, at_2, at_3, at_4, at_5, for_n, for_c, lc_n, len_lst, len_tup, kfn_c, kix_c, sSeq_e, sNil_e, sSet_e, sSet2_e, sRet_e, sRetN_e, sDrop_e, sIf_e, sBk_e, sCt_e, sFrz_e, sOwn_e, sFor_e, sUnp_e, eC_e, eOp_e, eUn_e, aNil_e, aCons_e, aApp_e, eFN_e, eCall_e, eMake_e, eCMeth_e, eCallO_e, eLst_e, eTup_e, nLst_e, nLc_e, eLc_e, lSeq_e, lTup_e, eIf_e, eAnd_e, eOr_e, eNot_e, bOf_e, bAnd_e, bOr_e, bNot_e, eFld_e, runB_e, env0_e, oN_e, List.set_cons_zero, List.set_cons_succ, List.map_cons, List.map_nil, List.cons_append, List.nil_append, List.replicate_succ, List.replicate_zero, List.length_cons, List.length_nil, List.getElem?_cons_zero, List.getElem?_cons_succ, reduceIte, if_true, if_false, Bool.false_eq_true, arN_t, decide_true, decide_false, isNon, Bool.not_true, Bool.not_false, Bool.true_and, Bool.false_and, Bool.and_true, Bool.and_false, bYes_e, lstMax_e, Nat.reduceAdd, Nat.reduceSub, Nat.reduceLeDiff, Int.reduceLT, Int.reduceLE, Int.reduceEq, String.reduceEq, and_self, decide_eq_true_eq, and_true, true_and, cPos_e, cDiv_e, fMod_i, fDiv_i, Int.reduceMod, Int.reduceDiv, Int.reduceSub, Int.reduceAdd, Int.reducePow, kOf_i, fsOf_i, fOwn_k, fOwn1_k, gFld_k, methO_e, methK_s, methA_s, ownK_s, ownK_n, ownK_m, own1K_s, own1K_n, fldK_s, sApp_e, appK_s, sOSub_e, osubK_s, eOIx_e, oixK_s, eOLen_e, olenK_s, ixN_p, Int.reduceToNat, Nat.reduceLT, oS_e, eSl_e, eSlT_e, kSet_e, kSet2_e, kDrop_e, kIf_t, kIf_f, kOwn_e, kApp_e, kOsub1_e, kOsub2_e, osK_s, kOix_e, ixK_s, kFor_e, kUnp_e, unpK_s, kOp1_e, kOp2_e, kUn_e, kC1_e, kC2_e, kA1_e, kA2_e, kFN_e, kCall_e, kMake_e, kCM_e, kMeth_e, kLst_e, lstK_s, kTup_e, tupK_s, kNl_e, nlK_s, nList_e, kNli_e, nliK_s, lOf_l, lOf_t, kNc1_e, kNc2_e, kLc1_e, kLc2_e, kSeq_e, kTpl_e, kEIf_t, kEIf_f, kEAnd_t, kEAnd_f, kEOr_t, kEOr_f, kENot_e, kB_e, kBAnd_t, kBAnd_f, kBOr_t, kBOr_f, kBNot_e, kOS_e, kSl1_e, kSl2_e, kSl3_e, kSt1_e, kSt2_e, kSt3_e, eMeth_e, kMe_e, lc_c, kL1_e, kL2_e, kT_t, kT_f, Int.cast_ofNat_Int, Int.natCast_zero, Int.natCast_one, lRng1_e, kRng_1, kRng_2, kRng_3, kRng_4, kRng_5, kRng_6, List.length_map, arS_0, sEr_e, sTryAs_e, tryK_nx, tryK_rt, tryK_er, afterO_rt, afterO_nx, eXf_e, xfS_s, xfK_s, plain_n, plain_e, List.all_cons, List.all_nil, eq_self, sTryN_e, tryN_nx, tryN_rt, tryN_h, tryN_t, dflI_e, dflF_e, not_false_eq_true, eMethK_e, kMK_e, kMK2_e, eProp_e, kPr_e, eNotO_e, kNotO_e, notK_s, eSlA_e, kSA1_e, kSA2_e, kSA3_l, kSA3_t, eGetO_e, kGet1_e, kGet2_e, getK_s, BB, i, i0, l1, l2, d1, d2, d3, d4]
        | false =>
          cases d5 : L[k].all sgB with
          | false => rw [d5] at nn; rw [if_pos (by rfl)]; simp -implicitDefEqProofs only [bind_ok, bind_er, bindN_ok, ofE_ok, ofE_er, seqO_nx, seqO_rt, seqO_er, seqO_bk, seqO_ct, loopO_nx, loopO_ct, loopO_bk, loopO_rt, loopO_er, lift_s, retO_rt, retO_nx, retO_er, mkO_ok, mkO_er, toOpt_ok, eVar_z, eVar_s, oL_z, oL_s, frz_z, frz_s, wipe_n, wipe_c, datas_n, datas_c, map_s, bind_s, setA_n, setA_c, p2_d, p1_d, pN_d, fEq_i, fEq_s, fEq_b, fEq_ii, fNe_i, fNe_s, fNe_b, fSub_i, fAdd_i, fAnd_i, fOr_i, fXor_i, fLt_i, fLe_i, fGt_i, fGe_i, fIs_d, fIsNot_d, fIsB_b, isB_b, tru_b, tru_i, tru_l, tru_t, orE_s, orE_n, alt2_e, alt1_e, altN_e, fIx_l, fIx_t, at_0, at_1, at_2, at_3, at_4, at_5, for_n, for_c, lc_n, len_lst, len_tup, kfn_c, kix_c, sSeq_e, sNil_e, sSet_e, sSet2_e, sRet_e, sRetN_e, sDrop_e, sIf_e, sBk_e, sCt_e, sFrz_e, sOwn_e, sFor_e, sUnp_e, eC_e, eOp_e, eUn_e, aNil_e, aCons_e, aApp_e, eFN_e, eCall_e, eMake_e, eCMeth_e, eCallO_e, eLst_e, eTup_e, nLst_e, nLc_e, eLc_e, lSeq_e, lTup_e, eIf_e, eAnd_e, eOr_e, eNot_e, bOf_e, bAnd_e, bOr_e, bNot_e, eFld_e, runB_e, env0_e, oN_e, List.set_cons_zero, List.set_cons_succ, List.map_cons, List.map_nil, List.cons_append, List.nil_append, List.replicate_succ, List.replicate_zero, List.length_cons, List.length_nil, List.getElem?_cons_zero, List.getElem?_cons_succ, reduceIte, if_true, if_false, Bool.false_eq_true, arN_t, decide_true, decide_false, isNon, Bool.not_true, Bool.not_false, Bool.true_and, Bool.false_and, Bool.and_true, Bool.and_false, bYes_e, lstMax_e, Nat.reduceAdd, Nat.reduceSub, Nat.reduceLeDiff, Int.reduceLT, Int.reduceLE, Int.reduceEq, String.reduceEq, and_self, decide_eq_true_eq, and_true, true_and, cPos_e, cDiv_e, fMod_i, fDiv_i, Int.reduceMod, Int.reduceDiv, Int.reduceSub, Int.reduceAdd, Int.reducePow, kOf_i, fsOf_i, fOwn_k, fOwn1_k, gFld_k, methO_e, methK_s, methA_s, ownK_s, ownK_n, ownK_m, own1K_s, own1K_n, fldK_s, sApp_e, appK_s, sOSub_e, osubK_s, eOIx_e, oixK_s, eOLen_e, olenK_s, ixN_p, Int.reduceToNat, Nat.reduceLT, oS_e, eSl_e, eSlT_e, kSet_e, kSet2_e, kDrop_e, kIf_t, kIf_f, kOwn_e, kApp_e, kOsub1_e, kOsub2_e, osK_s, kOix_e, ixK_s, kFor_e, kUnp_e, unpK_s, kOp1_e, kOp2_e, kUn_e, kC1_e, kC2_e, kA1_e, kA2_e, kFN_e, kCall_e, kMake_e, kCM_e, kMeth_e, kLst_e, lstK_s, kTup_e, tupK_s, kNl_e, nlK_s, nList_e, kNli_e, nliK_s, lOf_l, lOf_t, kNc1_e, kNc2_e, kLc1_e, kLc2_e, kSeq_e, kTpl_e, kEIf_t, kEIf_f, kEAnd_t, kEAnd_f, kEOr_t, kEOr_f, kENot_e, kB_e, kBAnd_t, kBAnd_f, kBOr_t, kBOr_f, kBNot_e, kOS_e, kSl1_e, kSl2_e, kSl3_e, kSt1_e, kSt2_e, kSt3_e, eMeth_e, kMe_e, lc_c, kL1_e, kL2_e, kT_t, kT_f, Int.cast_ofNat_Int, Int.natCast_zero, Int.natCast_one, lRng1_e, kRng_1, kRng_2, kRng_3, kRng_4, kRng_5, kRng_6, List.length_map, arS_0, sEr_e, sTryAs_e, tryK_nx, tryK_rt, tryK_er, afterO_rt, afterO_nx, eXf_e, xfS_s, xfK_s, plain_n, plain_e, List.all_cons, List.all_nil, eq_self, sTryN_e, tryN_nx, tryN_rt, tryN_h, tryN_t, dflI_e, dflF_e, not_false_eq_true, eMethK_e, kMK_e, kMK2_e, eProp_e, kPr_e, eNotO_e, kNotO_e, notK_s, eSlA_e, kSA1_e, kSA2_e, kSA3_l, kSA3_t, eGetO_e, kGet1_e, kGet2_e, getK_s, BB, i, i0, l1, l2, d1, d2, d3, d4, ↓od, ↓nn]
          | true => rw [d5] at nn; rw [if_neg (by decide)]; simp -implicitDefEqProofs only [bind_ok, bind_er, bindN_ok, ofE_ok, ofE_er, seqO_nx, seqO_rt, seqO_er, seqO_bk, seqO_ct, loopO_nx, loopO_ct, loopO_bk, loopO_rt, loopO_er, lift_s, retO_rt, retO_nx, retO_er, mkO_ok, mkO_er, toOpt_ok, eVar_z, eVar_s, oL_z, oL_s, frz_z, frz_s, wipe_n, wipe_c, datas_n, datas_c, map_s, bind_s, setA_n, setA_c, p2_d, p1_d, pN_d, fEq_i, fEq_s, fEq_b, fEq_ii, fNe_i, fNe_s, fNe_b, fSub_i, fAdd_i, fAnd_i, fOr_i, fXor_i, fLt_i, fLe_i, fGt_i, fGe_i, fIs_d, fIsNot_d, fIsB_b, isB_b, tru_b, tru_i, tru_l, tru_t, orE_s, orE_n, alt2_e, alt1_e, altN_e, fIx_l, fIx_t, at_0, at_1, at_2, at_3, at_4, at_5, for_n, for_c, lc_n, len_lst, len_tup, kfn_c, kix_c, sSeq_e, sNil_e, sSet_e, sSet2_e, sRet_e, sRetN_e, sDrop_e, sIf_e, sBk_e, sCt_e, sFrz_e, sOwn_e, sFor_e, sUnp_e, eC_e, eOp_e, eUn_e, aNil_e, aCons_e, aApp_e, eFN_e, eCall_e, eMake_e, eCMeth_e, eCallO_e, eLst_e, eTup_e, nLst_e, nLc_e, eLc_e, lSeq_e, lTup_e, eIf_e, eAnd_e, eOr_e, eNot_e, bOf_e, bAnd_e, bOr_e, bNot_e, eFld_e, runB_e, env0_e, oN_e, List.set_cons_zero, List.set_cons_succ, List.map_cons, List.map_nil, List.cons_append, List.nil_append, List.replicate_succ, List.replicate_zero, List.length_cons, List.length_nil, List.getElem?_cons_zero, List.getElem?_cons_succ, reduceIte, if_true, if_false, Bool.false_eq_true, arN_t, decide_true, decide_false, isNon, Bool.not_true, Bool.not_false, Bool.true_and, Bool.false_and, Bool.and_true, Bool.and_false, bYes_e, lstMax_e, Nat.reduceAdd, Nat.reduceSub, Nat.reduceLeDiff, Int.reduceLT, Int.reduceLE, Int.reduceEq, String.reduceEq, and_self, decide_eq_true_eq, and_true, true_and, cPos_e, cDiv_e, fMod_i, fDiv_i, Int.reduceMod, Int.reduceDiv, Int.reduceSub, Int.reduceAdd, Int.reducePow, kOf_i, fsOf_i, fOwn_k, fOwn1_k, gFld_k, methO_e, methK_s, methA_s, ownK_s, ownK_n, ownK_m, own1K_s, own1K_n, fldK_s, sApp_e, appK_s, sOSub_e, osubK_s, eOIx_e, oixK_s, eOLen_e, olenK_s, ixN_p, Int.reduceToNat, Nat.reduceLT, oS_e, eSl_e, eSlT_e, kSet_e, kSet2_e, kDrop_e, kIf_t, kIf_f, kOwn_e, kApp_e, kOsub1_e, kOsub2_e, osK_s, kOix_e, ixK_s, kFor_e, kUnp_e, unpK_s, kOp1_e, kOp2_e, kUn_e, kC1_e, kC2_e, kA1_e, kA2_e, kFN_e, kCall_e, kMake_e, kCM_e, kMeth_e, kLst_e, lstK_s, kTup_e, tupK_s, kNl_e, nlK_s, nList_e, kNli_e, nliK_s, lOf_l, lOf_t, kNc1_e, kNc2_e, kLc1_e, kLc2_e, kSeq_e, kTpl_e, kEIf_t, kEIf_f, kEAnd_t, kEAnd_f, kEOr_t, kEOr_f, kENot_e, kB_e, kBAnd_t, kBAnd_f, kBOr_t, kBOr_f, kBNot_e, kOS_e, kSl1_e, kSl2_e, kSl3_e, kSt1_e, kSt2_e, kSt3_e, eMeth_e, kMe_e, lc_c, kL1_e, kL2_e, kT_t, kT_f, Int.cast_ofNat_Int, Int.natCast_zero, Int.natCast_one, lRng1_e, kRng_1, kRng_2, kRng_3, kRng_4, kRng_5, kRng_6, List.length_map, arS_0, sEr_e, sTryAs_e, tryK_nx, tryK_rt, tryK_er, afterO_rt, afterO_nx, eXf_e, xfS_s, xfK_s, plain_n, plain_e, List.all_cons, List.all_nil, eq_self, sTryN_e, tryN_nx, tryN_rt, tryN_h, tryN_t, dflI_e, dflF_e, not_false_eq_true, eMethK_e, kMK_e, kMK2_e, eProp_e, kPr_e, eNotO_e, kNotO_e, notK_s, eSlA_e, kSA1_e, kSA2_e, kSA3_l, kSA3_t, eGetO_e, kGet1_e, kGet2_e, getK_s, BB, i, i0, l1, l2, d1, d2, d3, d4, ↓od, ↓nn]
theorem BL_ok {v : EV} {t : GS} {L : List (List Nat)} (h : Lv v t L) (ln : Ln L) (hp : 0 < L.length) (b : Bx) : ∀ (r : List (List Nat)) (k : Nat) (s1 s2 : Sl), (∀ i, L[k + i]? = r[i]?) →
    match badF (L[0]).length k r with
    | none => ∃ s1' s2', forL 1 BB ((List.range' k r.length).map fun i : Nat => DL.D.int (i : Nat)) [.ev v, s1, s2, .no] (bT t b) = .nx [.ev v, s1', s2', .no] (bT t b)
    | some j => forL 1 BB ((List.range' k r.length).map fun i : Nat => DL.D.int (i : Nat)) [.ev v, s1, s2, .no] (bT t b) = .rt (.d (.int (j : Nat))) (bT t b)
  | [], k, s1, s2, _ => ⟨s1, s2, rfl⟩
  | l :: r, k, s1, s2, hr => by
    have h0 : L[k]? = some l := by have := hr 0; simpa using this
    have hk : k < L.length := (List.getElem?_eq_some_iff.mp h0).1
    have el : L[k] = l := (List.getElem?_eq_some_iff.mp h0).2
    have bb := BB_ok h ln hp hk s2 b
    rw [el] at bb
    have ih := BL_ok h ln hp b r (k + 1) (.ev (.d (.int (k : Nat)))) (.ev (.d (.str (tx l)))) fun i => by
      have := hr (i + 1)
      rw [List.getElem?_cons_succ] at this
      rw [← this]
      congr 1
      omega
    have st : forL 1 BB ((List.range' k (l :: r).length).map fun i : Nat => DL.D.int (i : Nat)) [.ev v, s1, s2, .no] (bT t b) = loopO (BB [.ev v, .ev (.d (.int (k : Nat))), s2, .no] (bT t b)) (forL 1 BB ((List.range' (k + 1) r.length).map fun i : Nat => DL.D.int (i : Nat))) := by
      rw [List.length_cons, List.range'_succ, List.map_cons, for_c]
      rfl
    unfold badF
    cases hb : bB (L[0]).length k l with
    | true =>
      rw [hb, if_pos rfl] at bb
      rw [if_pos rfl]
      show forL 1 BB _ _ _ = _
      rw [st, bb, loopO_rt]
    | false =>
      rw [hb, if_neg (by decide)] at bb
      rw [if_neg (by decide), st, bb, loopO_nx]
      exact ih
def badZ (o : Option Nat) : Int := match o with | none => -1 | some k => (k : Nat)
theorem bad_ok {v : EV} {t : GS} {L : List (List Nat)} (h : Lv v t L) (ln : Ln L) (b : Bx) : g__law_bad [v] (bT t b) = .ok (.d (.int (badZ (badO L)))) (bT t b) := by
  have le := h.len b
  cases L with
  | nil =>
    have le' : fLen [v] (bT t b) = some (.d (.int 0), bT t b) := le
    simp -implicitDefEqProofs only [bind_ok, bind_er, bindN_ok, ofE_ok, ofE_er, seqO_nx, seqO_rt, seqO_er, seqO_bk, seqO_ct, loopO_nx, loopO_ct, loopO_bk, loopO_rt, loopO_er, lift_s, retO_rt, retO_nx, retO_er, mkO_ok, mkO_er, toOpt_ok, eVar_z, eVar_s, oL_z, oL_s, frz_z, frz_s, wipe_n, wipe_c, datas_n, datas_c, map_s, bind_s, setA_n, setA_c, p2_d, p1_d, pN_d, fEq_i, fEq_s, fEq_b, fEq_ii, fNe_i, fNe_s, fNe_b, fSub_i, fAdd_i, fAnd_i, fOr_i, fXor_i, fLt_i, fLe_i, fGt_i, fGe_i, fIs_d, fIsNot_d, fIsB_b, isB_b, tru_b, tru_i, tru_l, tru_t, orE_s, orE_n, alt2_e, alt1_e, altN_e, fIx_l, fIx_t, at_0, at_1, at_2, at_3, at_4, at_5, for_n, for_c, lc_n, len_lst, len_tup, kfn_c, kix_c, sSeq_e, sNil_e, sSet_e, sSet2_e, sRet_e, sRetN_e, sDrop_e, sIf_e, sBk_e, sCt_e, sFrz_e, sOwn_e, sFor_e, sUnp_e, eC_e, eOp_e, eUn_e, aNil_e, aCons_e, aApp_e, eFN_e, eCall_e, eMake_e, eCMeth_e, eCallO_e, eLst_e, eTup_e, nLst_e, nLc_e, eLc_e, lSeq_e, lTup_e, eIf_e, eAnd_e, eOr_e, eNot_e, bOf_e, bAnd_e, bOr_e, bNot_e, eFld_e, runB_e, env0_e, oN_e, List.set_cons_zero, List.set_cons_succ, List.map_cons, List.map_nil, List.cons_append, List.nil_append, List.replicate_succ, List.replicate_zero, List.length_cons, List.length_nil, List.getElem?_cons_zero, List.getElem?_cons_succ, reduceIte, if_true, if_false, Bool.false_eq_true, arN_t, decide_true, decide_false, isNon, Bool.not_true, Bool.not_false, Bool.true_and, Bool.false_and, Bool.and_true, Bool.and_false, bYes_e, lstMax_e, Nat.reduceAdd, Nat.reduceSub, Nat.reduceLeDiff, Int.reduceLT, Int.reduceLE, Int.reduceEq, String.reduceEq, and_self, decide_eq_true_eq, and_true, true_and, cPos_e, cDiv_e, fMod_i, fDiv_i, Int.reduceMod, Int.reduceDiv, Int.reduceSub, Int.reduceAdd, Int.reducePow, kOf_i, fsOf_i, fOwn_k, fOwn1_k, gFld_k, methO_e, methK_s, methA_s, ownK_s, ownK_n, ownK_m, own1K_s, own1K_n, fldK_s, sApp_e, appK_s, sOSub_e, osubK_s, eOIx_e, oixK_s, eOLen_e, olenK_s, ixN_p, Int.reduceToNat, Nat.reduceLT, oS_e, eSl_e, eSlT_e, kSet_e, kSet2_e, kDrop_e, kIf_t, kIf_f, kOwn_e, kApp_e, kOsub1_e, kOsub2_e, osK_s, kOix_e, ixK_s, kFor_e, kUnp_e, unpK_s, kOp1_e, kOp2_e, kUn_e, kC1_e, kC2_e, kA1_e, kA2_e, kFN_e, kCall_e, kMake_e, kCM_e, kMeth_e, kLst_e, lstK_s, kTup_e, tupK_s, kNl_e, nlK_s, nList_e, kNli_e, nliK_s, lOf_l, lOf_t, kNc1_e, kNc2_e, kLc1_e, kLc2_e, kSeq_e, kTpl_e, kEIf_t, kEIf_f, kEAnd_t, kEAnd_f, kEOr_t, kEOr_f, kENot_e, kB_e, kBAnd_t, kBAnd_f, kBOr_t, kBOr_f, kBNot_e, kOS_e, kSl1_e, kSl2_e, kSl3_e, kSt1_e, kSt2_e, kSt3_e, eMeth_e, kMe_e, lc_c, kL1_e, kL2_e, kT_t, kT_f, Int.cast_ofNat_Int, Int.natCast_zero, Int.natCast_one, lRng1_e, kRng_1, kRng_2, kRng_3, kRng_4, kRng_5, kRng_6, List.length_map, arS_0, sEr_e, sTryAs_e, tryK_nx, tryK_rt, tryK_er, afterO_rt, afterO_nx, eXf_e, xfS_s, xfK_s, plain_n, plain_e, List.all_cons, List.all_nil, eq_self, sTryN_e, tryN_nx, tryN_rt, tryN_h, tryN_t, dflI_e, dflF_e, not_false_eq_true, eMethK_e, kMK_e, kMK2_e, eProp_e, kPr_e, eNotO_e, kNotO_e, notK_s, eSlA_e, kSA1_e, kSA2_e, kSA3_l, kSA3_t, eGetO_e, kGet1_e, kGet2_e, getK_s, g__law_bad, m__law_bad, le']
    rfl
  | cons l r =>
    have d0 : decide (((r.length + 1 : Nat) : Int) = 0) = false := decide_eq_false (by omega)
    have a : sIf (bOf isB (eOp (fEq) (eFN fLen (aCons (eVar 0) (aNil))) (eC (.int 0)))) (sRet (eC (.int 0))) (sNil) [.ev v, .no, .no, .no] (bT t b) = .nx [.ev v, .no, .no, .no] (bT t b) := by
      simp -implicitDefEqProofs only [bind_ok, bind_er, bindN_ok, ofE_ok, ofE_er, seqO_nx, seqO_rt, seqO_er, seqO_bk, seqO_ct, loopO_nx, loopO_ct, loopO_bk, loopO_rt, loopO_er, lift_s, retO_rt, retO_nx, retO_er, mkO_ok, mkO_er, toOpt_ok, eVar_z, eVar_s, oL_z, oL_s, frz_z, frz_s, wipe_n, wipe_c, datas_n, datas_c, map_s, bind_s, setA_n, setA_c, p2_d, p1_d, pN_d, fEq_i, fEq_s, fEq_b, fEq_ii, fNe_i, fNe_s, fNe_b, fSub_i, fAdd_i, fAnd_i, fOr_i, fXor_i, fLt_i, fLe_i, fGt_i, fGe_i, fIs_d, fIsNot_d, fIsB_b, isB_b, tru_b, tru_i, tru_l, tru_t, orE_s, orE_n, alt2_e, alt1_e, altN_e, fIx_l, fIx_t, at_0, at_1, at_2, at_3, at_4, at_5, for_n, for_c, lc_n, len_lst, len_tup, kfn_c, kix_c, sSeq_e, sNil_e, sSet_e, sSet2_e, sRet_e, sRetN_e, sDrop_e, sIf_e, sBk_e, sCt_e, sFrz_e, sOwn_e, sFor_e, sUnp_e, eC_e, eOp_e, eUn_e, aNil_e, aCons_e, aApp_e, eFN_e, eCall_e, eMake_e, eCMeth_e, eCallO_e, eLst_e, eTup_e, nLst_e, nLc_e, eLc_e, lSeq_e, lTup_e, eIf_e, eAnd_e, eOr_e, eNot_e, bOf_e, bAnd_e, bOr_e, bNot_e, eFld_e, runB_e, env0_e, oN_e, List.set_cons_zero, List.set_cons_succ, List.map_cons, List.map_nil, List.cons_append, List.nil_append, List.replicate_succ, List.replicate_zero, List.length_cons, List.length_nil, List.getElem?_cons_zero, List.getElem?_cons_succ, reduceIte, if_true, if_false, Bool.false_eq_true, arN_t, decide_true, decide_false, isNon, Bool.not_true, Bool.not_false, Bool.true_and, Bool.false_and, Bool.and_true, Bool.and_false, bYes_e, lstMax_e, Nat.reduceAdd, Nat.reduceSub, Nat.reduceLeDiff, Int.reduceLT, Int.reduceLE, Int.reduceEq, String.reduceEq, and_self, decide_eq_true_eq, and_true, true_and, cPos_e, cDiv_e, fMod_i, fDiv_i, Int.reduceMod, Int.reduceDiv, Int.reduceSub, Int.reduceAdd, Int.reducePow, kOf_i, fsOf_i, fOwn_k, fOwn1_k, gFld_k, methO_e, methK_s, methA_s, ownK_s, ownK_n, ownK_m, own1K_s, own1K_n, fldK_s, sApp_e, appK_s, sOSub_e, osubK_s, eOIx_e, oixK_s, eOLen_e, olenK_s, ixN_p, Int.reduceToNat, Nat.reduceLT, oS_e, eSl_e, eSlT_e, kSet_e, kSet2_e, kDrop_e, kIf_t, kIf_f, kOwn_e, kApp_e, kOsub1_e, kOsub2_e, osK_s, kOix_e, ixK_s, kFor_e, kUnp_e, unpK_s, kOp1_e, kOp2_e, kUn_e, kC1_e, kC2_e, kA1_e, kA2_e, kFN_e, kCall_e, kMake_e, kCM_e, kMeth_e, kLst_e, lstK_s, kTup_e, tupK_s, kNl_e, nlK_s, nList_e, kNli_e, nliK_s, lOf_l, lOf_t, kNc1_e, kNc2_e, kLc1_e, kLc2_e, kSeq_e, kTpl_e, kEIf_t, kEIf_f, kEAnd_t, kEAnd_f, kEOr_t, kEOr_f, kENot_e, kB_e, kBAnd_t, kBAnd_f, kBOr_t, kBOr_f, kBNot_e, kOS_e, kSl1_e, kSl2_e, kSl3_e, kSt1_e, kSt2_e, kSt3_e, eMeth_e, kMe_e, lc_c, kL1_e, kL2_e, kT_t, kT_f, Int.cast_ofNat_Int, Int.natCast_zero, Int.natCast_one, lRng1_e, kRng_1, kRng_2, kRng_3, kRng_4, kRng_5, kRng_6, List.length_map, arS_0, sEr_e, sTryAs_e, tryK_nx, tryK_rt, tryK_er, afterO_rt, afterO_nx, eXf_e, xfS_s, xfK_s, plain_n, plain_e, List.all_cons, List.all_nil, eq_self, sTryN_e, tryN_nx, tryN_rt, tryN_h, tryN_t, dflI_e, dflF_e, not_false_eq_true, eMethK_e, kMK_e, kMK2_e, eProp_e, kPr_e, eNotO_e, kNotO_e, notK_s, eSlA_e, kSA1_e, kSA2_e, kSA3_l, kSA3_t, eGetO_e, kGet1_e, kGet2_e, getK_s, le, d0]
    have r1 : lRng1 (aCons (eFN fLen (aCons (eVar 0) (aNil))) (aNil)) [.ev v, .no, .no, .no] (bT t b) = .ok ((List.range (l :: r).length).map fun i : Nat => DL.D.int (i : Nat)) (bT t b) :=
      rng_of (by have := ln.hl; omega) (by simp -implicitDefEqProofs only [bind_ok, bind_er, bindN_ok, ofE_ok, ofE_er, seqO_nx, seqO_rt, seqO_er, seqO_bk, seqO_ct, loopO_nx, loopO_ct, loopO_bk, loopO_rt, loopO_er, lift_s, retO_rt, retO_nx, retO_er, mkO_ok, mkO_er, toOpt_ok, eVar_z, eVar_s, oL_z, oL_s, frz_z, frz_s, wipe_n, wipe_c, datas_n, datas_c, map_s, bind_s, setA_n, setA_c, p2_d, p1_d, pN_d, fEq_i, fEq_s, fEq_b, fEq_ii, fNe_i, fNe_s, fNe_b, fSub_i, fAdd_i, fAnd_i, fOr_i, fXor_i, fLt_i, fLe_i, fGt_i, fGe_i, fIs_d, fIsNot_d, fIsB_b, isB_b, tru_b, tru_i, tru_l, tru_t, orE_s, orE_n, alt2_e, alt1_e, altN_e, fIx_l, fIx_t, at_0, at_1, at_2, at_3, at_4, at_5, for_n, for_c, lc_n, len_lst, len_tup, kfn_c, kix_c, sSeq_e, sNil_e, sSet_e, sSet2_e, sRet_e, sRetN_e, sDrop_e, sIf_e, sBk_e, sCt_e, sFrz_e, sOwn_e, sFor_e, sUnp_e, eC_e, eOp_e, eUn_e, aNil_e, aCons_e, aApp_e, eFN_e, eCall_e, eMake_e, eCMeth_e, eCallO_e, eLst_e, eTup_e, nLst_e, nLc_e, eLc_e, lSeq_e, lTup_e, eIf_e, eAnd_e, eOr_e, eNot_e, bOf_e, bAnd_e, bOr_e, bNot_e, eFld_e, runB_e, env0_e, oN_e, List.set_cons_zero, List.set_cons_succ, List.map_cons, List.map_nil, List.cons_append, List.nil_append, List.replicate_succ, List.replicate_zero, List.length_cons, List.length_nil, List.getElem?_cons_zero, List.getElem?_cons_succ, reduceIte, if_true, if_false, Bool.false_eq_true, arN_t, decide_true, decide_false, isNon, Bool.not_true, Bool.not_false, Bool.true_and, Bool.false_and, Bool.and_true, Bool.and_false, bYes_e, lstMax_e, Nat.reduceAdd, Nat.reduceSub, Nat.reduceLeDiff, Int.reduceLT, Int.reduceLE, Int.reduceEq, String.reduceEq, and_self, decide_eq_true_eq, and_true, true_and, cPos_e, cDiv_e, fMod_i, fDiv_i, Int.reduceMod, Int.reduceDiv, Int.reduceSub, Int.reduceAdd, Int.reducePow, kOf_i, fsOf_i, fOwn_k, fOwn1_k, gFld_k, methO_e, methK_s, methA_s, ownK_s, ownK_n, ownK_m, own1K_s, own1K_n, fldK_s, sApp_e, appK_s, sOSub_e, osubK_s, eOIx_e, oixK_s, eOLen_e, olenK_s, ixN_p, Int.reduceToNat, Nat.reduceLT, oS_e, eSl_e, eSlT_e, kSet_e, kSet2_e, kDrop_e, kIf_t, kIf_f, kOwn_e, kApp_e, kOsub1_e, kOsub2_e, osK_s, kOix_e, ixK_s, kFor_e, kUnp_e, unpK_s, kOp1_e, kOp2_e, kUn_e, kC1_e, kC2_e, kA1_e, kA2_e, kFN_e, kCall_e, kMake_e, kCM_e, kMeth_e, kLst_e, lstK_s, kTup_e, tupK_s, kNl_e, nlK_s, nList_e, kNli_e, nliK_s, lOf_l, lOf_t, kNc1_e, kNc2_e, kLc1_e, kLc2_e, kSeq_e, kTpl_e, kEIf_t, kEIf_f, kEAnd_t, kEAnd_f, kEOr_t, kEOr_f, kENot_e, kB_e, kBAnd_t, kBAnd_f, kBOr_t, kBOr_f, kBNot_e, kOS_e, kSl1_e, kSl2_e, kSl3_e, kSt1_e, kSt2_e, kSt3_e, eMeth_e, kMe_e, lc_c, kL1_e, kL2_e, kT_t, kT_f, Int.cast_ofNat_Int, Int.natCast_zero, Int.natCast_one, lRng1_e, kRng_1, kRng_2, kRng_3, kRng_4, kRng_5, kRng_6, List.length_map, arS_0, sEr_e, sTryAs_e, tryK_nx, tryK_rt, tryK_er, afterO_rt, afterO_nx, eXf_e, xfS_s, xfK_s, plain_n, plain_e, List.all_cons, List.all_nil, eq_self, sTryN_e, tryN_nx, tryN_rt, tryN_h, tryN_t, dflI_e, dflF_e, not_false_eq_true, eMethK_e, kMK_e, kMK2_e, eProp_e, kPr_e, eNotO_e, kNotO_e, notK_s, eSlA_e, kSA1_e, kSA2_e, kSA3_l, kSA3_t, eGetO_e, kGet1_e, kGet2_e, getK_s, le])
    have bl := BL_ok h ln (by simp) b (l :: r) 0 .no .no fun i => by rw [Nat.zero_add]
    rw [← List.range_eq_range'] at bl
    have e0 : ((l :: r)[0]).length = l.length := rfl
    rw [e0] at bl
    show retO (sSeq (sIf (bOf isB (eOp (fEq) (eFN fLen (aCons (eVar 0) (aNil))) (eC (.int 0)))) (sRet (eC (.int 0))) (sNil)) (sSeq (sFor 1 (lRng1 (aCons (eFN fLen (aCons (eVar 0) (aNil))) (aNil))) BB) (sRet (eUn fNeg (eC (.int 1))))) [.ev v, .no, .no, .no] (bT t b)) = _
    rw [sqn a]
    show _ = Out.ok (EV.d (.int (badZ (badF l.length 0 (l :: r))))) (bT t b)
    cases hb : badF l.length 0 (l :: r) with
    | none =>
      rw [hb] at bl
      obtain ⟨s1, s2, e⟩ := bl
      have f : sFor 1 (lRng1 (aCons (eFN fLen (aCons (eVar 0) (aNil))) (aNil))) BB [.ev v, .no, .no, .no] (bT t b) = .nx [.ev v, s1, s2, .no] (bT t b) := by
        unfold sFor
        rw [r1]
        exact e
      rw [sqn f]
      rfl
    | some j =>
      rw [hb] at bl
      have f : sFor 1 (lRng1 (aCons (eFN fLen (aCons (eVar 0) (aNil))) (aNil))) BB [.ev v, .no, .no, .no] (bT t b) = .rt (.d (.int (j : Nat))) (bT t b) := by
        unfold sFor
        rw [r1]
        exact bl
      rw [sqr f]
      rfl
end K58
set_option Elab.async false
set_option linter.all false
set_option maxRecDepth 100000
set_option maxHeartbeats 4000000
namespace K58
open PySem DL
/-! ### a shape against lines that may stand in the store -/
theorem snv_ok {v : EV} {t : GS} {L : List (List Nat)} (h : Lv v t L) (hl : L.length ≤ 1000) (b : Bx) : g__law_same_names [.d (.tup (L.map txD)), v] (bT t b) = .ok (.d (.bl true)) (bT t b) := by
  have i := isi_tup (L.map txD)
  have le := h.len b
  have s : snL [.ev (.d (.tup (L.map txD))), .ev v, .no] (bT t b) = .ok (.d (.lst ((List.range L.length).map fun _ => .bl true))) (bT t b) :=
    elc_of (rng_of (n := L.length) (by omega) (by simp -implicitDefEqProofs only [bind_ok, bind_er, bindN_ok, ofE_ok, ofE_er, seqO_nx, seqO_rt, seqO_er, seqO_bk, seqO_ct, loopO_nx, loopO_ct, loopO_bk, loopO_rt, loopO_er, lift_s, retO_rt, retO_nx, retO_er, mkO_ok, mkO_er, toOpt_ok, eVar_z, eVar_s, oL_z, oL_s, frz_z, frz_s, wipe_n, wipe_c, datas_n, datas_c, map_s, bind_s, setA_n, setA_c, p2_d, p1_d, pN_d, fEq_i, fEq_s, fEq_b, fEq_ii, fNe_i, fNe_s, fNe_b, fSub_i, fAdd_i, fAnd_i, fOr_i, fXor_i, fLt_i, fLe_i, fGt_i, fGe_i, fIs_d, fIsNot_d, fIsB_b, isB_b, tru_b, tru_i, tru_l, tru_t, orE_s, orE_n, alt2_e, alt1_e, altN_e, fIx_l, fIx_t, at_0, at_1, at_2, at_3, at_4, at_5, for_n, for_c, lc_n, len_lst, len_tup, kfn_c, kix_c, sSeq_e, sNil_e, sSet_e, sSet2_e, sRet_e, sRetN_e, sDrop_e, sIf_e, sBk_e, sCt_e, sFrz_e, sOwn_e, sFor_e, sUnp_e, eC_e, eOp_e, eUn_e, aNil_e, aCons_e, aApp_e, eFN_e, eCall_e, eMake_e, eCMeth_e, eCallO_e, eLst_e, eTup_e, nLst_e, nLc_e, eLc_e, lSeq_e, lTup_e, eIf_e, eAnd_e, eOr_e, eNot_e, bOf_e, bAnd_e, bOr_e, bNot_e, eFld_e, runB_e, env0_e, oN_e, List.set_cons_zero, List.set_cons_succ, List.map_cons, List.map_nil, List.cons_append, List.nil_append, List.replicate_succ, List.replicate_zero, List.length_cons, List.length_nil, List.getElem?_cons_zero, List.getElem?_cons_succ, reduceIte, if_true, if_false, Bool.false_eq_true, arN_t, decide_true, decide_false, isNon, Bool.not_true, Bool.not_false, Bool.true_and, Bool.false_and, Bool.and_true, Bool.and_false, bYes_e, lstMax_e, Nat.reduceAdd, Nat.reduceSub, Nat.reduceLeDiff, Int.reduceLT, Int.reduceLE, Int.reduceEq, String.reduceEq, and_self, decide_eq_true_eq, and_true, true_and, cPos_e, cDiv_e, fMod_i, fDiv_i, Int.reduceMod, Int.reduceDiv, Int.reduceSub, Int.reduceAdd, Int.reducePow, kOf_i, fsOf_i, fOwn_k, fOwn1_k, gFld_k, methO_e, methK_s, methA_s, ownK_s, ownK_n, ownK_m, own1K_s, own1K_n, fldK_s, sApp_e, appK_s, sOSub_e, osubK_s, eOIx_e, oixK_s, eOLen_e, olenK_s, ixN_p, Int.reduceToNat, Nat.reduceLT, oS_e, eSl_e, eSlT_e, kSet_e, kSet2_e, kDrop_e, kIf_t, kIf_f, kOwn_e, kApp_e, kOsub1_e, kOsub2_e, osK_s, kOix_e, ixK_s, kFor_e, kUnp_e, unpK_s, kOp1_e, kOp2_e, kUn_e, kC1_e, kC2_e, kA1_e, kA2_e, kFN_e, kCall_e, kMake_e, kCM_e, kMeth_e, kLst_e, lstK_s, kTup_e, tupK_s, kNl_e, nlK_s, nList_e, kNli_e, nliK_s, lOf_l, lOf_t, kNc1_e, kNc2_e, kLc1_e, kLc2_e, kSeq_e, kTpl_e, kEIf_t, kEIf_f, kEAnd_t, kEAnd_f, kEOr_t, kEOr_f, kENot_e, kB_e, kBAnd_t, kBAnd_f, kBOr_t, kBOr_f, kBNot_e, kOS_e, kSl1_e, kSl2_e, kSl3_e, kSt1_e, kSt2_e, kSt3_e, eMeth_e, kMe_e, lc_c, kL1_e, kL2_e, kT_t, kT_f, Int.cast_ofNat_Int, Int.natCast_zero, Int.natCast_one, lRng1_e, kRng_1, kRng_2, kRng_3, kRng_4, kRng_5, kRng_6, List.length_map, arS_0, sEr_e, sTryAs_e, tryK_nx, tryK_rt, tryK_er, afterO_rt, afterO_nx, eXf_e, xfS_s, xfK_s, plain_n, plain_e, List.all_cons, List.all_nil, eq_self, sTryN_e, tryN_nx, tryN_rt, tryN_h, tryN_t, dflI_e, dflF_e, not_false_eq_true, eMethK_e, kMK_e, kMK2_e, eProp_e, kPr_e, eNotO_e, kNotO_e, notK_s, eSlA_e, kSA1_e, kSA2_e, kSA3_l, kSA3_t, eGetO_e, kGet1_e, kGet2_e, getK_s, le])) (lc_map (f := fun i : Nat => DL.D.int (i : Nat)) (g := fun _ => DL.D.bl true) (List.range L.length) fun i hi => by
        have a := at_tx (List.mem_range.mp hi)
        have x := h.ix b (List.mem_range.mp hi)
        have t := text_ok (tx (L[i]'(List.mem_range.mp hi))) (bT t b)
        simp -implicitDefEqProofs only [bind_ok, bind_er, bindN_ok, ofE_ok, ofE_er, seqO_nx, seqO_rt, seqO_er, seqO_bk, seqO_ct, loopO_nx, loopO_ct, loopO_bk, loopO_rt, loopO_er, lift_s, retO_rt, retO_nx, retO_er, mkO_ok, mkO_er, toOpt_ok, eVar_z, eVar_s, oL_z, oL_s, frz_z, frz_s, wipe_n, wipe_c, datas_n, datas_c, map_s, bind_s, setA_n, setA_c, p2_d, p1_d, pN_d, fEq_i, fEq_s, fEq_b, fEq_ii, fNe_i, fNe_s, fNe_b, fSub_i, fAdd_i, fAnd_i, fOr_i, fXor_i, fLt_i, fLe_i, fGt_i, fGe_i, fIs_d, fIsNot_d, fIsB_b, isB_b, tru_b, tru_i, tru_l, tru_t, orE_s, orE_n, alt2_e, alt1_e, altN_e, fIx_l, fIx_t, at_0, at_1, at_2, at_3, at_4, at_5, for_n, for_c, lc_n, len_lst, len_tup, kfn_c, kix_c, sSeq_e, sNil_e, sSet_e, sSet2_e, sRet_e, sRetN_e, sDrop_e, sIf_e, sBk_e, sCt_e, sFrz_e, sOwn_e, sFor_e, sUnp_e, eC_e, eOp_e, eUn_e, aNil_e, aCons_e, aApp_e, eFN_e, eCall_e, eMake_e, eCMeth_e, eCallO_e, eLst_e, eTup_e, nLst_e, nLc_e, eLc_e, lSeq_e, lTup_e, eIf_e, eAnd_e, eOr_e, eNot_e, bOf_e, bAnd_e, bOr_e, bNot_e, eFld_e, runB_e, env0_e, oN_e, List.set_cons_zero, List.set_cons_succ, List.map_cons, List.map_nil, List.cons_append, List.nil_append, List.replicate_succ, List.replicate_zero, List.length_cons, List.length_nil, List.getElem?_cons_zero, List.getElem?_cons_succ, reduceIte, if_true, if_false, Bool.false_eq_true, arN_t, decide_true, decide_false, isNon, Bool.not_true, Bool.not_false, Bool.true_and, Bool.false_and, Bool.and_true, Bool.and_false, bYes_e, lstMax_e, Nat.reduceAdd, Nat.reduceSub, Nat.reduceLeDiff, Int.reduceLT, Int.reduceLE, Int.reduceEq, String.reduceEq, and_self, decide_eq_true_eq, and_true, true_and, cPos_e, cDiv_e, fMod_i, fDiv_i, Int.reduceMod, Int.reduceDiv, Int.reduceSub, Int.reduceAdd, Int.reducePow, kOf_i, fsOf_i, fOwn_k, fOwn1_k, gFld_k, methO_e, methK_s, methA_s, ownK_s, ownK_n, ownK_m, own1K_s, own1K_n, fldK_s, sApp_e, appK_s, sOSub_e, osubK_s, eOIx_e, oixK_s, eOLen_e, olenK_s, ixN_p, Int.reduceToNat, Nat.reduceLT, oS_e, eSl_e, eSlT_e, kSet_e, kSet2_e, kDrop_e, kIf_t, kIf_f, kOwn_e, kApp_e, kOsub1_e, kOsub2_e, osK_s, kOix_e, ixK_s, kFor_e, kUnp_e, unpK_s, kOp1_e, kOp2_e, kUn_e, kC1_e, kC2_e, kA1_e, kA2_e, kFN_e, kCall_e, kMake_e, kCM_e, kMeth_e, kLst_e, lstK_s, kTup_e, tupK_s, kNl_e, nlK_s, nList_e, kNli_e, nliK_s, lOf_l, lOf_t, kNc1_e, kNc2_e, kLc1_e, kLc2_e, kSeq_e, kTpl_e, kEIf_t, kEIf_f, kEAnd_t, kEAnd_f, kEOr_t, kEOr_f, kENot_e, kB_e, kBAnd_t, kBAnd_f, kBOr_t, kBOr_f, kBNot_e, kOS_e, kSl1_e, kSl2_e, kSl3_e, kSt1_e, kSt2_e, kSt3_e, eMeth_e, kMe_e, lc_c, kL1_e, kL2_e, kT_t, kT_f, Int.cast_ofNat_Int, Int.natCast_zero, Int.natCast_one, lRng1_e, kRng_1, kRng_2, kRng_3, kRng_4, kRng_5, kRng_6, List.length_map, arS_0, sEr_e, sTryAs_e, tryK_nx, tryK_rt, tryK_er, afterO_rt, afterO_nx, eXf_e, xfS_s, xfK_s, plain_n, plain_e, List.all_cons, List.all_nil, eq_self, sTryN_e, tryN_nx, tryN_rt, tryN_h, tryN_t, dflI_e, dflF_e, not_false_eq_true, eMethK_e, kMK_e, kMK2_e, eProp_e, kPr_e, eNotO_e, kNotO_e, notK_s, eSlA_e, kSA1_e, kSA2_e, kSA3_l, kSA3_t, eGetO_e, kGet1_e, kGet2_e, getK_s, a, x, t]) (by rw [List.length_map, List.length_range]; omega)
  have a := all_true (List.range L.length) (G := bT t b)
  have d : decide ((L.length : Int) = L.length) = true := decide_eq_true rfl
  simp -implicitDefEqProofs only [bind_ok, bind_er, bindN_ok, ofE_ok, ofE_er, seqO_nx, seqO_rt, seqO_er, seqO_bk, seqO_ct, loopO_nx, loopO_ct, loopO_bk, loopO_rt, loopO_er, lift_s, retO_rt, retO_nx, retO_er, mkO_ok, mkO_er, toOpt_ok, eVar_z, eVar_s, oL_z, oL_s, frz_z, frz_s, wipe_n, wipe_c, datas_n, datas_c, map_s, bind_s, setA_n, setA_c, p2_d, p1_d, pN_d, fEq_i, fEq_s, fEq_b, fEq_ii, fNe_i, fNe_s, fNe_b, fSub_i, fAdd_i, fAnd_i, fOr_i, fXor_i, fLt_i, fLe_i, fGt_i, fGe_i, fIs_d, fIsNot_d, fIsB_b, isB_b, tru_b, tru_i, tru_l, tru_t, orE_s, orE_n, alt2_e, alt1_e, altN_e, fIx_l, fIx_t, at_0, at_1, at_2, at_3, at_4, at_5, for_n, for_c, lc_n, len_lst, len_tup, kfn_c, kix_c, sSeq_e, sNil_e, sSet_e, sSet2_e, sRet_e, sRetN_e, sDrop_e, sIf_e, sBk_e, sCt_e, sFrz_e, sOwn_e, sFor_e, sUnp_e, eC_e, eOp_e, eUn_e, aNil_e, aCons_e, aApp_e, eFN_e, eCall_e, eMake_e, eCMeth_e, eCallO_e, eLst_e, eTup_e, nLst_e, nLc_e, eLc_e, lSeq_e, lTup_e, eIf_e, eAnd_e, eOr_e, eNot_e, bOf_e, bAnd_e, bOr_e, bNot_e, eFld_e, runB_e, env0_e, oN_e, List.set_cons_zero, List.set_cons_succ, List.map_cons, List.map_nil, List.cons_append, List.nil_append, List.replicate_succ, List.replicate_zero, List.length_cons, List.length_nil, List.getElem?_cons_zero, List.getElem?_cons_succ, reduceIte, if_true, if_false, Bool.false_eq_true, arN_t, decide_true, decide_false, isNon, Bool.not_true, Bool.not_false, Bool.true_and, Bool.false_and, Bool.and_true, Bool.and_false, bYes_e, lstMax_e, Nat.reduceAdd, Nat.reduceSub, Nat.reduceLeDiff, Int.reduceLT, Int.reduceLE, Int.reduceEq, String.reduceEq, and_self, decide_eq_true_eq, and_true, true_and, cPos_e, cDiv_e, fMod_i, fDiv_i, Int.reduceMod, Int.reduceDiv, Int.reduceSub, Int.reduceAdd, Int.reducePow, kOf_i, fsOf_i, fOwn_k, fOwn1_k, gFld_k, methO_e, methK_s, methA_s, ownK_s, ownK_n, ownK_m, own1K_s, own1K_n, fldK_s, sApp_e, appK_s, sOSub_e, osubK_s, eOIx_e, oixK_s, eOLen_e, olenK_s, ixN_p, Int.reduceToNat, Nat.reduceLT, oS_e, eSl_e, eSlT_e, kSet_e, kSet2_e, kDrop_e, kIf_t, kIf_f, kOwn_e, kApp_e, kOsub1_e, kOsub2_e, osK_s, kOix_e, ixK_s, kFor_e, kUnp_e, unpK_s, kOp1_e, kOp2_e, kUn_e, kC1_e, kC2_e, kA1_e, kA2_e, kFN_e, kCall_e, kMake_e, kCM_e, kMeth_e, kLst_e, lstK_s, kTup_e, tupK_s, kNl_e, nlK_s, nList_e, kNli_e, nliK_s, lOf_l, lOf_t, kNc1_e, kNc2_e, kLc1_e, kLc2_e, kSeq_e, kTpl_e, kEIf_t, kEIf_f, kEAnd_t, kEAnd_f, kEOr_t, kEOr_f, kENot_e, kB_e, kBAnd_t, kBAnd_f, kBOr_t, kBOr_f, kBNot_e, kOS_e, kSl1_e, kSl2_e, kSl3_e, kSt1_e, kSt2_e, kSt3_e, eMeth_e, kMe_e, lc_c, kL1_e, kL2_e, kT_t, kT_f, Int.cast_ofNat_Int, Int.natCast_zero, Int.natCast_one, lRng1_e, kRng_1, kRng_2, kRng_3, kRng_4, kRng_5, kRng_6, List.length_map, arS_0, sEr_e, sTryAs_e, tryK_nx, tryK_rt, tryK_er, afterO_rt, afterO_nx, eXf_e, xfS_s, xfK_s, plain_n, plain_e, List.all_cons, List.all_nil, eq_self, sTryN_e, tryN_nx, tryN_rt, tryN_h, tryN_t, dflI_e, dflF_e, not_false_eq_true, eMethK_e, kMK_e, kMK2_e, eProp_e, kPr_e, eNotO_e, kNotO_e, notK_s, eSlA_e, kSA1_e, kSA2_e, kSA3_l, kSA3_t, eGetO_e, kGet1_e, kGet2_e, getK_s, g__law_same_names, m__law_same_names, fIsi, i, List.length_map, le, d, ↓s, ↓a]
theorem ssv_ok {w : Nat} {v : EV} {t : GS} {L : List (List Nat)} (g : Gd w L) (h : Lv v t L) (b : Bx) : g__law_same_shape [.d (shD w L), v] (bT t b) = .ok (.d (.bl true)) (bT t b) := by
  have hl := g.hl
  have hp := g.pos
  have x0 := h.ix0 b hp
  have hw2 := g.w2
  have e0 := g.hw _ (List.getElem_mem hp)
  have l2 := len_tx (ws := L[0]) (by omega) (G := bT t b)
  rw [e0] at l2
  have le := h.len b
  have i : gIsi TB [shD w L, .cls "Shape"] = some (.bl true) := isi_sh _
  have f := sh_f w L
  have k := sh_k w L
  have s := snv_ok h (by omega) b
  have i1 := int_ok w (bT t b)
  have i2 := int_ok L.length (bT t b)
  simp -implicitDefEqProofs only [bind_ok, bind_er, bindN_ok, ofE_ok, ofE_er, seqO_nx, seqO_rt, seqO_er, seqO_bk, seqO_ct, loopO_nx, loopO_ct, loopO_bk, loopO_rt, loopO_er, lift_s, retO_rt, retO_nx, retO_er, mkO_ok, mkO_er, toOpt_ok, eVar_z, eVar_s, oL_z, oL_s, frz_z, frz_s, wipe_n, wipe_c, datas_n, datas_c, map_s, bind_s, setA_n, setA_c, p2_d, p1_d, pN_d, fEq_i, fEq_s, fEq_b, fEq_ii, fNe_i, fNe_s, fNe_b, fSub_i, fAdd_i, fAnd_i, fOr_i, fXor_i, fLt_i, fLe_i, fGt_i, fGe_i, fIs_d, fIsNot_d, fIsB_b, isB_b, tru_b, tru_i, tru_l, tru_t, orE_s, orE_n, alt2_e, alt1_e, altN_e, fIx_l, fIx_t, at_0, at_1, at_2, at_3, at_4, at_5, for_n, for_c, lc_n, len_lst, len_tup, kfn_c, kix_c, sSeq_e, sNil_e, sSet_e, sSet2_e, sRet_e, sRetN_e, sDrop_e, sIf_e, sBk_e, sCt_e, sFrz_e, sOwn_e, sFor_e, sUnp_e, eC_e, eOp_e, eUn_e, aNil_e, aCons_e, aApp_e, eFN_e, eCall_e, eMake_e, eCMeth_e, eCallO_e, eLst_e, eTup_e, nLst_e, nLc_e, eLc_e, lSeq_e, lTup_e, eIf_e, eAnd_e, eOr_e, eNot_e, bOf_e, bAnd_e, bOr_e, bNot_e, eFld_e, runB_e, env0_e, oN_e, List.set_cons_zero, List.set_cons_succ, List.map_cons, List.map_nil, List.cons_append, List.nil_append, List.replicate_succ, List.replicate_zero, List.length_cons, List.length_nil, List.getElem?_cons_zero, List.getElem?_cons_succ, reduceIte, if_true, if_false, Bool.false_eq_true, arN_t, decide_true, decide_false, isNon, Bool.not_true, Bool.not_false, Bool.true_and, Bool.false_and, Bool.and_true, Bool.and_false, bYes_e, lstMax_e, Nat.reduceAdd, Nat.reduceSub, Nat.reduceLeDiff, Int.reduceLT, Int.reduceLE, Int.reduceEq, String.reduceEq, and_self, decide_eq_true_eq, and_true, true_and, cPos_e, cDiv_e, fMod_i, fDiv_i, Int.reduceMod, Int.reduceDiv, Int.reduceSub, Int.reduceAdd, Int.reducePow, kOf_i, fsOf_i, fOwn_k, fOwn1_k, gFld_k, methO_e, methK_s, methA_s, ownK_s, ownK_n, ownK_m, own1K_s, own1K_n, fldK_s, sApp_e, appK_s, sOSub_e, osubK_s, eOIx_e, oixK_s, eOLen_e, olenK_s, ixN_p, Int.reduceToNat, Nat.reduceLT, oS_e, eSl_e, eSlT_e, kSet_e, kSet2_e, kDrop_e, kIf_t, kIf_f, kOwn_e, kApp_e, kOsub1_e, kOsub2_e, osK_s, kOix_e, ixK_s, kFor_e, kUnp_e, unpK_s, kOp1_e, kOp2_e, kUn_e, kC1_e, kC2_e, kA1_e, kA2_e, kFN_e, kCall_e, kMake_e, kCM_e, kMeth_e, kLst_e, lstK_s, kTup_e, tupK_s, kNl_e, nlK_s, nList_e, kNli_e, nliK_s, lOf_l, lOf_t, kNc1_e, kNc2_e, kLc1_e, kLc2_e, kSeq_e, kTpl_e, kEIf_t, kEIf_f, kEAnd_t, kEAnd_f, kEOr_t, kEOr_f, kENot_e, kB_e, kBAnd_t, kBAnd_f, kBOr_t, kBOr_f, kBNot_e, kOS_e, kSl1_e, kSl2_e, kSl3_e, kSt1_e, kSt2_e, kSt3_e, eMeth_e, kMe_e, lc_c, kL1_e, kL2_e, kT_t, kT_f, Int.cast_ofNat_Int, Int.natCast_zero, Int.natCast_one, lRng1_e, kRng_1, kRng_2, kRng_3, kRng_4, kRng_5, kRng_6, List.length_map, arS_0, sEr_e, sTryAs_e, tryK_nx, tryK_rt, tryK_er, afterO_rt, afterO_nx, eXf_e, xfS_s, xfK_s, plain_n, plain_e, List.all_cons, List.all_nil, eq_self, sTryN_e, tryN_nx, tryN_rt, tryN_h, tryN_t, dflI_e, dflF_e, not_false_eq_true, eMethK_e, kMK_e, kMK2_e, eProp_e, kPr_e, eNotO_e, kNotO_e, notK_s, eSlA_e, kSA1_e, kSA2_e, kSA3_l, kSA3_t, eGetO_e, kGet1_e, kGet2_e, getK_s, g__law_same_shape, m__law_same_shape, fIsi, i, f, k, s, x0, l2, le, i1, i2]
/-! ### (x, y) in shape -/
def isO (c : Nat) : Bool := decide (c = 35)
theorem eqH (c : Nat) (G : GS) : fEq (.d (.str (tx [c]))) (.d (.str "#")) G = some (.d (.bl (isO c)), G) := by
  show some (EV.d (.bl (decide (tx [c] = tx [35]))), G) = _
  rw [tx1_inj]
  rfl
theorem con_in {w x y : Nat} {L : List (List Nat)} (g : Gd w L) (hx : x < w) (hy : y < L.length) (G : GS) : g_Shape___contains__ [.d (shD w L), .d (.tup [.int (x : Nat), .int (y : Nat)])] G = .ok (.d (.bl (isO ((L.getD y []).getD x 0)))) G := by
  have f := sh_f w L
  have k := sh_k w L
  have w2 := g.w2
  have hl := g.hw _ (List.getElem_mem hy)
  have e1 : L.getD y [] = L[y] := by rw [List.getD_eq_getElem?_getD, List.getElem?_eq_getElem hy]; rfl
  rw [e1]
  have a := at_tx hy
  have i := ixD (l := L[y]) (i := x) (by omega) (by omega) G
  have q := eqH (L[y].getD x 0) G
  have d1 : decide ((x : Int) < 0) = false := decide_eq_false (by omega)
  have d2 : decide ((w : Int) ≤ (x : Int)) = false := decide_eq_false (by omega)
  have d3 : decide ((y : Int) < 0) = false := decide_eq_false (by omega)
  have d4 : decide ((L.length : Int) ≤ (y : Int)) = false := decide_eq_false (by omega)
  simp -implicitDefEqProofs only [bind_ok, bind_er, bindN_ok, ofE_ok, ofE_er, seqO_nx, seqO_rt, seqO_er, seqO_bk, seqO_ct, loopO_nx, loopO_ct, loopO_bk, loopO_rt, loopO_er, lift_s, retO_rt, retO_nx, retO_er, mkO_ok, mkO_er, toOpt_ok, eVar_z, eVar_s, oL_z, oL_s, frz_z, frz_s, wipe_n, wipe_c, datas_n, datas_c, map_s, bind_s, setA_n, setA_c, p2_d, p1_d, pN_d, fEq_i, fEq_s, fEq_b, fEq_ii, fNe_i, fNe_s, fNe_b, fSub_i, fAdd_i, fAnd_i, fOr_i, fXor_i, fLt_i, fLe_i, fGt_i, fGe_i, fIs_d, fIsNot_d, fIsB_b, isB_b, tru_b, tru_i, tru_l, tru_t, orE_s, orE_n, alt2_e, alt1_e, altN_e, fIx_l, fIx_t, at_0, at_1, at_2, at_3, at_4, at_5, for_n, for_c, lc_n, len_lst, len_tup, kfn_c, kix_c, sSeq_e, sNil_e, sSet_e, sSet2_e, sRet_e, sRetN_e, sDrop_e, sIf_e, sBk_e, sCt_e, sFrz_e, sOwn_e, sFor_e, sUnp_e, eC_e, eOp_e, eUn_e, aNil_e, aCons_e, aApp_e, eFN_e, eCall_e, eMake_e, eCMeth_e, eCallO_e, eLst_e, eTup_e, nLst_e, nLc_e, eLc_e, lSeq_e, lTup_e, eIf_e, eAnd_e, eOr_e, eNot_e, bOf_e, bAnd_e, bOr_e, bNot_e, eFld_e, runB_e, env0_e, oN_e, List.set_cons_zero, List.set_cons_succ, List.map_cons, List.map_nil, List.cons_append, List.nil_append, List.replicate_succ, List.replicate_zero, List.length_cons, List.length_nil, List.getElem?_cons_zero, List.getElem?_cons_succ, reduceIte, if_true, if_false, Bool.false_eq_true, arN_t, decide_true, decide_false, isNon, Bool.not_true, Bool.not_false, Bool.true_and, Bool.false_and, Bool.and_true, Bool.and_false, bYes_e, lstMax_e, Nat.reduceAdd, Nat.reduceSub, Nat.reduceLeDiff, Int.reduceLT, Int.reduceLE, Int.reduceEq, String.reduceEq, and_self, decide_eq_true_eq, and_true, true_and, cPos_e, cDiv_e, fMod_i, fDiv_i, Int.reduceMod, Int.reduceDiv, Int.reduceSub, Int.reduceAdd, Int.reducePow, kOf_i, fsOf_i, fOwn_k, fOwn1_k, gFld_k, methO_e, methK_s, methA_s, ownK_s, ownK_n, ownK_m, own1K_s, own1K_n, fldK_s, sApp_e, appK_s, sOSub_e, osubK_s, eOIx_e, oixK_s, eOLen_e, olenK_s, ixN_p, Int.reduceToNat, Nat.reduceLT, oS_e, eSl_e, eSlT_e, kSet_e, kSet2_e, kDrop_e, kIf_t, kIf_f, kOwn_e, kApp_e, kOsub1_e, kOsub2_e, osK_s, kOix_e, ixK_s, kFor_e, kUnp_e, unpK_s, kOp1_e, kOp2_e, kUn_e, kC1_e, kC2_e, kA1_e, kA2_e, kFN_e, kCall_e, kMake_e, kCM_e, kMeth_e, kLst_e, lstK_s, kTup_e, tupK_s, kNl_e, nlK_s, nList_e, kNli_e, nliK_s, lOf_l, lOf_t, kNc1_e, kNc2_e, kLc1_e, kLc2_e, kSeq_e, kTpl_e, kEIf_t, kEIf_f, kEAnd_t, kEAnd_f, kEOr_t, kEOr_f, kENot_e, kB_e, kBAnd_t, kBAnd_f, kBOr_t, kBOr_f, kBNot_e, kOS_e, kSl1_e, kSl2_e, kSl3_e, kSt1_e, kSt2_e, kSt3_e, eMeth_e, kMe_e, lc_c, kL1_e, kL2_e, kT_t, kT_f, Int.cast_ofNat_Int, Int.natCast_zero, Int.natCast_one, lRng1_e, kRng_1, kRng_2, kRng_3, kRng_4, kRng_5, kRng_6, List.length_map, arS_0, sEr_e, sTryAs_e, tryK_nx, tryK_rt, tryK_er, afterO_rt, afterO_nx, eXf_e, xfS_s, xfK_s, plain_n, plain_e, List.all_cons, List.all_nil, eq_self, sTryN_e, tryN_nx, tryN_rt, tryN_h, tryN_t, dflI_e, dflF_e, not_false_eq_true, eMethK_e, kMK_e, kMK2_e, eProp_e, kPr_e, eNotO_e, kNotO_e, notK_s, eSlA_e, kSA1_e, kSA2_e, kSA3_l, kSA3_t, eGetO_e, kGet1_e, kGet2_e, getK_s, g_Shape___contains__, m_Shape___contains__, f, k, d1, d2, d3, d4, a, i, ↓q]
theorem con_out {w : Nat} {x y : Int} (L : List (List Nat)) (h : x < 0 ∨ (w : Int) ≤ x ∨ y < 0 ∨ (L.length : Int) ≤ y) (G : GS) : g_Shape___contains__ [.d (shD w L), .d (.tup [.int x, .int y])] G = .ok (.d (.bl false)) G := by
  have f := sh_f w L
  have k := sh_k w L
  by_cases h1 : x < 0
  · have d1 := decide_eq_true h1
    simp -implicitDefEqProofs only [bind_ok, bind_er, bindN_ok, ofE_ok, ofE_er, seqO_nx, seqO_rt, seqO_er, seqO_bk, seqO_ct, loopO_nx, loopO_ct, loopO_bk, loopO_rt, loopO_er, lift_s, retO_rt, retO_nx, retO_er, mkO_ok, mkO_er, toOpt_ok, eVar_z, eVar_s, oL_z, oL_s, frz_z, frz_s, wipe_n, wipe_c, datas_n, datas_c, map_s, bind_s, setA_n, setA_c, p2_d, p1_d, pN_d, fEq_i, fEq_s, fEq_b, fEq_ii, fNe_i, fNe_s, fNe_b, fSub_i, fAdd_i, fAnd_i, fOr_i, fXor_i, fLt_i, fLe_i, fGt_i, fGe_i, fIs_d, fIsNot_d, fIsB_b, isB_b, tru_b, tru_i, tru_l, tru_t, orE_s, orE_n, alt2_e, alt1_e, altN_e, fIx_l, fIx_t, at_0, at_1, at_2, at_3, at_4, at_5, for_n, for_c, lc_n, len_lst, len_tup, kfn_c, kix_c, sSeq_e, sNil_e, sSet_e, sSet2_e, sRet_e, sRetN_e, sDrop_e, sIf_e, sBk_e, sCt_e, sFrz_e, sOwn_e, sFor_e, sUnp_e, eC_e, eOp_e, eUn_e, aNil_e, aCons_e, aApp_e, eFN_e, eCall_e, eMake_e, eCMeth_e, eCallO_e, eLst_e, eTup_e, nLst_e, nLc_e, eLc_e, lSeq_e, lTup_e, eIf_e, eAnd_e, eOr_e, eNot_e, bOf_e, bAnd_e, bOr_e, bNot_e, eFld_e, runB_e, env0_e, oN_e, List.set_cons_zero, List.set_cons_succ, List.map_cons, List.map_nil, List.cons_append, List.nil_append, List.replicate_succ, List.replicate_zero, List.length_cons, List.length_nil, List.getElem?_cons_zero, List.getElem?_cons_succ, reduceIte, if_true, if_false, Bool.false_eq_true, arN_t, decide_true, decide_false, isNon, Bool.not_true, Bool.not_false, Bool.true_and, Bool.false_and, Bool.and_true, Bool.and_false, bYes_e, lstMax_e, Nat.reduceAdd, Nat.reduceSub, Nat.reduceLeDiff, Int.reduceLT, Int.reduceLE, Int.reduceEq, String.reduceEq, and_self, decide_eq_true_eq, and_true, true_and, cPos_e, cDiv_e, fMod_i, fDiv_i, Int.reduceMod, Int.reduceDiv, Int.reduceSub, Int.reduceAdd, Int.reducePow, kOf_i, fsOf_i, fOwn_k, fOwn1_k, gFld_k, methO_e, methK_s, methA_s, ownK_s, ownK_n, ownK_m, own1K_s, own1K_n, fldK_s, sApp_e, appK_s, sOSub_e, osubK_s, eOIx_e, oixK_s, eOLen_e, olenK_s, ixN_p, Int.reduceToNat, Nat.reduceLT, oS_e, eSl_e, eSlT_e, kSet_e, kSet2_e, kDrop_e, kIf_t, kIf_f, kOwn_e, kApp_e, kOsub1_e, kOsub2_e, osK_s, kOix_e, ixK_s, kFor_e, kUnp_e, unpK_s, kOp1_e, kOp2_e, kUn_e, kC1_e, kC2_e, kA1_e, kA2_e, kFN_e, kCall_e, kMake_e, kCM_e, kMeth_e, kLst_e, lstK_s, kTup_e, tupK_s, kNl_e, nlK_s, nList_e, kNli_e, nliK_s, lOf_l, lOf_t, kNc1_e, kNc2_e, kLc1_e, kLc2_e, kSeq_e, kTpl_e, kEIf_t, kEIf_f, kEAnd_t, kEAnd_f, kEOr_t, kEOr_f, kENot_e, kB_e, kBAnd_t, kBAnd_f, kBOr_t, kBOr_f, kBNot_e, kOS_e, kSl1_e, kSl2_e, kSl3_e, kSt1_e, kSt2_e, kSt3_e, eMeth_e, kMe_e, lc_c, kL1_e, kL2_e, kT_t, kT_f, Int.cast_ofNat_Int, Int.natCast_zero, Int.natCast_one, lRng1_e, kRng_1, kRng_2, kRng_3, kRng_4, kRng_5, kRng_6, List.length_map, arS_0, sEr_e, sTryAs_e, tryK_nx, tryK_rt, tryK_er, afterO_rt, afterO_nx, eXf_e, xfS_s, xfK_s, plain_n, plain_e, List.all_cons, List.all_nil, eq_self, sTryN_e, tryN_nx, tryN_rt, tryN_h, tryN_t, dflI_e, dflF_e, not_false_eq_true, eMethK_e, kMK_e, kMK2_e, eProp_e, kPr_e, eNotO_e, kNotO_e, notK_s, eSlA_e, kSA1_e, kSA2_e, kSA3_l, kSA3_t, eGetO_e, kGet1_e, kGet2_e, getK_s, g_Shape___contains__, m_Shape___contains__, f, k, d1]
  · have d1 := decide_eq_false h1
    by_cases h2 : (w : Int) ≤ x
    · have d2 := decide_eq_true h2
      simp -implicitDefEqProofs only [bind_ok, bind_er, bindN_ok, ofE_ok, ofE_er, seqO_nx, seqO_rt, seqO_er, seqO_bk, seqO_ct, loopO_nx, loopO_ct, loopO_bk, loopO_rt, loopO_er, lift_s, retO_rt, retO_nx, retO_er, mkO_ok, mkO_er, toOpt_ok, eVar_z, eVar_s, oL_z, oL_s, frz_z, frz_s, wipe_n, wipe_c, datas_n, datas_c, map_s, bind_s, setA_n, setA_c, p2_d, p1_d, pN_d, fEq_i, fEq_s, fEq_b, fEq_ii, fNe_i, fNe_s, fNe_b, fSub_i, fAdd_i, fAnd_i, fOr_i, fXor_i, fLt_i, fLe_i, fGt_i, fGe_i, fIs_d, fIsNot_d, fIsB_b, isB_b, tru_b, tru_i, tru_l, tru_t, orE_s, orE_n, alt2_e, alt1_e, altN_e, fIx_l, fIx_t, at_0, at_1, at_2, at_3, at_4, at_5, for_n, for_c, lc_n, len_lst, len_tup, kfn_c, kix_c, sSeq_e, sNil_e, sSet_e, sSet2_e, sRet_e, sRetN_e, sDrop_e, sIf_e, sBk_e, sCt_e, sFrz_e, sOwn_e, sFor_e, sUnp_e, eC_e, eOp_e, eUn_e, aNil_e, aCons_e, aApp_e, eFN_e, eCall_e, eMake_e, eCMeth_e, eCallO_e, eLst_e, eTup_e, nLst_e, nLc_e, eLc_e, lSeq_e, lTup_e, eIf_e, eAnd_e, eOr_e, eNot_e, bOf_e, bAnd_e, bOr_e, bNot_e, eFld_e, runB_e, env0_e, oN_e, List.set_cons_zero, List.set_cons_succ, List.map_cons, List.map_nil, List.cons_append, List.nil_append, List.replicate_succ, List.replicate_zero, List.length_cons, List.length_nil, List.getElem?_cons_zero, List.getElem?_cons_succ, reduceIte, if_true, if_false, Bool.false_eq_true, arN_t, decide_true, decide_false, isNon, Bool.not_true, Bool.not_false, Bool.true_and, Bool.false_and, Bool.and_true, Bool.and_false, bYes_e, lstMax_e, Nat.reduceAdd, Nat.reduceSub, Nat.reduceLeDiff, Int.reduceLT, Int.reduceLE, Int.reduceEq, String.reduceEq, and_self, decide_eq_true_eq, and_true, true_and, cPos_e, cDiv_e, fMod_i, fDiv_i, Int.reduceMod, Int.reduceDiv, Int.reduceSub, Int.reduceAdd, Int.reducePow, kOf_i, fsOf_i, fOwn_k, fOwn1_k, gFld_k, methO_e, methK_s, methA_s, ownK_s, ownK_n, ownK_m, own1K_s, own1K_n, fldK_s, sApp_e, appK_s, sOSub_e, osubK_s, eOIx_e, oixK_s, eOLen_e, olenK_s, ixN_p, Int.reduceToNat, Nat.reduceLT, oS_e, eSl_e, eSlT_e, kSet_e, kSet2_e, kDrop_e, kIf_t, kIf_f, kOwn_e, kApp_e, kOsub1_e, kOsub2_e, osK_s, kOix_e, ixK_s, kFor_e, kUnp_e, unpK_s, kOp1_e, kOp2_e, kUn_e, kC1_e, kC2_e, kA1_e, kA2_e, kFN_e, kCall_e, kMake_e, kCM_e, kMeth_e, kLst_e, lstK_s, kTup_e, tupK_s, kNl_e, nlK_s, nList_e, kNli_e, nliK_s, lOf_l, lOf_t, kNc1_e, kNc2_e, kLc1_e, kLc2_e, kSeq_e, kTpl_e, kEIf_t, kEIf_f, kEAnd_t, kEAnd_f, kEOr_t, kEOr_f, kENot_e, kB_e, kBAnd_t, kBAnd_f, kBOr_t, kBOr_f, kBNot_e, kOS_e, kSl1_e, kSl2_e, kSl3_e, kSt1_e, kSt2_e, kSt3_e, eMeth_e, kMe_e, lc_c, kL1_e, kL2_e, kT_t, kT_f, Int.cast_ofNat_Int, Int.natCast_zero, Int.natCast_one, lRng1_e, kRng_1, kRng_2, kRng_3, kRng_4, kRng_5, kRng_6, List.length_map, arS_0, sEr_e, sTryAs_e, tryK_nx, tryK_rt, tryK_er, afterO_rt, afterO_nx, eXf_e, xfS_s, xfK_s, plain_n, plain_e, List.all_cons, List.all_nil, eq_self, sTryN_e, tryN_nx, tryN_rt, tryN_h, tryN_t, dflI_e, dflF_e, not_false_eq_true, eMethK_e, kMK_e, kMK2_e, eProp_e, kPr_e, eNotO_e, kNotO_e, notK_s, eSlA_e, kSA1_e, kSA2_e, kSA3_l, kSA3_t, eGetO_e, kGet1_e, kGet2_e, getK_s, g_Shape___contains__, m_Shape___contains__, f, k, d1, d2]
    · have d2 := decide_eq_false h2
      by_cases h3 : y < 0
      · have d3 := decide_eq_true h3
        simp -implicitDefEqProofs only [bind_ok, bind_er, bindN_ok, ofE_ok, ofE_er, seqO_nx, seqO_rt, seqO_er, seqO_bk, seqO_ct, loopO_nx, loopO_ct, loopO_bk, loopO_rt, loopO_er, lift_s, retO_rt, retO_nx, retO_er, mkO_ok, mkO_er, toOpt_ok, eVar_z, eVar_s, oL_z, oL_s, frz_z, frz_s, wipe_n, wipe_c, datas_n, datas_c, map_s, bind_s, setA_n, setA_c, p2_d, p1_d, pN_d, fEq_i, fEq_s, fEq_b, fEq_ii, fNe_i, fNe_s, fNe_b, fSub_i, fAdd_i, fAnd_i, fOr_i, fXor_i, fLt_i, fLe_i, fGt_i, fGe_i, fIs_d, fIsNot_d, fIsB_b, isB_b, tru_b, tru_i, tru_l, tru_t, orE_s, orE_n, alt2_e, alt1_e, altN_e, fIx_l, fIx_t, at_0, at_1, at_2, at_3, at_4, at_5, for_n, for_c, lc_n, len_lst, len_tup, kfn_c, kix_c, sSeq_e, sNil_e, sSet_e, sSet2_e, sRet_e, sRetN_e, sDrop_e, sIf_e, sBk_e, sCt_e, sFrz_e, sOwn_e, sFor_e, sUnp_e, eC_e, eOp_e, eUn_e, aNil_e, aCons_e, aApp_e, eFN_e, eCall_e, eMake_e, eCMeth_e, eCallO_e, eLst_e, eTup_e, nLst_e, nLc_e, eLc_e, lSeq_e, lTup_e, eIf_e, eAnd_e, eOr_e, eNot_e, bOf_e, bAnd_e, bOr_e, bNot_e, eFld_e, runB_e, env0_e, oN_e, List.set_cons_zero, List.set_cons_succ, List.map_cons, List.map_nil, List.cons_append, List.nil_append, List.replicate_succ, List.replicate_zero, List.length_cons, List.length_nil, List.getElem?_cons_zero, List.getElem?_cons_succ, reduceIte, if_true, if_false, Bool.false_eq_true, arN_t, decide_true, decide_false, isNon, Bool.not_true, Bool.not_false, Bool.true_and, Bool.false_and, Bool.and_true, Bool.and_false, bYes_e, lstMax_e, Nat.reduceAdd, Nat.reduceSub, Nat.reduceLeDiff, Int.reduceLT, Int.reduceLE, Int.reduceEq, String.reduceEq, and_self, decide_eq_true_eq, and_true, true_and, cPos_e, cDiv_e, fMod_i, fDiv_i, Int.reduceMod, Int.reduceDiv, Int.reduceSub, Int.reduceAdd, Int.reducePow, kOf_i, fsOf_i, fOwn_k, fOwn1_k, gFld_k, methO_e, methK_s, methA_s, ownK_s, ownK_n, ownK_m, own1K_s, own1K_n, fldK_s, sApp_e, appK_s, sOSub_e, osubK_s, eOIx_e, oixK_s, eOLen_e, olenK_s, ixN_p, Int.reduceToNat, Nat.reduceLT, oS_e, eSl_e, eSlT_e, kSet_e, kSet2_e, kDrop_e, kIf_t, kIf_f, kOwn_e, kApp_e, kOsub1_e, kOsub2_e, osK_s, kOix_e, ixK_s, kFor_e, kUnp_e, unpK_s, kOp1_e, kOp2_e, kUn_e, kC1_e, kC2_e, kA1_e, kA2_e, kFN_e, kCall_e, kMake_e, kCM_e, kMeth_e, kLst_e, lstK_s, kTup_e, tupK_s, kNl_e, nlK_s, nList_e, kNli_e, nliK_s, lOf_l, lOf_t, kNc1_e, kNc2_e, kLc1_e, kLc2_e, kSeq_e, kTpl_e, kEIf_t, kEIf_f, kEAnd_t, kEAnd_f, kEOr_t, kEOr_f, kENot_e, kB_e, kBAnd_t, kBAnd_f, kBOr_t, kBOr_f, kBNot_e, kOS_e, kSl1_e, kSl2_e, kSl3_e, kSt1_e, kSt2_e, kSt3_e, eMeth_e, kMe_e, lc_c, kL1_e, kL2_e, kT_t, kT_f, Int.cast_ofNat_Int, Int.natCast_zero, Int.natCast_one, lRng1_e, kRng_1, kRng_2, kRng_3, kRng_4, kRng_5, kRng_6, List.length_map, arS_0, sEr_e, sTryAs_e, tryK_nx, tryK_rt, tryK_er, afterO_rt, afterO_nx, eXf_e, xfS_s, xfK_s, plain_n, plain_e, List.all_cons, List.all_nil, eq_self, sTryN_e, tryN_nx, tryN_rt, tryN_h, tryN_t, dflI_e, dflF_e, not_false_eq_true, eMethK_e, kMK_e, kMK2_e, eProp_e, kPr_e, eNotO_e, kNotO_e, notK_s, eSlA_e, kSA1_e, kSA2_e, kSA3_l, kSA3_t, eGetO_e, kGet1_e, kGet2_e, getK_s, g_Shape___contains__, m_Shape___contains__, f, k, d1, d2, d3]
      · have d3 := decide_eq_false h3
        have d4 : decide ((L.length : Int) ≤ y) = true := decide_eq_true (by omega)
        simp -implicitDefEqProofs only [bind_ok, bind_er, bindN_ok, ofE_ok, ofE_er, seqO_nx, seqO_rt, seqO_er, seqO_bk, seqO_ct, loopO_nx, loopO_ct, loopO_bk, loopO_rt, loopO_er, lift_s, retO_rt, retO_nx, retO_er, mkO_ok, mkO_er, toOpt_ok, eVar_z, eVar_s, oL_z, oL_s, frz_z, frz_s, wipe_n, wipe_c, datas_n, datas_c, map_s, bind_s, setA_n, setA_c, p2_d, p1_d, pN_d, fEq_i, fEq_s, fEq_b, fEq_ii, fNe_i, fNe_s, fNe_b, fSub_i, fAdd_i, fAnd_i, fOr_i, fXor_i, fLt_i, fLe_i, fGt_i, fGe_i, fIs_d, fIsNot_d, fIsB_b, isB_b, tru_b, tru_i, tru_l, tru_t, orE_s, orE_n, alt2_e, alt1_e, altN_e, fIx_l, fIx_t, at_0, at_1, at_2, at_3, at_4, at_5, for_n, for_c, lc_n, len_lst, len_tup, kfn_c, kix_c, sSeq_e, sNil_e, sSet_e, sSet2_e, sRet_e, sRetN_e, sDrop_e, sIf_e, sBk_e, sCt_e, sFrz_e, sOwn_e, sFor_e, sUnp_e, eC_e, eOp_e, eUn_e, aNil_e, aCons_e, aApp_e, eFN_e, eCall_e, eMake_e, eCMeth_e, eCallO_e, eLst_e, eTup_e, nLst_e, nLc_e, eLc_e, lSeq_e, lTup_e, eIf_e, eAnd_e, eOr_e, eNot_e, bOf_e, bAnd_e, bOr_e, bNot_e, eFld_e, runB_e, env0_e, oN_e, List.set_cons_zero, List.set_cons_succ, List.map_cons, List.map_nil, List.cons_append, List.nil_append, List.replicate_succ, List.replicate_zero, List.length_cons, List.length_nil, List.getElem?_cons_zero, List.getElem?_cons_succ, reduceIte, if_true, if_false, Bool.false_eq_true, arN_t, decide_true, decide_false, isNon, Bool.not_true, Bool.not_false, Bool.true_and, Bool.false_and, Bool.and_true, Bool.and_false, bYes_e, lstMax_e, Nat.reduceAdd, Nat.reduceSub, Nat.reduceLeDiff, Int.reduceLT, Int.reduceLE, Int.reduceEq, String.reduceEq, and_self, decide_eq_true_eq, and_true, true_and, cPos_e, cDiv_e, fMod_i, fDiv_i, Int.reduceMod, Int.reduceDiv, Int.reduceSub, Int.reduceAdd, Int.reducePow, kOf_i, fsOf_i, fOwn_k, fOwn1_k, gFld_k, methO_e, methK_s, methA_s, ownK_s, ownK_n, ownK_m, own1K_s, own1K_n, fldK_s, sApp_e, appK_s, sOSub_e, osubK_s, eOIx_e, oixK_s, eOLen_e, olenK_s, ixN_p, Int.reduceToNat, Nat.reduceLT, oS_e, eSl_e, eSlT_e, kSet_e, kSet2_e, kDrop_e, kIf_t, kIf_f, kOwn_e, kApp_e, kOsub1_e, kOsub2_e, osK_s, kOix_e, ixK_s, kFor_e, kUnp_e, unpK_s, kOp1_e, kOp2_e, kUn_e, kC1_e, kC2_e, kA1_e, kA2_e, kFN_e, kCall_e, kMake_e, kCM_e, kMeth_e, kLst_e, lstK_s, kTup_e, tupK_s, kNl_e, nlK_s, nList_e, kNli_e, nliK_s, lOf_l, lOf_t, kNc1_e, kNc2_e, kLc1_e, kLc2_e, kSeq_e, kTpl_e, kEIf_t, kEIf_f, kEAnd_t, kEAnd_f, kEOr_t, kEOr_f, kENot_e, kB_e, kBAnd_t, kBAnd_f, kBOr_t, kBOr_f, kBNot_e, kOS_e, kSl1_e, kSl2_e, kSl3_e, kSt1_e, kSt2_e, kSt3_e, eMeth_e, kMe_e, lc_c, kL1_e, kL2_e, kT_t, kT_f, Int.cast_ofNat_Int, Int.natCast_zero, Int.natCast_one, lRng1_e, kRng_1, kRng_2, kRng_3, kRng_4, kRng_5, kRng_6, List.length_map, arS_0, sEr_e, sTryAs_e, tryK_nx, tryK_rt, tryK_er, afterO_rt, afterO_nx, eXf_e, xfS_s, xfK_s, plain_n, plain_e, List.all_cons, List.all_nil, eq_self, sTryN_e, tryN_nx, tryN_rt, tryN_h, tryN_t, dflI_e, dflF_e, not_false_eq_true, eMethK_e, kMK_e, kMK2_e, eProp_e, kPr_e, eNotO_e, kNotO_e, notK_s, eSlA_e, kSA1_e, kSA2_e, kSA3_l, kSA3_t, eGetO_e, kGet1_e, kGet2_e, getK_s, g_Shape___contains__, m_Shape___contains__, f, k, d1, d2, d3, d4]
@[reducible] noncomputable def rI : F2 := alt2 (fInI) (fInOwn "Shape" (arN 2) g_Shape___contains__)
theorem ri_of {w : Nat} {L : List (List Nat)} {x y : Int} {r : Bool} {G : GS} (h : g_Shape___contains__ [.d (shD w L), .d (.tup [.int x, .int y])] G = .ok (.d (.bl r)) G) : rI (.d (.tup [.int x, .int y])) (.d (shD w L)) G = some (.d (.bl r), G) := by
  have e1 : fInI (.d (.tup [.int x, .int y])) (.d (shD w L)) G = none := rfl
  have e2 : fInOwn "Shape" (arN 2) g_Shape___contains__ (.d (.tup [.int x, .int y])) (.d (shD w L)) G = resB (toOpt (g_Shape___contains__ [.d (shD w L), .d (.tup [.int x, .int y])] G)) := by
    show (if "Shape" = "Shape" ∧ arN 2 2 = true then resB (toOpt (g_Shape___contains__ [.d (shD w L), .d (.tup [.int x, .int y])] G)) else none) = _
    exact if_pos ⟨rfl, rfl⟩
  unfold rI
  rw [alt2_e, e1, orE_n, e2, h]
  rfl
/-! ### area -/
def cntL (L : List (List Nat)) : Nat := (L.map fun l => l.count 35).sum
end K58
set_option Elab.async false
set_option linter.all false
set_option maxRecDepth 100000
set_option maxHeartbeats 4000000
namespace K58
open PySem DL
open L2 (ixN cutS)
/-! ### lines drawn, laid in the store -/
theorem slT_ok (t : GS) (w h : EV) (s3 : Sl) : ∀ (ds : List DL.D) (b : Bx), ∃ (ws : List Nat) (b' : Bx), ws.length = ds.length ∧ (∀ c ∈ ws, Sg c) ∧
    lcL 4 bYes (eOp fIxT (eC (.str ".#")) (eCall (arN 2) g__law_draw (aCons (eVar 0) (aCons (eC (.int 2)) (aNil))))) ds [.ev (.o 1), .ev w, .ev h, s3, .no] (bT t b) = .ok (ws.map fun c => .str (tx [c])) (bT t b')
  | [], b => ⟨[], b, rfl, (fun _ h => nomatch h), rfl⟩
  | d :: ds, b => by
    obtain ⟨u, b1, e1, h1⟩ := drawT t b 2 (by decide) (by decide)
    obtain ⟨ws, b2, hl, ho, e2⟩ := slT_ok t w h s3 ds b1
    obtain ⟨c, hc, ix⟩ := sg_ix (u := u) (by omega) (bT t b1)
    refine ⟨c :: ws, b2, by simp [hl], fun x hx => ?_, by simp -implicitDefEqProofs only [bind_ok, bind_er, bindN_ok, ofE_ok, ofE_er, seqO_nx, seqO_rt, seqO_er, seqO_bk, seqO_ct, loopO_nx, loopO_ct, loopO_bk, loopO_rt, loopO_er, lift_s, retO_rt, retO_nx, retO_er, mkO_ok, mkO_er, toOpt_ok, eVar_z, eVar_s, oL_z, oL_s, frz_z, frz_s, wipe_n, wipe_c, datas_n, datas_c, map_s, bind_s, setA_n, setA_c, p2_d, p1_d, pN_d, fEq_i, fEq_s, fEq_b, fEq_ii, fNe_i, fNe_s, fNe_b, fSub_i, fAdd_i, fAnd_i, fOr_i, fXor_i, fLt_i, fLe_i, fGt_i, fGe_i, fIs_d, fIsNot_d, fIsB_b, isB_b, tru_b, tru_i, tru_l, tru_t, orE_s, orE_n, alt2_e, alt1_e, altN_e, fIx_l, fIx_t, at_0, at_1, at_2, at_3, at_4, at_5, for_n, for_c, lc_n, len_lst, len_tup, kfn_c, kix_c, sSeq_e, sNil_e, sSet_e, sSet2_e, sRet_e, sRetN_e, sDrop_e, sIf_e, sBk_e, sCt_e, sFrz_e, sOwn_e, sFor_e, sUnp_e, eC_e, eOp_e, eUn_e, aNil_e, aCons_e, aApp_e, eFN_e, eCall_e, eMake_e, eCMeth_e, eCallO_e, eLst_e, eTup_e, nLst_e, nLc_e, eLc_e, lSeq_e, lTup_e, eIf_e, eAnd_e, eOr_e, eNot_e, bOf_e, bAnd_e, bOr_e, bNot_e, eFld_e, runB_e, env0_e, oN_e, List.set_cons_zero, List.set_cons_succ, List.map_cons, List.map_nil, List.cons_append, List.nil_append, List.replicate_succ, List.replicate_zero, List.length_cons, List.length_nil, List.getElem?_cons_zero, List.getElem?_cons_succ, reduceIte, if_true, if_false, Bool.false_eq_true, arN_t, decide_true, decide_false, isNon, Bool.not_true, Bool.not_false, Bool.true_and, Bool.false_and, Bool.and_true, Bool.and_false, bYes_e, lstMax_e, Nat.reduceAdd, Nat.reduceSub, Nat.reduceLeDiff, Int.reduceLT, Int.reduceLE, Int.reduceEq, String.reduceEq, and_self, decide_eq_true_eq, and_true, true_and, cPos_e, cDiv_e, fMod_i, fDiv_i, Int.reduceMod, Int.reduceDiv, Int.reduceSub, Int.reduceAdd, Int.reducePow, kOf_i, fsOf_i, fOwn_k, fOwn1_k, gFld_k, methO_e, methK_s, methA_s, ownK_s, ownK_n, ownK_m, own1K_s, own1K_n, fldK_s, sApp_e, appK_s, sOSub_e, osubK_s, eOIx_e, oixK_s, eOLen_e, olenK_s, ixN_p, Int.reduceToNat, Nat.reduceLT, oS_e, eSl_e, eSlT_e, kSet_e, kSet2_e, kDrop_e, kIf_t, kIf_f, kOwn_e, kApp_e, kOsub1_e, kOsub2_e, osK_s, kOix_e, ixK_s, kFor_e, kUnp_e, unpK_s, kOp1_e, kOp2_e, kUn_e, kC1_e, kC2_e, kA1_e, kA2_e, kFN_e, kCall_e, kMake_e, kCM_e, kMeth_e, kLst_e, lstK_s, kTup_e, tupK_s, kNl_e, nlK_s, nList_e, kNli_e, nliK_s, lOf_l, lOf_t, kNc1_e, kNc2_e, kLc1_e, kLc2_e, kSeq_e, kTpl_e, kEIf_t, kEIf_f, kEAnd_t, kEAnd_f, kEOr_t, kEOr_f, kENot_e, kB_e, kBAnd_t, kBAnd_f, kBOr_t, kBOr_f, kBNot_e, kOS_e, kSl1_e, kSl2_e, kSl3_e, kSt1_e, kSt2_e, kSt3_e, eMeth_e, kMe_e, lc_c, kL1_e, kL2_e, kT_t, kT_f, Int.cast_ofNat_Int, Int.natCast_zero, Int.natCast_one, lRng1_e, kRng_1, kRng_2, kRng_3, kRng_4, kRng_5, kRng_6, List.length_map, arS_0, sEr_e, sTryAs_e, tryK_nx, tryK_rt, tryK_er, afterO_rt, afterO_nx, eXf_e, xfS_s, xfK_s, plain_n, plain_e, List.all_cons, List.all_nil, eq_self, sTryN_e, tryN_nx, tryN_rt, tryN_h, tryN_t, dflI_e, dflF_e, not_false_eq_true, eMethK_e, kMK_e, kMK2_e, eProp_e, kPr_e, eNotO_e, kNotO_e, notK_s, eSlA_e, kSA1_e, kSA2_e, kSA3_l, kSA3_t, eGetO_e, kGet1_e, kGet2_e, getK_s, e1, ix, e2]⟩
    rcases List.mem_cons.mp hx with rfl | hx
    · exact hc
    · exact ho x hx
@[reducible] def rowM : EM := eJoin (eC (.str "")) (eLc 4 [4] (lRng1 (aCons (eVar 1) (aNil))) (bYes) (eOp fIxT (eC (.str ".#")) (eCall (arN 2) g__law_draw (aCons (eVar 0) (aCons (eC (.int 2)) (aNil))))))
theorem rowT_ok (t : GS) {w : Nat} (hw : w ≤ 40) (h : EV) (s3 : Sl) (b : Bx) : ∃ (ws : List Nat) (b' : Bx), ws.length = w ∧ (∀ c ∈ ws, Sg c) ∧ rowM [.ev (.o 1), .ev (.d (.int (w : Nat))), .ev h, s3, .no] (bT t b) = .ok (.d (.str (tx ws))) (bT t b') := by
  obtain ⟨ws, b', hl, hs, e⟩ := slT_ok t (.d (.int (w : Nat))) h s3 ((List.range w).map fun i : Nat => DL.D.int (i : Nat)) b
  rw [List.length_map, List.length_range] at hl
  exact ⟨ws, b', hl, hs, join_tx (by omega) (elc_of (rng_of (n := w) (by omega) rfl) e (by rw [List.length_map]; omega))⟩
theorem olT_ok (t : GS) {w : Nat} (hw : w ≤ 40) (h : EV) : ∀ (ds : List DL.D) (b : Bx), ∃ (L : List (List Nat)) (b' : Bx), L.length = ds.length ∧ (∀ l ∈ L, l.length = w) ∧ (∀ l ∈ L, ∀ c ∈ l, Sg c) ∧
    lcL 3 bYes rowM ds [.ev (.o 1), .ev (.d (.int (w : Nat))), .ev h, .no, .no] (bT t b) = .ok (L.map txD) (bT t b')
  | [], b => ⟨[], b, rfl, (fun _ h => nomatch h), (fun _ h => nomatch h), rfl⟩
  | d :: ds, b => by
    obtain ⟨ws, b1, h1, h2, e1⟩ := rowT_ok t hw h (.ev (.d d)) b
    obtain ⟨L, b2, l1, l2, l3, e2⟩ := olT_ok t hw h ds b1
    refine ⟨ws :: L, b2, by simp [l1], fun l hl => ?_, fun l hl => ?_, lc_cons (k := 3) e1 e2⟩
    · rcases List.mem_cons.mp hl with rfl | hl
      · exact h1
      · exact l2 l hl
    · rcases List.mem_cons.mp hl with rfl | hl
      · exact h2
      · exact l3 l hl
theorem linesT {w h : Nat} (t : GS) (h2 : w ≤ 40) (h4 : h ≤ 40) (b : Bx) : ∃ (L : List (List Nat)) (b' : Bx), L.length = h ∧ (∀ l ∈ L, l.length = w) ∧ (∀ l ∈ L, ∀ c ∈ l, Sg c) ∧ g__law_lines [.o 1, .d (.int (w : Nat)), .d (.int (h : Nat))] (bT t b) = .ok (.o (t.length + 2)) (bT (t ++ [ent L]) b') := by
  obtain ⟨L, b', l1, l2, l3, e⟩ := olT_ok t h2 (.d (.int (h : Nat))) ((List.range h).map fun i : Nat => DL.D.int (i : Nat)) b
  rw [List.length_map, List.length_range] at l1
  have r := rng_of (n := h) (by omega) (G := bT t b) (env := [.ev (.o 1), .ev (.d (.int (w : Nat))), .ev (.d (.int (h : Nat))), .no, .no]) (m := aCons (eVar 2) aNil) rfl
  have c : eLcO 3 [3] (lRng1 (aCons (eVar 2) (aNil))) (bYes) rowM [.ev (.o 1), .ev (.d (.int (w : Nat))), .ev (.d (.int (h : Nat))), .no, .no] (bT t b) = .ok (.o (t.length + 2)) (bT (t ++ [ent L]) b') := by
    show (lRng1 (aCons (eVar 2) (aNil)) [.ev (.o 1), .ev (.d (.int (w : Nat))), .ev (.d (.int (h : Nat))), .no, .no] (bT t b)).bind _ = _
    rw [r]
    show bindN (lcL 3 bYes rowM _ [.ev (.o 1), .ev (.d (.int (w : Nat))), .ev (.d (.int (h : Nat))), .no, .no] (bT t b)) _ = _
    rw [e, bindN_ok]
    show (if (L.map txD).length ≤ lstMax then _ else _) = _
    rw [if_pos (by rw [List.length_map, l1]; exact Nat.le_trans h4 (by decide))]
    show Out.ok (EV.o (t.length + 2)) (bT t b' ++ [GO.lst ((L.map txD).map .d)]) = _
    rw [List.map_map]
    rfl
  refine ⟨L, b', l1, l2, l3, ?_⟩
  show retO (sRet _ [.ev (.o 1), .ev (.d (.int (w : Nat))), .ev (.d (.int (h : Nat))), .no, .no] (bT t b)) = _
  rw [sret_eq c]
  rfl
/-! ### a line replaced -/
theorem ent_set (L : List (List Nat)) (k : Nat) (l : List Nat) : (L.map fun l => EV.d (txD l)).set k (.d (txD l)) = (L.set k l).map fun l => EV.d (txD l) := by rw [List.map_set]
theorem ixN_nat {n k : Nat} (h : k < n) : ixN n (k : Int) = some k := by
  unfold ixN
  rw [if_pos (by omega), if_pos (by omega), Int.toNat_natCast]
theorem subT {env : En} {t : GS} {b b' : Bx} {L : List (List Nat)} {k : Nat} {l : List Nat} {mo mi me : EM} (hk : k < L.length) (h1 : me env (bT (t ++ [ent L]) b) = .ok (.d (txD l)) (bT (t ++ [ent L]) b')) (h2 : mo env (bT (t ++ [ent L]) b') = .ok (.o (t.length + 2)) (bT (t ++ [ent L]) b')) (h3 : mi env (bT (t ++ [ent L]) b') = .ok (.d (.int (k : Nat))) (bT (t ++ [ent L]) b')) :
    sSub mo mi me env (bT (t ++ [ent L]) b) = .nx env (bT (t ++ [ent (L.set k l)]) b') := by
  have g : ((bT (t ++ [ent L]) b')[t.length + 2]? : Option GO) = some (ent L) := by
    rw [bT_get]; simp
  have s : (bT (t ++ [ent L]) b').set (t.length + 2) (ent (L.set k l)) = bT (t ++ [ent (L.set k l)]) b' := by
    show _ :: _ :: (t ++ [ent L]).set t.length _ = _
    rw [List.set_append_right _ _ (Nat.le_refl _), Nat.sub_self]
    rfl
  unfold sSub
  rw [h1, ofE_ok, h2, ofE_ok, h3, ofE_ok]
  dsimp only
  rw [g]
  show (match ixN (L.map fun l => EV.d (txD l)).length (k : Int) with | some j => OutS.nx env ((bT (t ++ [ent L]) b').set (t.length + 2) (GO.lst ((L.map fun l => EV.d (txD l)).set j (.d (txD l))))) | none => .st) = _
  rw [List.length_map, ixN_nat hk]
  dsimp only
  rw [ent_set]
  exact congrArg _ s
theorem Ln.set {L : List (List Nat)} (h : Ln L) {k : Nat} {l : List Nat} (h1 : l.length ≤ 100) (h2 : ∀ c ∈ l, c < 128) : Ln (L.set k l) :=
  ⟨by rw [List.length_set]; exact h.hl, fun x hx => (List.mem_or_eq_of_mem_set hx).elim (h.hw x) fun e => e ▸ h1, fun x hx => (List.mem_or_eq_of_mem_set hx).elim (h.hc x) fun e => e ▸ h2⟩
/-! ### texts by signs: cut, joined -/
theorem add_tx {a b : List Nat} (h : a.length + b.length ≤ 1000) (G : GS) : fAdd (.d (.str (tx a))) (.d (.str (tx b))) G = some (.d (.str (tx (a ++ b))), G) := by
  have e : (tx a ++ tx b : Str) = tx (a ++ b) := tx_of (by
    show (a.toArray ++ b.toArray).toList = a ++ b
    simp)
  show Option.map _ (if _ then _ else _) = _
  rw [if_pos (by rw [tx_len, tx_len]; exact Nat.le_trans h (by decide))]
  show some (EV.d (.str (tx a ++ tx b)), G) = _
  rw [e]
theorem cut_hi {l : List Nat} {k : Nat} (h : l.length ≤ 1000) : cutS (tx l) none (some (k : Int)) = tx (l.take k) := by
  unfold cutS
  rw [HT.sIx_none, HT.sIx_nat, tx_list, tx_len, List.drop_zero, Nat.sub_zero]
  show tx (l.take (min k l.length)) = _
  rw [← List.take_eq_take_min]
theorem cut_lo {l : List Nat} {k : Nat} (h : l.length ≤ 1000) : cutS (tx l) (some (k : Int)) none = tx (l.drop k) := by
  unfold cutS
  rw [HT.sIx_none, HT.sIx_nat, tx_list, tx_len]
  show tx ((l.drop (min k l.length)).take (l.length - min k l.length)) = _
  congr 1
  by_cases hk : k ≤ l.length
  · rw [Nat.min_eq_left hk, List.take_of_length_le (by rw [List.length_drop]; omega)]
  · rw [Nat.min_eq_right (by omega), Nat.sub_self, List.take_zero, List.drop_eq_nil_of_le (by omega)]
/-! ### the lines of the law -/
theorem odd_ix {u : Nat} (hu : u < 6) (G : GS) : ∃ c, c < 128 ∧ fIxT (.d (.str "o?X -@")) (.d (.int (u : Nat))) G = some (.d (.str (tx [c])), G) := by
  have h : u = 0 ∨ u = 1 ∨ u = 2 ∨ u = 3 ∨ u = 4 ∨ u = 5 := by omega
  rcases h with rfl | rfl | rfl | rfl | rfl | rfl
  · exact ⟨111, by decide, ixT_tx (ws := [111, 63, 88, 32, 45, 64]) (i := 0) (by decide) (by decide) G⟩
  · exact ⟨63, by decide, ixT_tx (ws := [111, 63, 88, 32, 45, 64]) (i := 1) (by decide) (by decide) G⟩
  · exact ⟨88, by decide, ixT_tx (ws := [111, 63, 88, 32, 45, 64]) (i := 2) (by decide) (by decide) G⟩
  · exact ⟨32, by decide, ixT_tx (ws := [111, 63, 88, 32, 45, 64]) (i := 3) (by decide) (by decide) G⟩
  · exact ⟨45, by decide, ixT_tx (ws := [111, 63, 88, 32, 45, 64]) (i := 4) (by decide) (by decide) G⟩
  · exact ⟨64, by decide, ixT_tx (ws := [111, 63, 88, 32, 45, 64]) (i := 5) (by decide) (by decide) G⟩
theorem cutm {l : List Nat} (hl : l.length ≤ 1000) {m : EM} {lo hi : OM} {env : En} {G G1 G2 G3 : GS} {a b : Option Int} (h : m env G = .ok (.d (.str (tx l))) G1) (h1 : lo env G1 = .ok a G2) (h2 : hi env G2 = .ok b G3) : eSlS m lo hi env G = .ok (.d (.str (cutS (tx l) a b))) G3 := by
  unfold eSlS
  rw [h, bind_ok, h1, bind_ok, h2, bind_ok]
  exact if_pos (by rw [tx_len]; exact Nat.le_trans hl (by decide))
theorem low_of {l : List Nat} (h : ∀ c ∈ l, Sg c) : ∀ c ∈ l, c < 128 := fun c hc => by
  rcases h c hc with rfl | rfl <;> decide
def dot20 : List Nat := (List.replicate 20 [46, 35]).flatten
theorem dot20_ok (G : GS) : alt2 fMul (alt2 fRepL fRepX) (.d (.str ".#")) (.d (.int 20)) G = some (.d (.str (tx dot20)), G) := by kernel_rfl
theorem many_ok {n : Nat} (hn : n ≤ 50) (G : GS) : alt2 fMul (alt2 fRepL fRepX) (.d (.lst [.str "#"])) (.d (.int (n : Nat))) G = some (.d (.lst ((List.replicate n [35]).map txD)), G) := by
  have h : n = n := rfl
  exact of_tab (N := 51) (f := fun n => alt2 fMul (alt2 fRepL fRepX) (.d (.lst [.str "#"])) (.d (.int (n : Nat))) G) (g := fun n => some (.d (.lst ((List.replicate n [35]).map txD)), G)) (by kernel_rfl) (by omega)
theorem tail_ok (G : GS) : ∀ w u : Nat, 39 ≤ w → w < 42 → u < 2 → ∃ ws : List Nat, ws.length ≤ 4 ∧ (∀ c ∈ ws, c < 128) ∧ cutS "...." none (some ((w : Int) - 40 + (u : Int))) = tx ws := by
  intro w u h1 h2 h3
  have hw : w = 39 ∨ w = 40 ∨ w = 41 := by omega
  have hu : u = 0 ∨ u = 1 := by omega
  rcases hw with rfl | rfl | rfl <;> rcases hu with rfl | rfl
  · exact ⟨[46, 46, 46], by decide, by decide, by kernel_rfl⟩
  · exact ⟨[], by decide, by decide, by kernel_rfl⟩
  · exact ⟨[], by decide, by decide, by kernel_rfl⟩
  · exact ⟨[46], by decide, by decide, by kernel_rfl⟩
  · exact ⟨[46], by decide, by decide, by kernel_rfl⟩
  · exact ⟨[46, 46], by decide, by decide, by kernel_rfl⟩
end K58
set_option Elab.async false
set_option linter.all false
set_option maxRecDepth 100000
set_option maxHeartbeats 4000000
namespace K58
open PySem DL
open L2 (ixN cutS)
def BODY : SM := (sSeq (sSet 3 (eCall (arN 2) g__law_draw (aCons (eVar 0) (aCons (eFN fLen (aCons (eVar 1) (aNil))) (aNil))))) (sSeq (sSet 4 (eOp fIx (eVar 1) (eVar 3))) (sSeq (sSet 5 (eCall (arN 2) g__law_draw (aCons (eVar 0) (aCons (eFN fLen (aCons (eVar 4) (aNil))) (aNil))))) (sSeq (sSet 6 (eOp (fAdd) (eOp (fAdd) (eSlS (eVar 4) (oNone) (oSome (eVar 5))) (eOp fIxT (eC (.str "o?X -@")) (eCall (arN 2) g__law_draw (aCons (eVar 0) (aCons (eC (.int 6)) (aNil)))))) (eSlS (eVar 4) (oSome (eOp (fAdd) (eVar 5) (eC (.int 1)))) (oNone)))) (sSub (eVar 1) (eVar 3) (eOp fIx (eLst (aCons (eOp (fAdd) (eVar 4) (eC (.str "#"))) (aCons (eSlS (eVar 4) (oSome (eC (.int 1))) (oNone)) (aCons (eC (.str "")) (aCons (eVar 6) (aNil)))))) (eCall (arN 2) g__law_draw (aCons (eVar 0) (aCons (eC (.int 4)) (aNil))))))))))
theorem body_ok {L : List (List Nat)} {w : Nat} (h0 : 0 < L.length) (hl : L.length ≤ 40) (hw : ∀ l ∈ L, l.length = w) (w1 : 1 ≤ w) (w2 : w ≤ 40) (hs : ∀ l ∈ L, ∀ c ∈ l, Sg c) (b : Bx) : ∃ (env' : En) (L' : List (List Nat)) (b' : Bx), BODY [.ev (.o 1), .ev (.o 2), .no, .no, .no, .no, .no] (bT [ent L] b) = .nx env' (bT [ent L'] b') ∧ env'[1]? = some (.ev (.o 2)) ∧ Ln L' := by
  have lv : Lv (.o 2) [ent L] L := Lv.new [] L
  have ln : Ln L := ⟨by omega, fun l h => by have := hw l h; omega, fun l h => low_of (hs l h)⟩
  obtain ⟨k, b1, e1, h1⟩ := drawT [ent L] b (L.length : Nat) (by omega) (by omega)
  have hk : k < L.length := by omega
  have mem : L[k] ∈ L := List.getElem_mem hk
  have lk := hw _ mem
  obtain ⟨at_, b2, e2, h2⟩ := drawT [ent L] b1 (L[k].length : Nat) (by omega) (by omega)
  obtain ⟨u, b3, e3, h3⟩ := drawT [ent L] b2 6 (by decide) (by decide)
  obtain ⟨y, b4, e4, h4⟩ := drawT [ent L] b3 4 (by decide) (by decide)
  obtain ⟨c, hc, ix⟩ := odd_ix (u := u) (by omega) (bT [ent L] b3)
  have le := lv.len b
  have le1 := lv.ix b1 hk
  have l2 := len_tx (ws := L[k]) (by omega) (G := bT [ent L] b1)
  let odd := L[k].take at_ ++ [c] ++ L[k].drop (at_ + 1)
  let env4 : En := [.ev (.o 1), .ev (.o 2), .no, .ev (.d (.int (k : Nat))), .ev (.d (.str (tx L[k]))), .ev (.d (.int (at_ : Nat))), .no]
  have c1 : eSlS (eVar 4) (oNone) (oSome (eVar 5)) env4 (bT [ent L] b2) = .ok (.d (.str (tx (L[k].take at_)))) (bT [ent L] b2) := by
    rw [← cut_hi (by omega)]
    exact cutm (by omega) rfl rfl rfl
  have c2 : eSlS (eVar 4) (oSome (eOp (fAdd) (eVar 5) (eC (.int 1)))) (oNone) env4 (bT [ent L] b3) = .ok (.d (.str (tx (L[k].drop (at_ + 1))))) (bT [ent L] b3) := by
    rw [← cut_lo (by omega)]
    exact cutm (by omega) rfl rfl rfl
  have ix' : eOp fIxT (eC (.str "o?X -@")) (eCall (arN 2) g__law_draw (aCons (eVar 0) (aCons (eC (.int 6)) (aNil)))) env4 (bT [ent L] b2) = .ok (.d (.str (tx [c]))) (bT [ent L] b3) := by
    have q : eCall (arN 2) g__law_draw (aCons (eVar 0) (aCons (eC (.int 6)) (aNil))) env4 (bT [ent L] b2) = .ok (.d (.int (u : Nat))) (bT [ent L] b3) := (call_eq rfl rfl).trans e3
    exact (op_eq rfl q).trans (by rw [ix]; rfl)
  have o6 : eOp (fAdd) (eOp (fAdd) (eSlS (eVar 4) (oNone) (oSome (eVar 5))) (eOp fIxT (eC (.str "o?X -@")) (eCall (arN 2) g__law_draw (aCons (eVar 0) (aCons (eC (.int 6)) (aNil)))))) (eSlS (eVar 4) (oSome (eOp (fAdd) (eVar 5) (eC (.int 1)))) (oNone)) env4 (bT [ent L] b2) = .ok (.d (.str (tx odd))) (bT [ent L] b3) := by
    have q : eOp (fAdd) (eSlS (eVar 4) (oNone) (oSome (eVar 5))) (eOp fIxT (eC (.str "o?X -@")) (eCall (arN 2) g__law_draw (aCons (eVar 0) (aCons (eC (.int 6)) (aNil))))) env4 (bT [ent L] b2) = .ok (.d (.str (tx (L[k].take at_ ++ [c])))) (bT [ent L] b3) :=
      (op_eq c1 ix').trans (by rw [add_tx (by rw [List.length_take]; simp; omega)]; rfl)
    exact (op_eq q c2).trans (by rw [add_tx (by rw [List.length_append, List.length_take, List.length_drop]; simp; omega)]; rfl)
  let env5 : En := [.ev (.o 1), .ev (.o 2), .no, .ev (.d (.int (k : Nat))), .ev (.d (.str (tx L[k]))), .ev (.d (.int (at_ : Nat))), .ev (.d (.str (tx odd)))]
  have s1 : eSlS (eVar 4) (oSome (eC (.int 1))) (oNone) env5 (bT [ent L] b3) = .ok (.d (.str (tx (L[k].drop 1)))) (bT [ent L] b3) := by
    rw [← cut_lo (k := 1) (by omega)]
    exact cutm (by omega) rfl rfl rfl
  have p1 : eOp (fAdd) (eVar 4) (eC (.str "#")) env5 (bT [ent L] b3) = .ok (.d (.str (tx (L[k] ++ [35])))) (bT [ent L] b3) := (op_eq rfl rfl).trans (by rw [show (EV.d (.str "#")) = EV.d (.str (tx [35])) from rfl, add_tx (by simp; omega)]; rfl)
  have four_ : eLst (aCons (eOp (fAdd) (eVar 4) (eC (.str "#"))) (aCons (eSlS (eVar 4) (oSome (eC (.int 1))) (oNone)) (aCons (eC (.str "")) (aCons (eVar 6) (aNil))))) env5 (bT [ent L] b3) = .ok (.d (.lst [.str (tx (L[k] ++ [35])), .str (tx (L[k].drop 1)), .str (tx []), .str (tx odd)])) (bT [ent L] b3) := by
    have q := acons_eq p1 (acons_eq s1 (acons_eq (m := eC (.str "")) (x := .d (.str (tx []))) (env := env5) (G := bT [ent L] b3) rfl (acons_eq (m := eVar 6) (x := .d (.str (tx odd))) rfl (rfl : aNil env5 (bT [ent L] b3) = .ok [] (bT [ent L] b3)))))
    unfold eLst
    rw [q]
    rfl
  have pick : ∃ l : List Nat, l.length ≤ 100 ∧ (∀ x ∈ l, x < 128) ∧ eOp fIx (eLst (aCons (eOp (fAdd) (eVar 4) (eC (.str "#"))) (aCons (eSlS (eVar 4) (oSome (eC (.int 1))) (oNone)) (aCons (eC (.str "")) (aCons (eVar 6) (aNil)))))) (eCall (arN 2) g__law_draw (aCons (eVar 0) (aCons (eC (.int 4)) (aNil)))) env5 (bT [ent L] b3) = .ok (.d (txD l)) (bT [ent L] b4) := by
    have q : eCall (arN 2) g__law_draw (aCons (eVar 0) (aCons (eC (.int 4)) (aNil))) env5 (bT [ent L] b3) = .ok (.d (.int (y : Nat))) (bT [ent L] b4) := (call_eq rfl rfl).trans e4
    have lo : ∀ x ∈ L[k], x < 128 := low_of (hs _ mem)
    have hy : y = 0 ∨ y = 1 ∨ y = 2 ∨ y = 3 := by omega
    rcases hy with rfl | rfl | rfl | rfl
    · exact ⟨L[k] ++ [35], by simp; omega, fun x hx => by rcases List.mem_append.mp hx with z | z; exact lo x z; rw [List.mem_singleton.mp z]; decide, (op_eq four_ q).trans rfl⟩
    · exact ⟨L[k].drop 1, by rw [List.length_drop]; omega, fun x hx => lo x (List.mem_of_mem_drop hx), (op_eq four_ q).trans rfl⟩
    · exact ⟨[], by simp, fun x hx => (nomatch hx), (op_eq four_ q).trans rfl⟩
    · refine ⟨odd, ?_, fun x hx => ?_, (op_eq four_ q).trans rfl⟩
      · show (L[k].take at_ ++ [c] ++ L[k].drop (at_ + 1)).length ≤ 100
        rw [List.length_append, List.length_append, List.length_take, List.length_drop]
        simp
        omega
      · rcases List.mem_append.mp hx with z | z
        · rcases List.mem_append.mp z with z | z
          · exact lo x (List.mem_of_mem_take z)
          · rw [List.mem_singleton.mp z]; exact hc
        · exact lo x (List.mem_of_mem_drop z)
  obtain ⟨l, g1, g2, gp⟩ := pick
  refine ⟨env5, L.set k l, b4, ?_, rfl, ln.set g1 g2⟩
  have a3 : eCall (arN 2) g__law_draw (aCons (eVar 0) (aCons (eFN fLen (aCons (eVar 1) (aNil))) (aNil))) [.ev (.o 1), .ev (.o 2), .no, .no, .no, .no, .no] (bT [ent L] b) = .ok (.d (.int (k : Nat))) (bT [ent L] b1) := by
    have q : eFN fLen (aCons (eVar 1) (aNil)) [.ev (.o 1), .ev (.o 2), .no, .no, .no, .no, .no] (bT [ent L] b) = .ok (.d (.int (L.length : Nat))) (bT [ent L] b) := by
      show lift (fLen [.o 2] (bT [ent L] b)) = _
      rw [le]
      rfl
    exact (call_eq (acons_eq rfl (acons1 q)) rfl).trans e1
  have a4 : eOp fIx (eVar 1) (eVar 3) [.ev (.o 1), .ev (.o 2), .no, .ev (.d (.int (k : Nat))), .no, .no, .no] (bT [ent L] b1) = .ok (.d (.str (tx L[k]))) (bT [ent L] b1) := (op_eq rfl rfl).trans (by rw [le1]; rfl)
  have a5 : eCall (arN 2) g__law_draw (aCons (eVar 0) (aCons (eFN fLen (aCons (eVar 4) (aNil))) (aNil))) [.ev (.o 1), .ev (.o 2), .no, .ev (.d (.int (k : Nat))), .ev (.d (.str (tx L[k]))), .no, .no] (bT [ent L] b1) = .ok (.d (.int (at_ : Nat))) (bT [ent L] b2) := by
    have q : eFN fLen (aCons (eVar 4) (aNil)) [.ev (.o 1), .ev (.o 2), .no, .ev (.d (.int (k : Nat))), .ev (.d (.str (tx L[k]))), .no, .no] (bT [ent L] b1) = .ok (.d (.int (L[k].length : Nat))) (bT [ent L] b1) := by
      show lift (fLen [.d (.str (tx L[k]))] (bT [ent L] b1)) = _
      rw [l2]
      rfl
    exact (call_eq (acons_eq rfl (acons1 q)) rfl).trans e2
  unfold BODY
  rw [sqn (setn a3)]
  show sSeq (sSet 4 _) _ [.ev (.o 1), .ev (.o 2), .no, .ev (.d (.int (k : Nat))), .no, .no, .no] (bT [ent L] b1) = _
  rw [sqn (setn a4)]
  show sSeq (sSet 5 _) _ [.ev (.o 1), .ev (.o 2), .no, .ev (.d (.int (k : Nat))), .ev (.d (.str (tx L[k]))), .no, .no] (bT [ent L] b1) = _
  rw [sqn (setn a5)]
  show sSeq (sSet 6 _) _ env4 (bT [ent L] b2) = _
  rw [sqn (setn o6)]
  exact subT (t := []) hk gp rfl rfl
theorem drawn_ok (b : Bx) : ∃ (v : EV) (t : GS) (L : List (List Nat)) (b' : Bx), g__law_drawn_lines [.o 1] (bT [] b) = .ok v (bT t b') ∧ Lv v t L ∧ Ln L ∧ t.length ≤ 1 := by
  obtain ⟨v0, b1, e0, h0⟩ := drawT [] b 6 (by decide) (by decide)
  by_cases hv : v0 = 5
  · subst hv
    have d0 : decide (((5 : Nat) : Int) = 5) = true := by decide
    obtain ⟨v1, b2, e1, h1⟩ := drawT [] b1 3 (by decide) (by decide)
    obtain ⟨v2, b3, e2, h2⟩ := drawT [] b2 2 (by decide) (by decide)
    by_cases hv2 : v2 = 1
    · subst hv2
      have m : alt2 fMul (alt2 fRepL fRepX) (.d (.lst [.str "#"])) (.d (.int (39 + (v1 : Int)))) (bT [] b3) = some (.d (.lst ((List.replicate (39 + v1) [35]).map txD)), bT [] b3) := by
        have m := many_ok (n := 39 + v1) (by omega) (bT [] b3)
        rw [Int.natCast_add] at m
        exact m
      refine ⟨_, [], List.replicate (39 + v1) [35], b3, ?_, Lv.dat _ _, ⟨by rw [List.length_replicate]; omega, fun l h => by rw [List.eq_of_mem_replicate h]; decide, fun l h => by rw [List.eq_of_mem_replicate h]; decide⟩, by simp⟩
      simp -implicitDefEqProofs only [bind_ok, bind_er, bindN_ok, ofE_ok, ofE_er, seqO_nx, seqO_rt, seqO_er, seqO_bk, seqO_ct, loopO_nx, loopO_ct, loopO_bk, loopO_rt, loopO_er, lift_s, retO_rt, retO_nx, retO_er, mkO_ok, mkO_er, toOpt_ok, eVar_z, eVar_s, oL_z, oL_s, frz_z, frz_s, wipe_n, wipe_c, datas_n, datas_c, map_s, bind_s, setA_n, setA_c, p2_d, p1_d, pN_d, fEq_i, fEq_s, fEq_b, fEq_ii, fNe_i, fNe_s, fNe_b, fSub_i, fAdd_i, fAnd_i, fOr_i, fXor_i, fLt_i, fLe_i, fGt_i, fGe_i, fIs_d, fIsNot_d, fIsB_b, isB_b, tru_b, tru_i, tru_l, tru_t, orE_s, orE_n, alt2_e, alt1_e, altN_e, fIx_l, fIx_t, at_0, at_1, at_2, at_3, at_4, at_5, for_n, for_c, lc_n, len_lst, len_tup, kfn_c, kix_c, sSeq_e, sNil_e, sSet_e, sSet2_e, sRet_e, sRetN_e, sDrop_e, sIf_e, sBk_e, sCt_e, sFrz_e, sOwn_e, sFor_e, sUnp_e, eC_e, eOp_e, eUn_e, aNil_e, aCons_e, aApp_e, eFN_e, eCall_e, eMake_e, eCMeth_e, eCallO_e, eLst_e, eTup_e, nLst_e, nLc_e, eLc_e, lSeq_e, lTup_e, eIf_e, eAnd_e, eOr_e, eNot_e, bOf_e, bAnd_e, bOr_e, bNot_e, eFld_e, runB_e, env0_e, oN_e, List.set_cons_zero, List.set_cons_succ, List.map_cons, List.map_nil, List.cons_append, List.nil_append, List.replicate_succ, List.replicate_zero, List.length_cons, List.length_nil, List.getElem?_cons_zero, List.getElem?_cons_succ, reduceIte, if_true, if_false, Bool.false_eq_true, arN_t, decide_true, decide_false, isNon, Bool.not_true, Bool.not_false, Bool.true_and, Bool.false_and, Bool.and_true, Bool.and_false, bYes_e, lstMax_e, Nat.reduceAdd, Nat.reduceSub, Nat.reduceLeDiff, Int.reduceLT, Int.reduceLE, Int.reduceEq, String.reduceEq, and_self, decide_eq_true_eq, and_true, true_and, cPos_e, cDiv_e, fMod_i, fDiv_i, Int.reduceMod, Int.reduceDiv, Int.reduceSub, Int.reduceAdd, Int.reducePow, kOf_i, fsOf_i, fOwn_k, fOwn1_k, gFld_k, methO_e, methK_s, methA_s, ownK_s, ownK_n, ownK_m, own1K_s, own1K_n, fldK_s, sApp_e, appK_s, sOSub_e, osubK_s, eOIx_e, oixK_s, eOLen_e, olenK_s, ixN_p, Int.reduceToNat, Nat.reduceLT, oS_e, eSl_e, eSlT_e, kSet_e, kSet2_e, kDrop_e, kIf_t, kIf_f, kOwn_e, kApp_e, kOsub1_e, kOsub2_e, osK_s, kOix_e, ixK_s, kFor_e, kUnp_e, unpK_s, kOp1_e, kOp2_e, kUn_e, kC1_e, kC2_e, kA1_e, kA2_e, kFN_e, kCall_e, kMake_e, kCM_e, kMeth_e, kLst_e, lstK_s, kTup_e, tupK_s, kNl_e, nlK_s, nList_e, kNli_e, nliK_s, lOf_l, lOf_t, kNc1_e, kNc2_e, kLc1_e, kLc2_e, kSeq_e, kTpl_e, kEIf_t, kEIf_f, kEAnd_t, kEAnd_f, kEOr_t, kEOr_f, kENot_e, kB_e, kBAnd_t, kBAnd_f, kBOr_t, kBOr_f, kBNot_e, kOS_e, kSl1_e, kSl2_e, kSl3_e, kSt1_e, kSt2_e, kSt3_e, eMeth_e, kMe_e, lc_c, kL1_e, kL2_e, kT_t, kT_f, Int.cast_ofNat_Int, Int.natCast_zero, Int.natCast_one, lRng1_e, kRng_1, kRng_2, kRng_3, kRng_4, kRng_5, kRng_6, List.length_map, arS_0, sEr_e, sTryAs_e, tryK_nx, tryK_rt, tryK_er, afterO_rt, afterO_nx, eXf_e, xfS_s, xfK_s, plain_n, plain_e, List.all_cons, List.all_nil, eq_self, sTryN_e, tryN_nx, tryN_rt, tryN_h, tryN_t, dflI_e, dflF_e, not_false_eq_true, eMethK_e, kMK_e, kMK2_e, eProp_e, kPr_e, eNotO_e, kNotO_e, notK_s, eSlA_e, kSA1_e, kSA2_e, kSA3_l, kSA3_t, eGetO_e, kGet1_e, kGet2_e, getK_s, g__law_drawn_lines, m__law_drawn_lines, e0, d0, e1, e2, ↓m]
    · have d2 : decide ((v2 : Int) = 1) = false := decide_eq_false (by omega)
      obtain ⟨v3, b4, e3, h3⟩ := drawT [] b3 2 (by decide) (by decide)
      obtain ⟨ws, w1, w2, w3⟩ := tail_ok (bT [] b4) (39 + v1) v3 (by omega) (by omega) (by omega)
      rw [Int.natCast_add] at w3
      have c1 : eSlS (eC (.str "....")) (oNone) (oSome (eOp (fAdd) (eOp (fSub) (eVar 2) (eC (.int 40))) (eCall (arN 2) g__law_draw (aCons (eVar 0) (aCons (eC (.int 2)) (aNil)))))) [.ev (.o 1), .no, .ev (.d (.int (39 + (v1 : Int)))), .no, .no, .no, .no] (bT [] b3) = .ok (.d (.str (tx ws))) (bT [] b4) := by
        rw [← w3]
        exact cutm (l := [46, 46, 46, 46]) (by decide) rfl rfl (by simp -implicitDefEqProofs only [bind_ok, bind_er, bindN_ok, ofE_ok, ofE_er, seqO_nx, seqO_rt, seqO_er, seqO_bk, seqO_ct, loopO_nx, loopO_ct, loopO_bk, loopO_rt, loopO_er, lift_s, retO_rt, retO_nx, retO_er, mkO_ok, mkO_er, toOpt_ok, eVar_z, eVar_s, oL_z, oL_s, frz_z, frz_s, wipe_n, wipe_c, datas_n, datas_c, map_s, bind_s, setA_n, setA_c, p2_d, p1_d, pN_d, fEq_i, fEq_s, fEq_b, fEq_ii, fNe_i, fNe_s, fNe_b, fSub_i, fAdd_i, fAnd_i, fOr_i, fXor_i, fLt_i, fLe_i, fGt_i, fGe_i, fIs_d, fIsNot_d, fIsB_b, isB_b, tru_b, tru_i, tru_l, tru_t, orE_s, orE_n, alt2_e, alt1_e, altN_e, fIx_l, fIx_t, at_0, at_1, at_2, at_3, at_4, at_5, for_n, for_c, lc_n, len_lst, len_tup, kfn_c, kix_c, sSeq_e, sNil_e, sSet_e, sSet2_e, sRet_e, sRetN_e, sDrop_e, sIf_e, sBk_e, sCt_e, sFrz_e, sOwn_e, sFor_e, sUnp_e, eC_e, eOp_e, eUn_e, aNil_e, aCons_e, aApp_e, eFN_e, eCall_e, eMake_e, eCMeth_e, eCallO_e, eLst_e, eTup_e, nLst_e, nLc_e, eLc_e, lSeq_e, lTup_e, eIf_e, eAnd_e, eOr_e, eNot_e, bOf_e, bAnd_e, bOr_e, bNot_e, eFld_e, runB_e, env0_e, oN_e, List.set_cons_zero, List.set_cons_succ, List.map_cons, List.map_nil, List.cons_append, List.nil_append, List.replicate_succ, List.replicate_zero, List.length_cons, List.length_nil, List.getElem?_cons_zero, List.getElem?_cons_succ, reduceIte, if_true, if_false, Bool.false_eq_true, arN_t, decide_true, decide_false, isNon, Bool.not_true, Bool.not_false, Bool.true_and, Bool.false_and, Bool.and_true, Bool.and_false, bYes_e, lstMax_e, Nat.reduceAdd, Nat.reduceSub, Nat.reduceLeDiff, Int.reduceLT, Int.reduceLE, Int.reduceEq, String.reduceEq, and_self, decide_eq_true_eq, and_true, true_and, cPos_e, cDiv_e, fMod_i, fDiv_i, Int.reduceMod, Int.reduceDiv, Int.reduceSub, Int.reduceAdd, Int.reducePow, kOf_i, fsOf_i, fOwn_k, fOwn1_k, gFld_k, methO_e, methK_s, methA_s, ownK_s, ownK_n, ownK_m, own1K_s, own1K_n, fldK_s, sApp_e, appK_s, sOSub_e, osubK_s, eOIx_e, oixK_s, eOLen_e, olenK_s, ixN_p, Int.reduceToNat, Nat.reduceLT, oS_e, eSl_e, eSlT_e, kSet_e, kSet2_e, kDrop_e, kIf_t, kIf_f, kOwn_e, kApp_e, kOsub1_e, kOsub2_e, osK_s, kOix_e, ixK_s, kFor_e, kUnp_e, unpK_s, kOp1_e, kOp2_e, kUn_e, kC1_e, kC2_e, kA1_e, kA2_e, kFN_e, kCall_e, kMake_e, kCM_e, kMeth_e, kLst_e, lstK_s, kTup_e, tupK_s, kNl_e, nlK_s, nList_e, kNli_e, nliK_s, lOf_l, lOf_t, kNc1_e, kNc2_e, kLc1_e, kLc2_e, kSeq_e, kTpl_e, kEIf_t, kEIf_f, kEAnd_t, kEAnd_f, kEOr_t, kEOr_f, kENot_e, kB_e, kBAnd_t, kBAnd_f, kBOr_t, kBOr_f, kBNot_e, kOS_e, kSl1_e, kSl2_e, kSl3_e, kSt1_e, kSt2_e, kSt3_e, eMeth_e, kMe_e, lc_c, kL1_e, kL2_e, kT_t, kT_f, Int.cast_ofNat_Int, Int.natCast_zero, Int.natCast_one, lRng1_e, kRng_1, kRng_2, kRng_3, kRng_4, kRng_5, kRng_6, List.length_map, arS_0, sEr_e, sTryAs_e, tryK_nx, tryK_rt, tryK_er, afterO_rt, afterO_nx, eXf_e, xfS_s, xfK_s, plain_n, plain_e, List.all_cons, List.all_nil, eq_self, sTryN_e, tryN_nx, tryN_rt, tryN_h, tryN_t, dflI_e, dflF_e, not_false_eq_true, eMethK_e, kMK_e, kMK2_e, eProp_e, kPr_e, eNotO_e, kNotO_e, notK_s, eSlA_e, kSA1_e, kSA2_e, kSA3_l, kSA3_t, eGetO_e, kGet1_e, kGet2_e, getK_s, e3])
      have m := dot20_ok (bT [] b3)
      have ad := add_tx (a := dot20) (b := ws) (by have : dot20.length = 40 := rfl; omega) (bT [] b4)
      refine ⟨_, [], [dot20 ++ ws], b4, ?_, Lv.dat _ _, ⟨by simp, fun l h => by rw [List.mem_singleton.mp h, List.length_append]; have : dot20.length = 40 := rfl; omega, fun l h c hc => ?_⟩, by simp⟩
      · simp -implicitDefEqProofs only [bind_ok, bind_er, bindN_ok, ofE_ok, ofE_er, seqO_nx, seqO_rt, seqO_er, seqO_bk, seqO_ct, loopO_nx, loopO_ct, loopO_bk, loopO_rt, loopO_er, lift_s, retO_rt, retO_nx, retO_er, mkO_ok, mkO_er, toOpt_ok, eVar_z, eVar_s, oL_z, oL_s, frz_z, frz_s, wipe_n, wipe_c, datas_n, datas_c, map_s, bind_s, setA_n, setA_c, p2_d, p1_d, pN_d, fEq_i, fEq_s, fEq_b, fEq_ii, fNe_i, fNe_s, fNe_b, fSub_i, fAdd_i, fAnd_i, fOr_i, fXor_i, fLt_i, fLe_i, fGt_i, fGe_i, fIs_d, fIsNot_d, fIsB_b, isB_b, tru_b, tru_i, tru_l, tru_t, orE_s, orE_n, alt2_e, alt1_e, altN_e, fIx_l, fIx_t, at_0, at_1, at_2, at_3, at_4, at_5, for_n, for_c, lc_n, len_lst, len_tup, kfn_c, kix_c, sSeq_e, sNil_e, sSet_e, sSet2_e, sRet_e, sRetN_e, sDrop_e, sIf_e, sBk_e, sCt_e, sFrz_e, sOwn_e, sFor_e, sUnp_e, eC_e, eOp_e, eUn_e, aNil_e, aCons_e, aApp_e, eFN_e, eCall_e, eMake_e, eCMeth_e, eCallO_e, eLst_e, eTup_e, nLst_e, nLc_e, eLc_e, lSeq_e, lTup_e, eIf_e, eAnd_e, eOr_e, eNot_e, bOf_e, bAnd_e, bOr_e, bNot_e, eFld_e, runB_e, env0_e, oN_e, List.set_cons_zero, List.set_cons_succ, List.map_cons, List.map_nil, List.cons_append, List.nil_append, List.replicate_succ, List.replicate_zero, List.length_cons, List.length_nil, List.getElem?_cons_zero, List.getElem?_cons_succ, reduceIte, if_true, if_false, Bool.false_eq_true, arN_t, decide_true, decide_false, isNon, Bool.not_true, Bool.not_false, Bool.true_and, Bool.false_and, Bool.and_true, Bool.and_false, bYes_e, lstMax_e, Nat.reduceAdd, Nat.reduceSub, Nat.reduceLeDiff, Int.reduceLT, Int.reduceLE, Int.reduceEq, String.reduceEq, and_self, decide_eq_true_eq, and_true, true_and, cPos_e, cDiv_e, fMod_i, fDiv_i, Int.reduceMod, Int.reduceDiv, Int.reduceSub, Int.reduceAdd, Int.reducePow, kOf_i, fsOf_i, fOwn_k, fOwn1_k, gFld_k, methO_e, methK_s, methA_s, ownK_s, ownK_n, ownK_m, own1K_s, own1K_n, fldK_s, sApp_e, appK_s, sOSub_e, osubK_s, eOIx_e, oixK_s, eOLen_e, olenK_s, ixN_p, Int.reduceToNat, Nat.reduceLT, oS_e, eSl_e, eSlT_e, kSet_e, kSet2_e, kDrop_e, kIf_t, kIf_f, kOwn_e, kApp_e, kOsub1_e, kOsub2_e, osK_s, kOix_e, ixK_s, kFor_e, kUnp_e, unpK_s, kOp1_e, kOp2_e, kUn_e, kC1_e, kC2_e, kA1_e, kA2_e, kFN_e, kCall_e, kMake_e, kCM_e, kMeth_e, kLst_e, lstK_s, kTup_e, tupK_s, kNl_e, nlK_s, nList_e, kNli_e, nliK_s, lOf_l, lOf_t, kNc1_e, kNc2_e, kLc1_e, kLc2_e, kSeq_e, kTpl_e, kEIf_t, kEIf_f, kEAnd_t, kEAnd_f, kEOr_t, kEOr_f, kENot_e, kB_e, kBAnd_t, kBAnd_f, kBOr_t, kBOr_f, kBNot_e, kOS_e, kSl1_e, kSl2_e, kSl3_e, kSt1_e, kSt2_e, kSt3_e, eMeth_e, kMe_e, lc_c, kL1_e, kL2_e, kT_t, kT_f, Int.cast_ofNat_Int, Int.natCast_zero, Int.natCast_one, lRng1_e, kRng_1, kRng_2, kRng_3, kRng_4, kRng_5, kRng_6, List.length_map, arS_0, sEr_e, sTryAs_e, tryK_nx, tryK_rt, tryK_er, afterO_rt, afterO_nx, eXf_e, xfS_s, xfK_s, plain_n, plain_e, List.all_cons, List.all_nil, eq_self, sTryN_e, tryN_nx, tryN_rt, tryN_h, tryN_t, dflI_e, dflF_e, not_false_eq_true, eMethK_e, kMK_e, kMK2_e, eProp_e, kPr_e, eNotO_e, kNotO_e, notK_s, eSlA_e, kSA1_e, kSA2_e, kSA3_l, kSA3_t, eGetO_e, kGet1_e, kGet2_e, getK_s, g__law_drawn_lines, m__law_drawn_lines, e0, d0, e1, e2, d2, ↓m, ↓c1, ad]
        rfl
      · rw [List.mem_singleton.mp h] at hc
        rcases List.mem_append.mp hc with z | z
        · exact (by decide : ∀ c ∈ dot20, c < 128) c z
        · exact w2 c z
  · have d0 : decide ((v0 : Int) = 5) = false := decide_eq_false (by omega)
    obtain ⟨v1, b2, e1, h1⟩ := drawT [] b1 6 (by decide) (by decide)
    obtain ⟨v2, b3, e2, h2⟩ := drawT [] b2 6 (by decide) (by decide)
    obtain ⟨L, b4, l1, l2, l3, el⟩ := linesT (w := 1 + v1) (h := v2) [] (by omega) (by omega) b3
    rw [Int.natCast_add] at el
    have el' : g__law_lines [.o 1, .d (.int (1 + (v1 : Int))), .d (.int (v2 : Nat))] (bT [] b3) = .ok (.o 2) (bT [ent L] b4) := el
    have lv : Lv (.o 2) [ent L] L := Lv.new [] L
    have ln : Ln L := ⟨by omega, fun l h => by have := l2 l h; omega, fun l h => low_of (l3 l h)⟩
    have le := lv.len b4
    have start : g__law_drawn_lines [.o 1] (bT [] b) = retO (sSeq (sIf (bAnd (bOf isB (eOp (fGt) (eFN fLen (aCons (eVar 1) (aNil))) (eC (.int 0)))) (bOf isB (eOp (fEq) (eCall (arN 2) g__law_draw (aCons (eVar 0) (aCons (eC (.int 2)) (aNil)))) (eC (.int 1))))) BODY sNil) (sRet (eVar 1)) [.ev (.o 1), .ev (.o 2), .no, .no, .no, .no, .no] (bT [ent L] b4)) := by
      have a0 : sIf (bOf isB (eOp (fEq) (eCall (arN 2) g__law_draw (aCons (eVar 0) (aCons (eC (.int 6)) (aNil)))) (eC (.int 5)))) (sSeq (sSet 2 (eOp (fAdd) (eC (.int 39)) (eCall (arN 2) g__law_draw (aCons (eVar 0) (aCons (eC (.int 3)) (aNil)))))) (sSeq (sIf (bOf isB (eOp (fEq) (eCall (arN 2) g__law_draw (aCons (eVar 0) (aCons (eC (.int 2)) (aNil)))) (eC (.int 1)))) (sRet (eOp (alt2 (fMul) (alt2 fRepL fRepX)) (eLst (aCons (eC (.str "#")) (aNil))) (eVar 2))) (sNil)) (sRet (eLst (aCons (eOp (fAdd) (eOp (alt2 (fMul) (alt2 fRepL fRepX)) (eC (.str ".#")) (eC (.int 20))) (eSlS (eC (.str "....")) (oNone) (oSome (eOp (fAdd) (eOp (fSub) (eVar 2) (eC (.int 40))) (eCall (arN 2) g__law_draw (aCons (eVar 0) (aCons (eC (.int 2)) (aNil)))))))) (aNil)))))) (sNil) [.ev (.o 1), .no, .no, .no, .no, .no, .no] (bT [] b) = .nx [.ev (.o 1), .no, .no, .no, .no, .no, .no] (bT [] b1) := by
        simp -implicitDefEqProofs only [bind_ok, bind_er, bindN_ok, ofE_ok, ofE_er, seqO_nx, seqO_rt, seqO_er, seqO_bk, seqO_ct, loopO_nx, loopO_ct, loopO_bk, loopO_rt, loopO_er, lift_s, retO_rt, retO_nx, retO_er, mkO_ok, mkO_er, toOpt_ok, eVar_z, eVar_s, oL_z, oL_s, frz_z, frz_s, wipe_n, wipe_c, datas_n, datas_c, map_s, bind_s, setA_n, setA_c, p2_d, p1_d, pN_d, fEq_i, fEq_s, fEq_b, fEq_ii, fNe_i, fNe_s, fNe_b, fSub_i, fAdd_i, fAnd_i, fOr_i, fXor_i, fLt_i, fLe_i, fGt_i, fGe_i, fIs_d, fIsNot_d, fIsB_b, isB_b, tru_b, tru_i, tru_l, tru_t, orE_s, orE_n, alt2_e, alt1_e, altN_e, fIx_l, fIx_t, at_0, at_1, at_2, at_3, at_4, at_5, for_n, for_c, lc_n, len_lst, len_tup, kfn_c, kix_c, sSeq_e, sNil_e, sSet_e, sSet2_e, sRet_e, sRetN_e, sDrop_e, sIf_e, sBk_e, sCt_e, sFrz_e, sOwn_e, sFor_e, sUnp_e, eC_e, eOp_e, eUn_e, aNil_e, aCons_e, aApp_e, eFN_e, eCall_e, eMake_e, eCMeth_e, eCallO_e, eLst_e, eTup_e, nLst_e, nLc_e, eLc_e, lSeq_e, lTup_e, eIf_e, eAnd_e, eOr_e, eNot_e, bOf_e, bAnd_e, bOr_e, bNot_e, eFld_e, runB_e, env0_e, oN_e, List.set_cons_zero, List.set_cons_succ, List.map_cons, List.map_nil, List.cons_append, List.nil_append, List.replicate_succ, List.replicate_zero, List.length_cons, List.length_nil, List.getElem?_cons_zero, List.getElem?_cons_succ, reduceIte, if_true, if_false, Bool.false_eq_true, arN_t, decide_true, decide_false, isNon, Bool.not_true, Bool.not_false, Bool.true_and, Bool.false_and, Bool.and_true, Bool.and_false, bYes_e, lstMax_e, Nat.reduceAdd, Nat.reduceSub, Nat.reduceLeDiff, Int.reduceLT, Int.reduceLE, Int.reduceEq, String.reduceEq, and_self, decide_eq_true_eq, and_true, true_and, cPos_e, cDiv_e, fMod_i, fDiv_i, Int.reduceMod, Int.reduceDiv, Int.reduceSub, Int.reduceAdd, Int.reducePow, kOf_i, fsOf_i, fOwn_k, fOwn1_k, gFld_k, methO_e, methK_s, methA_s, ownK_s, ownK_n, ownK_m, own1K_s, own1K_n, fldK_s, sApp_e, appK_s, sOSub_e, osubK_s, eOIx_e, oixK_s, eOLen_e, olenK_s, ixN_p, Int.reduceToNat, Nat.reduceLT, oS_e, eSl_e, eSlT_e, kSet_e, kSet2_e, kDrop_e, kIf_t, kIf_f, kOwn_e, kApp_e, kOsub1_e, kOsub2_e, osK_s, kOix_e, ixK_s, kFor_e, kUnp_e, unpK_s, kOp1_e, kOp2_e, kUn_e, kC1_e, kC2_e, kA1_e, kA2_e, kFN_e, kCall_e, kMake_e, kCM_e, kMeth_e, kLst_e, lstK_s, kTup_e, tupK_s, kNl_e, nlK_s, nList_e, kNli_e, nliK_s, lOf_l, lOf_t, kNc1_e, kNc2_e, kLc1_e, kLc2_e, kSeq_e, kTpl_e, kEIf_t, kEIf_f, kEAnd_t, kEAnd_f, kEOr_t, kEOr_f, kENot_e, kB_e, kBAnd_t, kBAnd_f, kBOr_t, kBOr_f, kBNot_e, kOS_e, kSl1_e, kSl2_e, kSl3_e, kSt1_e, kSt2_e, kSt3_e, eMeth_e, kMe_e, lc_c, kL1_e, kL2_e, kT_t, kT_f, Int.cast_ofNat_Int, Int.natCast_zero, Int.natCast_one, lRng1_e, kRng_1, kRng_2, kRng_3, kRng_4, kRng_5, kRng_6, List.length_map, arS_0, sEr_e, sTryAs_e, tryK_nx, tryK_rt, tryK_er, afterO_rt, afterO_nx, eXf_e, xfS_s, xfK_s, plain_n, plain_e, List.all_cons, List.all_nil, eq_self, sTryN_e, tryN_nx, tryN_rt, tryN_h, tryN_t, dflI_e, dflF_e, not_false_eq_true, eMethK_e, kMK_e, kMK2_e, eProp_e, kPr_e, eNotO_e, kNotO_e, notK_s, eSlA_e, kSA1_e, kSA2_e, kSA3_l, kSA3_t, eGetO_e, kGet1_e, kGet2_e, getK_s, e0, d0]
      have a1 : sSet 1 (eCall (arN 3) g__law_lines (aCons (eVar 0) (aCons (eOp (fAdd) (eC (.int 1)) (eCall (arN 2) g__law_draw (aCons (eVar 0) (aCons (eC (.int 6)) (aNil))))) (aCons (eCall (arN 2) g__law_draw (aCons (eVar 0) (aCons (eC (.int 6)) (aNil)))) (aNil))))) [.ev (.o 1), .no, .no, .no, .no, .no, .no] (bT [] b1) = .nx [.ev (.o 1), .ev (.o 2), .no, .no, .no, .no, .no] (bT [ent L] b4) := by
        simp -implicitDefEqProofs only [bind_ok, bind_er, bindN_ok, ofE_ok, ofE_er, seqO_nx, seqO_rt, seqO_er, seqO_bk, seqO_ct, loopO_nx, loopO_ct, loopO_bk, loopO_rt, loopO_er, lift_s, retO_rt, retO_nx, retO_er, mkO_ok, mkO_er, toOpt_ok, eVar_z, eVar_s, oL_z, oL_s, frz_z, frz_s, wipe_n, wipe_c, datas_n, datas_c, map_s, bind_s, setA_n, setA_c, p2_d, p1_d, pN_d, fEq_i, fEq_s, fEq_b, fEq_ii, fNe_i, fNe_s, fNe_b, fSub_i, fAdd_i, fAnd_i, fOr_i, fXor_i, fLt_i, fLe_i, fGt_i, fGe_i, fIs_d, fIsNot_d, fIsB_b, isB_b, tru_b, tru_i, tru_l, tru_t, orE_s, orE_n, alt2_e, alt1_e, altN_e, fIx_l, fIx_t, at_0, at_1, at_2, at_3, at_4, at_5, for_n, for_c, lc_n, len_lst, len_tup, kfn_c, kix_c, sSeq_e, sNil_e, sSet_e, sSet2_e, sRet_e, sRetN_e, sDrop_e, sIf_e, sBk_e, sCt_e, sFrz_e, sOwn_e, sFor_e, sUnp_e, eC_e, eOp_e, eUn_e, aNil_e, aCons_e, aApp_e, eFN_e, eCall_e, eMake_e, eCMeth_e, eCallO_e, eLst_e, eTup_e, nLst_e, nLc_e, eLc_e, lSeq_e, lTup_e, eIf_e, eAnd_e, eOr_e, eNot_e, bOf_e, bAnd_e, bOr_e, bNot_e, eFld_e, runB_e, env0_e, oN_e, List.set_cons_zero, List.set_cons_succ, List.map_cons, List.map_nil, List.cons_append, List.nil_append, List.replicate_succ, List.replicate_zero, List.length_cons, List.length_nil, List.getElem?_cons_zero, List.getElem?_cons_succ, reduceIte, if_true, if_false, Bool.false_eq_true, arN_t, decide_true, decide_false, isNon, Bool.not_true, Bool.not_false, Bool.true_and, Bool.false_and, Bool.and_true, Bool.and_false, bYes_e, lstMax_e, Nat.reduceAdd, Nat.reduceSub, Nat.reduceLeDiff, Int.reduceLT, Int.reduceLE, Int.reduceEq, String.reduceEq, and_self, decide_eq_true_eq, and_true, true_and, cPos_e, cDiv_e, fMod_i, fDiv_i, Int.reduceMod, Int.reduceDiv, Int.reduceSub, Int.reduceAdd, Int.reducePow, kOf_i, fsOf_i, fOwn_k, fOwn1_k, gFld_k, methO_e, methK_s, methA_s, ownK_s, ownK_n, ownK_m, own1K_s, own1K_n, fldK_s, sApp_e, appK_s, sOSub_e, osubK_s, eOIx_e, oixK_s, eOLen_e, olenK_s, ixN_p, Int.reduceToNat, Nat.reduceLT, oS_e, eSl_e, eSlT_e, kSet_e, kSet2_e, kDrop_e, kIf_t, kIf_f, kOwn_e, kApp_e, kOsub1_e, kOsub2_e, osK_s, kOix_e, ixK_s, kFor_e, kUnp_e, unpK_s, kOp1_e, kOp2_e, kUn_e, kC1_e, kC2_e, kA1_e, kA2_e, kFN_e, kCall_e, kMake_e, kCM_e, kMeth_e, kLst_e, lstK_s, kTup_e, tupK_s, kNl_e, nlK_s, nList_e, kNli_e, nliK_s, lOf_l, lOf_t, kNc1_e, kNc2_e, kLc1_e, kLc2_e, kSeq_e, kTpl_e, kEIf_t, kEIf_f, kEAnd_t, kEAnd_f, kEOr_t, kEOr_f, kENot_e, kB_e, kBAnd_t, kBAnd_f, kBOr_t, kBOr_f, kBNot_e, kOS_e, kSl1_e, kSl2_e, kSl3_e, kSt1_e, kSt2_e, kSt3_e, eMeth_e, kMe_e, lc_c, kL1_e, kL2_e, kT_t, kT_f, Int.cast_ofNat_Int, Int.natCast_zero, Int.natCast_one, lRng1_e, kRng_1, kRng_2, kRng_3, kRng_4, kRng_5, kRng_6, List.length_map, arS_0, sEr_e, sTryAs_e, tryK_nx, tryK_rt, tryK_er, afterO_rt, afterO_nx, eXf_e, xfS_s, xfK_s, plain_n, plain_e, List.all_cons, List.all_nil, eq_self, sTryN_e, tryN_nx, tryN_rt, tryN_h, tryN_t, dflI_e, dflF_e, not_false_eq_true, eMethK_e, kMK_e, kMK2_e, eProp_e, kPr_e, eNotO_e, kNotO_e, notK_s, eSlA_e, kSA1_e, kSA2_e, kSA3_l, kSA3_t, eGetO_e, kGet1_e, kGet2_e, getK_s, e1, e2, el']
      show retO (sSeq _ (sSeq (sSet 1 _) _) [.ev (.o 1), .no, .no, .no, .no, .no, .no] (bT [] b)) = _
      rw [sqn a0, sqn a1]
      rfl
    rw [start]
    by_cases hL : 0 < L.length
    · have dl : decide ((0 : Int) < (L.length : Int)) = true := decide_eq_true (by omega)
      obtain ⟨v3, b5, e3, h3⟩ := drawT [ent L] b4 2 (by decide) (by decide)
      by_cases hv3 : v3 = 1
      · subst hv3
        obtain ⟨env', L', b6, eb, e1', ln'⟩ := body_ok hL (by omega) l2 (by omega) (by omega) l3 b5
        refine ⟨.o 2, [ent L'], L', b6, ?_, Lv.new [] L', ln', by simp⟩
        have t : bAnd (bOf isB (eOp (fGt) (eFN fLen (aCons (eVar 1) (aNil))) (eC (.int 0)))) (bOf isB (eOp (fEq) (eCall (arN 2) g__law_draw (aCons (eVar 0) (aCons (eC (.int 2)) (aNil)))) (eC (.int 1)))) [.ev (.o 1), .ev (.o 2), .no, .no, .no, .no, .no] (bT [ent L] b4) = .ok true (bT [ent L] b5) := by
          simp -implicitDefEqProofs only [bind_ok, bind_er, bindN_ok, ofE_ok, ofE_er, seqO_nx, seqO_rt, seqO_er, seqO_bk, seqO_ct, loopO_nx, loopO_ct, loopO_bk, loopO_rt, loopO_er, lift_s, retO_rt, retO_nx, retO_er, mkO_ok, mkO_er, toOpt_ok, eVar_z, eVar_s, oL_z, oL_s, frz_z, frz_s, wipe_n, wipe_c, datas_n, datas_c, map_s, bind_s, setA_n, setA_c, p2_d, p1_d, pN_d, fEq_i, fEq_s, fEq_b, fEq_ii, fNe_i, fNe_s, fNe_b, fSub_i, fAdd_i, fAnd_i, fOr_i, fXor_i, fLt_i, fLe_i, fGt_i, fGe_i, fIs_d, fIsNot_d, fIsB_b, isB_b, tru_b, tru_i, tru_l, tru_t, orE_s, orE_n, alt2_e, alt1_e, altN_e, fIx_l, fIx_t, at_0, at_1, at_2, at_3, at_4, at_5, for_n, for_c, lc_n, len_lst, len_tup, kfn_c, kix_c, sSeq_e, sNil_e, sSet_e, sSet2_e, sRet_e, sRetN_e, sDrop_e, sIf_e, sBk_e, sCt_e, sFrz_e, sOwn_e, sFor_e, sUnp_e, eC_e, eOp_e, eUn_e, aNil_e, aCons_e, aApp_e, eFN_e, eCall_e, eMake_e, eCMeth_e, eCallO_e, eLst_e, eTup_e, nLst_e, nLc_e, eLc_e, lSeq_e, lTup_e, eIf_e, eAnd_e, eOr_e, eNot_e, bOf_e, bAnd_e, bOr_e, bNot_e, eFld_e, runB_e, env0_e, oN_e, List.set_cons_zero, List.set_cons_succ, List.map_cons, List.map_nil, List.cons_append, List.nil_append, List.replicate_succ, List.replicate_zero, List.length_cons, List.length_nil, List.getElem?_cons_zero, List.getElem?_cons_succ, reduceIte, if_true, if_false, Bool.false_eq_true, arN_t, decide_true, decide_false, isNon, Bool.not_true, Bool.not_false, Bool.true_and, Bool.false_and, Bool.and_true, Bool.and_false, bYes_e, lstMax_e, Nat.reduceAdd, Nat.reduceSub, Nat.reduceLeDiff, Int.reduceLT, Int.reduceLE, Int.reduceEq, String.reduceEq, and_self, decide_eq_true_eq, and_true, true_and, cPos_e, cDiv_e, fMod_i, fDiv_i, Int.reduceMod, Int.reduceDiv, Int.reduceSub, Int.reduceAdd, Int.reducePow, kOf_i, fsOf_i, fOwn_k, fOwn1_k, gFld_k, methO_e, methK_s, methA_s, ownK_s, ownK_n, ownK_m, own1K_s, own1K_n, fldK_s, sApp_e, appK_s, sOSub_e, osubK_s, eOIx_e, oixK_s, eOLen_e, olenK_s, ixN_p, Int.reduceToNat, Nat.reduceLT, oS_e, eSl_e, eSlT_e, kSet_e, kSet2_e, kDrop_e, kIf_t, kIf_f, kOwn_e, kApp_e, kOsub1_e, kOsub2_e, osK_s, kOix_e, ixK_s, kFor_e, kUnp_e, unpK_s, kOp1_e, kOp2_e, kUn_e, kC1_e, kC2_e, kA1_e, kA2_e, kFN_e, kCall_e, kMake_e, kCM_e, kMeth_e, kLst_e, lstK_s, kTup_e, tupK_s, kNl_e, nlK_s, nList_e, kNli_e, nliK_s, lOf_l, lOf_t, kNc1_e, kNc2_e, kLc1_e, kLc2_e, kSeq_e, kTpl_e, kEIf_t, kEIf_f, kEAnd_t, kEAnd_f, kEOr_t, kEOr_f, kENot_e, kB_e, kBAnd_t, kBAnd_f, kBOr_t, kBOr_f, kBNot_e, kOS_e, kSl1_e, kSl2_e, kSl3_e, kSt1_e, kSt2_e, kSt3_e, eMeth_e, kMe_e, lc_c, kL1_e, kL2_e, kT_t, kT_f, Int.cast_ofNat_Int, Int.natCast_zero, Int.natCast_one, lRng1_e, kRng_1, kRng_2, kRng_3, kRng_4, kRng_5, kRng_6, List.length_map, arS_0, sEr_e, sTryAs_e, tryK_nx, tryK_rt, tryK_er, afterO_rt, afterO_nx, eXf_e, xfS_s, xfK_s, plain_n, plain_e, List.all_cons, List.all_nil, eq_self, sTryN_e, tryN_nx, tryN_rt, tryN_h, tryN_t, dflI_e, dflF_e, not_false_eq_true, eMethK_e, kMK_e, kMK2_e, eProp_e, kPr_e, eNotO_e, kNotO_e, notK_s, eSlA_e, kSA1_e, kSA2_e, kSA3_l, kSA3_t, eGetO_e, kGet1_e, kGet2_e, getK_s, le, dl, e3]
        rw [sqn ((ift t).trans (if_pos rfl |>.trans eb))]
        have v1' : eVar 1 env' (bT [ent L'] b6) = .ok (.o 2) (bT [ent L'] b6) := by
          unfold eVar
          rw [e1']
        rw [sret_eq v1']
        rfl
      · have d3 : decide ((v3 : Int) = 1) = false := decide_eq_false (by omega)
        refine ⟨.o 2, [ent L], L, b5, ?_, lv, ln, by simp⟩
        simp -implicitDefEqProofs only [bind_ok, bind_er, bindN_ok, ofE_ok, ofE_er, seqO_nx, seqO_rt, seqO_er, seqO_bk, seqO_ct, loopO_nx, loopO_ct, loopO_bk, loopO_rt, loopO_er, lift_s, retO_rt, retO_nx, retO_er, mkO_ok, mkO_er, toOpt_ok, eVar_z, eVar_s, oL_z, oL_s, frz_z, frz_s, wipe_n, wipe_c, datas_n, datas_c, map_s, bind_s, setA_n, setA_c, p2_d, p1_d, pN_d, fEq_i, fEq_s, fEq_b, fEq_ii, fNe_i, fNe_s, fNe_b, fSub_i, fAdd_i, fAnd_i, fOr_i, fXor_i, fLt_i, fLe_i, fGt_i, fGe_i, fIs_d, fIsNot_d, fIsB_b, isB_b, tru_b, tru_i, tru_l, tru_t, orE_s, orE_n, alt2_e, alt1_e, altN_e, fIx_l, fIx_t, at_0, at_1, at_2, at_3, at_4, at_5, for_n, for_c, lc_n, len_lst, len_tup, kfn_c, kix_c, sSeq_e, sNil_e, sSet_e, sSet2_e, sRet_e, sRetN_e, sDrop_e, sIf_e, sBk_e, sCt_e, sFrz_e, sOwn_e, sFor_e, sUnp_e, eC_e, eOp_e, eUn_e, aNil_e, aCons_e, aApp_e, eFN_e, eCall_e, eMake_e, eCMeth_e, eCallO_e, eLst_e, eTup_e, nLst_e, nLc_e, eLc_e, lSeq_e, lTup_e, eIf_e, eAnd_e, eOr_e, eNot_e, bOf_e, bAnd_e, bOr_e, bNot_e, eFld_e, runB_e, env0_e, oN_e, List.set_cons_zero, List.set_cons_succ, List.map_cons, List.map_nil, List.cons_append, List.nil_append, List.replicate_succ, List.replicate_zero, List.length_cons, List.length_nil, List.getElem?_cons_zero, List.getElem?_cons_succ, reduceIte, if_true, if_false, Bool.false_eq_true, arN_t, decide_true, decide_false, isNon, Bool.not_true, Bool.not_false, Bool.true_and, Bool.false_and, Bool.and_true, Bool.and_false, bYes_e, lstMax_e, Nat.reduceAdd, Nat.reduceSub, Nat.reduceLeDiff, Int.reduceLT, Int.reduceLE, Int.reduceEq, String.reduceEq, and_self, decide_eq_true_eq, and_true, true_and, cPos_e, cDiv_e, fMod_i, fDiv_i, Int.reduceMod, Int.reduceDiv, Int.reduceSub, Int.reduceAdd, Int.reducePow, kOf_i, fsOf_i, fOwn_k, fOwn1_k, gFld_k, methO_e, methK_s, methA_s, ownK_s, ownK_n, ownK_m, own1K_s, own1K_n, fldK_s, sApp_e, appK_s, sOSub_e, osubK_s, eOIx_e, oixK_s, eOLen_e, olenK_s, ixN_p, Int.reduceToNat, Nat.reduceLT, oS_e, eSl_e, eSlT_e, kSet_e, kSet2_e, kDrop_e, kIf_t, kIf_f, kOwn_e, kApp_e, kOsub1_e, kOsub2_e, osK_s, kOix_e, ixK_s, kFor_e, kUnp_e, unpK_s, kOp1_e, kOp2_e, kUn_e, kC1_e, kC2_e, kA1_e, kA2_e, kFN_e, kCall_e, kMake_e, kCM_e, kMeth_e, kLst_e, lstK_s, kTup_e, tupK_s, kNl_e, nlK_s, nList_e, kNli_e, nliK_s, lOf_l, lOf_t, kNc1_e, kNc2_e, kLc1_e, kLc2_e, kSeq_e, kTpl_e, kEIf_t, kEIf_f, kEAnd_t, kEAnd_f, kEOr_t, kEOr_f, kENot_e, kB_e, kBAnd_t, kBAnd_f, kBOr_t, kBOr_f, kBNot_e, kOS_e, kSl1_e, kSl2_e, kSl3_e, kSt1_e, kSt2_e, kSt3_e, eMeth_e, kMe_e, lc_c, kL1_e, kL2_e, kT_t, kT_f, Int.cast_ofNat_Int, Int.natCast_zero, Int.natCast_one, lRng1_e, kRng_1, kRng_2, kRng_3, kRng_4, kRng_5, kRng_6, List.length_map, arS_0, sEr_e, sTryAs_e, tryK_nx, tryK_rt, tryK_er, afterO_rt, afterO_nx, eXf_e, xfS_s, xfK_s, plain_n, plain_e, List.all_cons, List.all_nil, eq_self, sTryN_e, tryN_nx, tryN_rt, tryN_h, tryN_t, dflI_e, dflF_e, not_false_eq_true, eMethK_e, kMK_e, kMK2_e, eProp_e, kPr_e, eNotO_e, kNotO_e, notK_s, eSlA_e, kSA1_e, kSA2_e, kSA3_l, kSA3_t, eGetO_e, kGet1_e, kGet2_e, getK_s, le, dl, e3, d3]
    · have dl : decide ((0 : Int) < (L.length : Int)) = false := decide_eq_false (by omega)
      refine ⟨.o 2, [ent L], L, b4, ?_, lv, ln, by simp⟩
      simp -implicitDefEqProofs only [bind_ok, bind_er, bindN_ok, ofE_ok, ofE_er, seqO_nx, seqO_rt, seqO_er, seqO_bk, seqO_ct, loopO_nx, loopO_ct, loopO_bk, loopO_rt, loopO_er, lift_s, retO_rt, retO_nx, retO_er, mkO_ok, mkO_er, toOpt_ok, eVar_z, eVar_s, oL_z, oL_s, frz_z, frz_s, wipe_n, wipe_c, datas_n, datas_c, map_s, bind_s, setA_n, setA_c, p2_d, p1_d, pN_d, fEq_i, fEq_s, fEq_b, fEq_ii, fNe_i, fNe_s, fNe_b, fSub_i, fAdd_i, fAnd_i, fOr_i, fXor_i, fLt_i, fLe_i, fGt_i, fGe_i, fIs_d, fIsNot_d, fIsB_b, isB_b, tru_b, tru_i, tru_l, tru_t, orE_s, orE_n, alt2_e, alt1_e, altN_e, fIx_l, fIx_t, at_0, at_1, at_2, at_3, at_4, at_5, for_n, for_c, lc_n, len_lst, len_tup, kfn_c, kix_c, sSeq_e, sNil_e, sSet_e, sSet2_e, sRet_e, sRetN_e, sDrop_e, sIf_e, sBk_e, sCt_e, sFrz_e, sOwn_e, sFor_e, sUnp_e, eC_e, eOp_e, eUn_e, aNil_e, aCons_e, aApp_e, eFN_e, eCall_e, eMake_e, eCMeth_e, eCallO_e, eLst_e, eTup_e, nLst_e, nLc_e, eLc_e, lSeq_e, lTup_e, eIf_e, eAnd_e, eOr_e, eNot_e, bOf_e, bAnd_e, bOr_e, bNot_e, eFld_e, runB_e, env0_e, oN_e, List.set_cons_zero, List.set_cons_succ, List.map_cons, List.map_nil, List.cons_append, List.nil_append, List.replicate_succ, List.replicate_zero, List.length_cons, List.length_nil, List.getElem?_cons_zero, List.getElem?_cons_succ, reduceIte, if_true, if_false, Bool.false_eq_true, arN_t, decide_true, decide_false, isNon, Bool.not_true, Bool.not_false, Bool.true_and, Bool.false_and, Bool.and_true, Bool.and_false, bYes_e, lstMax_e, Nat.reduceAdd, Nat.reduceSub, Nat.reduceLeDiff, Int.reduceLT, Int.reduceLE, Int.reduceEq, String.reduceEq, and_self, decide_eq_true_eq, and_true, true_and, cPos_e, cDiv_e, fMod_i, fDiv_i, Int.reduceMod, Int.reduceDiv, Int.reduceSub, Int.reduceAdd, Int.reducePow, kOf_i, fsOf_i, fOwn_k, fOwn1_k, gFld_k, methO_e, methK_s, methA_s, ownK_s, ownK_n, ownK_m, own1K_s, own1K_n, fldK_s, sApp_e, appK_s, sOSub_e, osubK_s, eOIx_e, oixK_s, eOLen_e, olenK_s, ixN_p, Int.reduceToNat, Nat.reduceLT, oS_e, eSl_e, eSlT_e, kSet_e, kSet2_e, kDrop_e, kIf_t, kIf_f, kOwn_e, kApp_e, kOsub1_e, kOsub2_e, osK_s, kOix_e, ixK_s, kFor_e, kUnp_e, unpK_s, kOp1_e, kOp2_e, kUn_e, kC1_e, kC2_e, kA1_e, kA2_e, kFN_e, kCall_e, kMake_e, kCM_e, kMeth_e, kLst_e, lstK_s, kTup_e, tupK_s, kNl_e, nlK_s, nList_e, kNli_e, nliK_s, lOf_l, lOf_t, kNc1_e, kNc2_e, kLc1_e, kLc2_e, kSeq_e, kTpl_e, kEIf_t, kEIf_f, kEAnd_t, kEAnd_f, kEOr_t, kEOr_f, kENot_e, kB_e, kBAnd_t, kBAnd_f, kBOr_t, kBOr_f, kBNot_e, kOS_e, kSl1_e, kSl2_e, kSl3_e, kSt1_e, kSt2_e, kSt3_e, eMeth_e, kMe_e, lc_c, kL1_e, kL2_e, kT_t, kT_f, Int.cast_ofNat_Int, Int.natCast_zero, Int.natCast_one, lRng1_e, kRng_1, kRng_2, kRng_3, kRng_4, kRng_5, kRng_6, List.length_map, arS_0, sEr_e, sTryAs_e, tryK_nx, tryK_rt, tryK_er, afterO_rt, afterO_nx, eXf_e, xfS_s, xfK_s, plain_n, plain_e, List.all_cons, List.all_nil, eq_self, sTryN_e, tryN_nx, tryN_rt, tryN_h, tryN_t, dflI_e, dflF_e, not_false_eq_true, eMethK_e, kMK_e, kMK2_e, eProp_e, kPr_e, eNotO_e, kNotO_e, notK_s, eSlA_e, kSA1_e, kSA2_e, kSA3_l, kSA3_t, eGetO_e, kGet1_e, kGet2_e, getK_s, le, dl]
end K58
set_option Elab.async false
set_option linter.all false
set_option maxRecDepth 100000
set_option maxHeartbeats 4000000
namespace K58
open PySem DL
open L2 (ixN cutS)
/-! ### area -/
theorem asIs_nat : ∀ ns : List Nat, asIs (ns.map fun n : Nat => DL.D.int (n : Nat)) = some (ns.map fun n : Nat => ((n : Nat) : Int))
  | [] => rfl
  | n :: ns => by
    show (asIs (ns.map fun n : Nat => DL.D.int (n : Nat))).map (((n : Nat) : Int) :: ·) = _
    rw [asIs_nat ns]
    rfl
theorem sum_nat : ∀ ns : List Nat, (ns.map fun n : Nat => ((n : Nat) : Int)).sum = ((ns.sum : Nat) : Int)
  | [] => rfl
  | n :: ns => by rw [List.map_cons, List.sum_cons, List.sum_cons, sum_nat ns, Int.natCast_add]
theorem area_ok {w : Nat} {L : List (List Nat)} (g : Gd w L) (G : GS) : g_Shape_area [.d (shD w L)] G = .ok (.d (.int (cntL L : Nat))) G := by
  have hl := g.hl
  have c : eLc 1 [1] (lTup (eFld [("Shape", 0)] (eVar 0))) (bYes) (eCount (eVar 1) (eC (.str "#"))) [.ev (.d (shD w L)), .no] G = .ok (.d (.lst ((L.map fun l => l.count 35).map fun n : Nat => DL.D.int (n : Nat)))) G := by
    rw [List.map_map]
    exact elc_of (ds := L.map txD) rfl (lc_map (f := txD) (g := (fun n : Nat => DL.D.int (n : Nat)) ∘ fun l => l.count 35) L fun l hl => cnt_e (c := 35) rfl) (by rw [List.length_map]; omega)
  have s : fSum [.d (.lst ((L.map fun l => l.count 35).map fun n : Nat => DL.D.int (n : Nat)))] G = some (.d (.int (cntL L : Nat)), G) := by
    show Option.map _ ((asIs _).map fun bs => DL.D.int bs.sum) = _
    rw [asIs_nat]
    show some (EV.d (.int ((L.map fun l => l.count 35).map fun n : Nat => ((n : Nat) : Int)).sum), G) = _
    rw [sum_nat]
    rfl
  show retO (sRet _ [.ev (.d (shD w L)), .no] G) = _
  have e : eFN fSum (aCons (eLc 1 [1] (lTup (eFld [("Shape", 0)] (eVar 0))) (bYes) (eCount (eVar 1) (eC (.str "#")))) (aNil)) [.ev (.d (shD w L)), .no] G = .ok (.d (.int (cntL L : Nat))) G := by
    unfold eFN
    rw [acons1 c, bind_ok, s]
    rfl
  rw [sret_eq e]
  rfl
/-! ### all places -/
@[reducible] noncomputable def IBr : SM := (sSeq (sSet 3 (eOp (fAdd) (eVar 3) (eFN fInt (aCons (eOp (fEq) (eOp fIxT (eOp fIx (eVar 1) (eVar 4)) (eVar 6)) (eC (.str "#"))) (aNil))))) (sIf (bNot (bOf truE (eCall (arN 2) g__law_is (aCons (eOp (alt2 (fInI) (fInOwn "Shape" (arN 2) g_Shape___contains__)) (eTup (aCons (eVar 6) (aCons (eVar 4) (aNil)))) (eVar 0)) (aCons (eOp (fEq) (eOp fIxT (eOp fIx (eVar 1) (eVar 4)) (eVar 6)) (eC (.str "#"))) (aNil)))))) (sRet (eC (.bl false))) (sNil)))
theorem inner1 {w x y m : Nat} {v f : EV} {t : GS} {L : List (List Nat)} (g : Gd w L) (h : Lv v t L) (hx : x < w) (hy : y < L.length) (s5 s7 : Sl) (b : Bx) : IBr [.ev (.d (shD w L)), .ev v, .ev f, .ev (.d (.int (m : Nat))), .ev (.d (.int (y : Nat))), s5, .ev (.d (.int (x : Nat))), s7] (bT t b) = .nx [.ev (.d (shD w L)), .ev v, .ev f, .ev (.d (.int ((m + (if isO ((L.getD y []).getD x 0) = true then 1 else 0) : Nat) : Nat))), .ev (.d (.int (y : Nat))), s5, .ev (.d (.int (x : Nat))), s7] (bT t b) := by
  have hw2 := g.w2
  have ix := h.ix b hy
  have hl := g.hw _ (List.getElem_mem hy)
  have e1 : L.getD y [] = L[y] := by rw [List.getD_eq_getElem?_getD, List.getElem?_eq_getElem hy]; rfl
  have i := ixD (l := L[y]) (i := x) (by omega) (by omega) (bT t b)
  have q := eqH (L[y].getD x 0) (bT t b)
  have r : alt2 (fInI) (fInOwn "Shape" (arN 2) g_Shape___contains__) (.d (.tup [.int (x : Nat), .int (y : Nat)])) (.d (shD w L)) (bT t b) = some (.d (.bl (isO (L[y].getD x 0))), bT t b) := by
    have := con_in g hx hy (bT t b)
    rw [e1] at this
    exact ri_of this
  have is := is_ok (isO (L[y].getD x 0)) (bT t b)
  rw [e1]
  cases hc : isO (L[y].getD x 0) with
  | true =>
    rw [hc] at q r is
    have fi : fInt [.d (.bl true)] (bT t b) = some (.d (.int 1), bT t b) := rfl
    simp -implicitDefEqProofs only [bind_ok, bind_er, bindN_ok, ofE_ok, ofE_er, seqO_nx, seqO_rt, seqO_er, seqO_bk, seqO_ct, loopO_nx, loopO_ct, loopO_bk, loopO_rt, loopO_er, lift_s, retO_rt, retO_nx, retO_er, mkO_ok, mkO_er, toOpt_ok, eVar_z, eVar_s, oL_z, oL_s, frz_z, frz_s, wipe_n, wipe_c, datas_n, datas_c, map_s, bind_s, setA_n, setA_c, p2_d, p1_d, pN_d, fEq_i, fEq_s, fEq_b, fEq_ii, fNe_i, fNe_s, fNe_b, fSub_i, fAdd_i, fAnd_i, fOr_i, fXor_i, fLt_i, fLe_i, fGt_i, fGe_i, fIs_d, fIsNot_d, fIsB_b, isB_b, tru_b, tru_i, tru_l, tru_t, orE_s, orE_n, alt2_e, alt1_e, altN_e, fIx_l, fIx_t, at_0, at_1, at_2, at_3, at_4, at_5, for_n, for_c, lc_n, len_lst, len_tup, kfn_c, kix_c, sSeq_e, sNil_e, sSet_e, sSet2_e, sRet_e, sRetN_e, sDrop_e, sIf_e, sBk_e, sCt_e, sFrz_e, sOwn_e, sFor_e, sUnp_e, eC_e, eOp_e, eUn_e, aNil_e, aCons_e, aApp_e, eFN_e, eCall_e, eMake_e, eCMeth_e, eCallO_e, eLst_e, eTup_e, nLst_e, nLc_e, eLc_e, lSeq_e, lTup_e, eIf_e, eAnd_e, eOr_e, eNot_e, bOf_e, bAnd_e, bOr_e, bNot_e, eFld_e, runB_e, env0_e, oN_e, List.set_cons_zero, List.set_cons_succ, List.map_cons, List.map_nil, List.cons_append, List.nil_append, List.replicate_succ, List.replicate_zero, List.length_cons, List.length_nil, List.getElem?_cons_zero, List.getElem?_cons_succ, reduceIte, if_true, if_false, Bool.false_eq_true, arN_t, decide_true, decide_false, isNon, Bool.not_true, Bool.not_false, Bool.true_and, Bool.false_and, Bool.and_true, Bool.and_false, bYes_e, lstMax_e, Nat.reduceAdd, Nat.reduceSub, Nat.reduceLeDiff, Int.reduceLT, Int.reduceLE, Int.reduceEq, String.reduceEq, and_self, decide_eq_true_eq, and_true, true_and, cPos_e, cDiv_e, fMod_i, fDiv_i, Int.reduceMod, Int.reduceDiv, Int.reduceSub, Int.reduceAdd, Int.reducePow, kOf_i, fsOf_i, fOwn_k, fOwn1_k, gFld_k, methO_e, methK_s, methA_s, ownK_s, ownK_n, ownK_m, own1K_s, own1K_n, fldK_s, sApp_e, appK_s, sOSub_e, osubK_s, eOIx_e, oixK_s, eOLen_e, olenK_s, ixN_p, Int.reduceToNat, Nat.reduceLT, oS_e, eSl_e, eSlT_e, kSet_e, kSet2_e, kDrop_e, kIf_t, kIf_f, kOwn_e, kApp_e, kOsub1_e, kOsub2_e, osK_s, kOix_e, ixK_s, kFor_e, kUnp_e, unpK_s, kOp1_e, kOp2_e, kUn_e, kC1_e, kC2_e, kA1_e, kA2_e, kFN_e, kCall_e, kMake_e, kCM_e, kMeth_e, kLst_e, lstK_s, kTup_e, tupK_s, kNl_e, nlK_s, nList_e, kNli_e, nliK_s, lOf_l, lOf_t, kNc1_e, kNc2_e, kLc1_e, kLc2_e, kSeq_e, kTpl_e, kEIf_t, kEIf_f, kEAnd_t, kEAnd_f, kEOr_t, kEOr_f, kENot_e, kB_e, kBAnd_t, kBAnd_f, kBOr_t, kBOr_f, kBNot_e, kOS_e, kSl1_e, kSl2_e, kSl3_e, kSt1_e, kSt2_e, kSt3_e, eMeth_e, kMe_e, lc_c, kL1_e, kL2_e, kT_t, kT_f, Int.cast_ofNat_Int, Int.natCast_zero, Int.natCast_one, lRng1_e, kRng_1, kRng_2, kRng_3, kRng_4, kRng_5, kRng_6, List.length_map, arS_0, sEr_e, sTryAs_e, tryK_nx, tryK_rt, tryK_er, afterO_rt, afterO_nx, eXf_e, xfS_s, xfK_s, plain_n, plain_e, List.all_cons, List.all_nil, eq_self, sTryN_e, tryN_nx, tryN_rt, tryN_h, tryN_t, dflI_e, dflF_e, not_false_eq_true, eMethK_e, kMK_e, kMK2_e, eProp_e, kPr_e, eNotO_e, kNotO_e, notK_s, eSlA_e, kSA1_e, kSA2_e, kSA3_l, kSA3_t, eGetO_e, kGet1_e, kGet2_e, getK_s, IBr, ix, i, ↓q, fi, ↓r, is, Int.natCast_add]
  | false =>
    rw [hc] at q r is
    have fi : fInt [.d (.bl false)] (bT t b) = some (.d (.int 0), bT t b) := rfl
    simp -implicitDefEqProofs only [bind_ok, bind_er, bindN_ok, ofE_ok, ofE_er, seqO_nx, seqO_rt, seqO_er, seqO_bk, seqO_ct, loopO_nx, loopO_ct, loopO_bk, loopO_rt, loopO_er, lift_s, retO_rt, retO_nx, retO_er, mkO_ok, mkO_er, toOpt_ok, eVar_z, eVar_s, oL_z, oL_s, frz_z, frz_s, wipe_n, wipe_c, datas_n, datas_c, map_s, bind_s, setA_n, setA_c, p2_d, p1_d, pN_d, fEq_i, fEq_s, fEq_b, fEq_ii, fNe_i, fNe_s, fNe_b, fSub_i, fAdd_i, fAnd_i, fOr_i, fXor_i, fLt_i, fLe_i, fGt_i, fGe_i, fIs_d, fIsNot_d, fIsB_b, isB_b, tru_b, tru_i, tru_l, tru_t, orE_s, orE_n, alt2_e, alt1_e, altN_e, fIx_l, fIx_t, at_0, at_1, at_2, at_3, at_4, at_5, for_n, for_c, lc_n, len_lst, len_tup, kfn_c, kix_c, sSeq_e, sNil_e, sSet_e, sSet2_e, sRet_e, sRetN_e, sDrop_e, sIf_e, sBk_e, sCt_e, sFrz_e, sOwn_e, sFor_e, sUnp_e, eC_e, eOp_e, eUn_e, aNil_e, aCons_e, aApp_e, eFN_e, eCall_e, eMake_e, eCMeth_e, eCallO_e, eLst_e, eTup_e, nLst_e, nLc_e, eLc_e, lSeq_e, lTup_e, eIf_e, eAnd_e, eOr_e, eNot_e, bOf_e, bAnd_e, bOr_e, bNot_e, eFld_e, runB_e, env0_e, oN_e, List.set_cons_zero, List.set_cons_succ, List.map_cons, List.map_nil, List.cons_append, List.nil_append, List.replicate_succ, List.replicate_zero, List.length_cons, List.length_nil, List.getElem?_cons_zero, List.getElem?_cons_succ, reduceIte, if_true, if_false, Bool.false_eq_true, arN_t, decide_true, decide_false, isNon, Bool.not_true, Bool.not_false, Bool.true_and, Bool.false_and, Bool.and_true, Bool.and_false, bYes_e, lstMax_e, Nat.reduceAdd, Nat.reduceSub, Nat.reduceLeDiff, Int.reduceLT, Int.reduceLE, Int.reduceEq, String.reduceEq, and_self, decide_eq_true_eq, and_true, true_and, cPos_e, cDiv_e, fMod_i, fDiv_i, Int.reduceMod, Int.reduceDiv, Int.reduceSub, Int.reduceAdd, Int.reducePow, kOf_i, fsOf_i, fOwn_k, fOwn1_k, gFld_k, methO_e, methK_s, methA_s, ownK_s, ownK_n, ownK_m, own1K_s, own1K_n, fldK_s, sApp_e, appK_s, sOSub_e, osubK_s, eOIx_e, oixK_s, eOLen_e, olenK_s, ixN_p, Int.reduceToNat, Nat.reduceLT, oS_e, eSl_e, eSlT_e, kSet_e, kSet2_e, kDrop_e, kIf_t, kIf_f, kOwn_e, kApp_e, kOsub1_e, kOsub2_e, osK_s, kOix_e, ixK_s, kFor_e, kUnp_e, unpK_s, kOp1_e, kOp2_e, kUn_e, kC1_e, kC2_e, kA1_e, kA2_e, kFN_e, kCall_e, kMake_e, kCM_e, kMeth_e, kLst_e, lstK_s, kTup_e, tupK_s, kNl_e, nlK_s, nList_e, kNli_e, nliK_s, lOf_l, lOf_t, kNc1_e, kNc2_e, kLc1_e, kLc2_e, kSeq_e, kTpl_e, kEIf_t, kEIf_f, kEAnd_t, kEAnd_f, kEOr_t, kEOr_f, kENot_e, kB_e, kBAnd_t, kBAnd_f, kBOr_t, kBOr_f, kBNot_e, kOS_e, kSl1_e, kSl2_e, kSl3_e, kSt1_e, kSt2_e, kSt3_e, eMeth_e, kMe_e, lc_c, kL1_e, kL2_e, kT_t, kT_f, Int.cast_ofNat_Int, Int.natCast_zero, Int.natCast_one, lRng1_e, kRng_1, kRng_2, kRng_3, kRng_4, kRng_5, kRng_6, List.length_map, arS_0, sEr_e, sTryAs_e, tryK_nx, tryK_rt, tryK_er, afterO_rt, afterO_nx, eXf_e, xfS_s, xfK_s, plain_n, plain_e, List.all_cons, List.all_nil, eq_self, sTryN_e, tryN_nx, tryN_rt, tryN_h, tryN_t, dflI_e, dflF_e, not_false_eq_true, eMethK_e, kMK_e, kMK2_e, eProp_e, kPr_e, eNotO_e, kNotO_e, notK_s, eSlA_e, kSA1_e, kSA2_e, kSA3_l, kSA3_t, eGetO_e, kGet1_e, kGet2_e, getK_s, IBr, ix, i, ↓q, fi, ↓r, is, Int.natCast_add]
theorem inner_ok {w y : Nat} {v f : EV} {t : GS} {L : List (List Nat)} (g : Gd w L) (h : Lv v t L) (hy : y < L.length) (s5 s7 : Sl) (b : Bx) : ∀ (r : List Nat) (k m : Nat) (s6 : Sl), k + r.length = w → (L.getD y []).drop k = r → ∃ s6', forL 6 IBr ((List.range' k r.length).map fun i : Nat => DL.D.int (i : Nat)) [.ev (.d (shD w L)), .ev v, .ev f, .ev (.d (.int (m : Nat))), .ev (.d (.int (y : Nat))), s5, s6, s7] (bT t b) = .nx [.ev (.d (shD w L)), .ev v, .ev f, .ev (.d (.int ((m + r.count 35 : Nat) : Nat))), .ev (.d (.int (y : Nat))), s5, s6', s7] (bT t b)
  | [], k, m, s6, _, _ => ⟨s6, rfl⟩
  | c :: r, k, m, s6, hk, hr => by
    rw [List.length_cons] at hk
    have one := inner1 (m := m) (f := f) g h (x := k) (by omega) hy s5 s7 b
    have gc : (L.getD y []).getD k 0 = c := by
      rw [List.getD_eq_getElem?_getD, ← List.head?_drop, hr]
      rfl
    rw [gc] at one
    obtain ⟨s6', ih⟩ := inner_ok g h hy s5 s7 b r (k + 1) (m + (if isO c = true then 1 else 0)) (.ev (.d (.int (k : Nat)))) (by omega) (by rw [← List.tail_drop, hr]; rfl)
    refine ⟨s6', ?_⟩
    rw [List.length_cons, List.range'_succ, List.map_cons, for_c]
    show loopO (IBr [.ev (.d (shD w L)), .ev v, .ev f, .ev (.d (.int (m : Nat))), .ev (.d (.int (y : Nat))), s5, .ev (.d (.int (k : Nat))), s7] (bT t b)) _ = _
    rw [one, loopO_nx, ih]
    have e : m + (if isO c = true then 1 else 0) + r.count 35 = m + (c :: r).count 35 := by
      rw [List.count_cons]
      unfold isO
      by_cases hc : c = 35
      · subst hc; simp; omega
      · simp [hc]
    rw [e]
@[reducible] noncomputable def OBr : SM := (sFor 6 (lRng1 (aCons (eFN fLen (aCons (eOp fIx (eVar 1) (eC (.int 0))) (aNil))) (aNil))) IBr)
theorem outer_ok {w : Nat} {v f : EV} {t : GS} {L : List (List Nat)} (g : Gd w L) (h : Lv v t L) (s5 s7 : Sl) (b : Bx) : ∀ (r : List (List Nat)) (k m : Nat) (s4 s6 : Sl), k + r.length = L.length → L.drop k = r → ∃ s4' s6', forL 4 OBr ((List.range' k r.length).map fun i : Nat => DL.D.int (i : Nat)) [.ev (.d (shD w L)), .ev v, .ev f, .ev (.d (.int (m : Nat))), s4, s5, s6, s7] (bT t b) = .nx [.ev (.d (shD w L)), .ev v, .ev f, .ev (.d (.int ((m + cntL r : Nat) : Nat))), s4', s5, s6', s7] (bT t b)
  | [], k, m, s4, s6, _, _ => ⟨s4, s6, rfl⟩
  | l :: r, k, m, s4, s6, hk, hr => by
    rw [List.length_cons] at hk
    have hy : k < L.length := by omega
    have el : L.getD k [] = l := by
      rw [List.getD_eq_getElem?_getD, ← List.head?_drop, hr]
      rfl
    have lw : l.length = w := g.hw l (by rw [← el]; exact mem_getD hy)
    have hw2 := g.w2
    have e0 := g.hw _ (List.getElem_mem g.pos)
    have l2 := len_tx (ws := L[0]'g.pos) (by omega) (G := bT t b)
    rw [e0] at l2
    have x0 := h.ix0 b g.pos
    obtain ⟨s6', e1⟩ := inner_ok (y := k) (f := f) g h hy s5 s7 b l 0 m s6 (by rw [lw]; omega) (by rw [el]; rfl)
    rw [← List.range_eq_range', lw] at e1
    obtain ⟨s4', s6'', ih⟩ := outer_ok g h s5 s7 b r (k + 1) (m + l.count 35) (.ev (.d (.int (k : Nat)))) s6' (by omega) (by rw [← List.tail_drop, hr]; rfl)
    refine ⟨s4', s6'', ?_⟩
    rw [List.length_cons, List.range'_succ, List.map_cons, for_c]
    have st : OBr [.ev (.d (shD w L)), .ev v, .ev f, .ev (.d (.int (m : Nat))), .ev (.d (.int (k : Nat))), s5, s6, s7] (bT t b) = .nx [.ev (.d (shD w L)), .ev v, .ev f, .ev (.d (.int ((m + l.count 35 : Nat) : Nat))), .ev (.d (.int (k : Nat))), s5, s6', s7] (bT t b) := by
      have r1 : lRng1 (aCons (eFN fLen (aCons (eOp fIx (eVar 1) (eC (.int 0))) (aNil))) (aNil)) [.ev (.d (shD w L)), .ev v, .ev f, .ev (.d (.int (m : Nat))), .ev (.d (.int (k : Nat))), s5, s6, s7] (bT t b) = .ok ((List.range w).map fun i : Nat => DL.D.int (i : Nat)) (bT t b) := rng_of (by omega) (by simp -implicitDefEqProofs only [bind_ok, bind_er, bindN_ok, ofE_ok, ofE_er, seqO_nx, seqO_rt, seqO_er, seqO_bk, seqO_ct, loopO_nx, loopO_ct, loopO_bk, loopO_rt, loopO_er, lift_s, retO_rt, retO_nx, retO_er, mkO_ok, mkO_er, toOpt_ok, eVar_z, eVar_s, oL_z, oL_s, frz_z, frz_s, wipe_n, wipe_c, datas_n, datas_c, map_s, bind_s, setA_n, setA_c, p2_d, p1_d, pN_d, fEq_i, fEq_s, fEq_b, fEq_ii, fNe_i, fNe_s, fNe_b, fSub_i, fAdd_i, fAnd_i, fOr_i, fXor_i, fLt_i, fLe_i, fGt_i, fGe_i, fIs_d, fIsNot_d, fIsB_b, isB_b, tru_b, tru_i, tru_l, tru_t, orE_s, orE_n, alt2_e, alt1_e, altN_e, fIx_l, fIx_t, at_0, at_1, at_2, at_3, at_4, at_5, for_n, for_c, lc_n, len_lst, len_tup, kfn_c, kix_c, sSeq_e, sNil_e, sSet_e, sSet2_e, sRet_e, sRetN_e, sDrop_e, sIf_e, sBk_e, sCt_e, sFrz_e, sOwn_e, sFor_e, sUnp_e, eC_e, eOp_e, eUn_e, aNil_e, aCons_e, aApp_e, eFN_e, eCall_e, eMake_e, eCMeth_e, eCallO_e, eLst_e, eTup_e, nLst_e, nLc_e, eLc_e, lSeq_e, lTup_e, eIf_e, eAnd_e, eOr_e, eNot_e, bOf_e, bAnd_e, bOr_e, bNot_e, eFld_e, runB_e, env0_e, oN_e, List.set_cons_zero, List.set_cons_succ, List.map_cons, List.map_nil, List.cons_append, List.nil_append, List.replicate_succ, List.replicate_zero, List.length_cons, List.length_nil, List.getElem?_cons_zero, List.getElem?_cons_succ, reduceIte, if_true, if_false, Bool.false_eq_true, arN_t, decide_true, decide_false, isNon, Bool.not_true, Bool.not_false, Bool.true_and, Bool.false_and, Bool.and_true, Bool.and_false, bYes_e, lstMax_e, Nat.reduceAdd, Nat.reduceSub, Nat.reduceLeDiff, Int.reduceLT, Int.reduceLE, Int.reduceEq, String.reduceEq, and_self, decide_eq_true_eq, and_true, true_and, cPos_e, cDiv_e, fMod_i, fDiv_i, Int.reduceMod, Int.reduceDiv, Int.reduceSub, Int.reduceAdd, Int.reducePow, kOf_i, fsOf_i, fOwn_k, fOwn1_k, gFld_k, methO_e, methK_s, methA_s, ownK_s, ownK_n, ownK_m, own1K_s, own1K_n, fldK_s, sApp_e, appK_s, sOSub_e, osubK_s, eOIx_e, oixK_s, eOLen_e, olenK_s, ixN_p, Int.reduceToNat, Nat.reduceLT, oS_e, eSl_e, eSlT_e, kSet_e, kSet2_e, kDrop_e, kIf_t, kIf_f, kOwn_e, kApp_e, kOsub1_e, kOsub2_e, osK_s, kOix_e, ixK_s, kFor_e, kUnp_e, unpK_s, kOp1_e, kOp2_e, kUn_e, kC1_e, kC2_e, kA1_e, kA2_e, kFN_e, kCall_e, kMake_e, kCM_e, kMeth_e, kLst_e, lstK_s, kTup_e, tupK_s, kNl_e, nlK_s, nList_e, kNli_e, nliK_s, lOf_l, lOf_t, kNc1_e, kNc2_e, kLc1_e, kLc2_e, kSeq_e, kTpl_e, kEIf_t, kEIf_f, kEAnd_t, kEAnd_f, kEOr_t, kEOr_f, kENot_e, kB_e, kBAnd_t, kBAnd_f, kBOr_t, kBOr_f, kBNot_e, kOS_e, kSl1_e, kSl2_e, kSl3_e, kSt1_e, kSt2_e, kSt3_e, eMeth_e, kMe_e, lc_c, kL1_e, kL2_e, kT_t, kT_f, Int.cast_ofNat_Int, Int.natCast_zero, Int.natCast_one, lRng1_e, kRng_1, kRng_2, kRng_3, kRng_4, kRng_5, kRng_6, List.length_map, arS_0, sEr_e, sTryAs_e, tryK_nx, tryK_rt, tryK_er, afterO_rt, afterO_nx, eXf_e, xfS_s, xfK_s, plain_n, plain_e, List.all_cons, List.all_nil, eq_self, sTryN_e, tryN_nx, tryN_rt, tryN_h, tryN_t, dflI_e, dflF_e, not_false_eq_true, eMethK_e, kMK_e, kMK2_e, eProp_e, kPr_e, eNotO_e, kNotO_e, notK_s, eSlA_e, kSA1_e, kSA2_e, kSA3_l, kSA3_t, eGetO_e, kGet1_e, kGet2_e, getK_s, x0, l2])
      unfold OBr sFor
      rw [r1]
      exact e1
    show loopO (OBr [.ev (.d (shD w L)), .ev v, .ev f, .ev (.d (.int (m : Nat))), .ev (.d (.int (k : Nat))), s5, s6, s7] (bT t b)) _ = _
    rw [st, loopO_nx, ih]
    have e : m + l.count 35 + cntL r = m + cntL (l :: r) := by
      unfold cntL
      rw [List.map_cons, List.sum_cons]
      omega
    rw [e]
/-! ### places outside -/
@[reducible] noncomputable def PBr : SM := (sSeq (sSet 7 (eAnd (eChain (fLe) (fLt) (eC (.int 0)) (eOp fIx (eVar 5) (eC (.int 0))) (eFN fLen (aCons (eOp fIx (eVar 1) (eC (.int 0))) (aNil)))) (eOp (fEq) (eOp fIx (eVar 5) (eC (.int 1))) (eC (.int 0))))) (sIf (bNot (bOf truE (eCall (arN 2) g__law_is (aCons (eOp (alt2 (fInI) (fInOwn "Shape" (arN 2) g_Shape___contains__)) (eVar 5) (eVar 0)) (aCons (eAnd (eVar 7) (eOp (fEq) (eOp fIxT (eOp fIx (eVar 1) (eC (.int 0))) (eOp fIx (eVar 5) (eC (.int 0)))) (eC (.str "#")))) (aNil)))))) (sRet (eC (.bl false))) (sNil)))
theorem ch_gen {A Cm : EM} {env : En} {G : GS} {x : Int} {w : Nat} (hA : A env G = .ok (.d (.int x)) G) (hC : Cm env G = .ok (.d (.int (w : Nat))) G) : eChain (fLe) (fLt) (eC (.int 0)) A Cm env G = .ok (.d (.bl (decide (0 ≤ x) && decide (x < (w : Int))))) G := by
  show (A env G).bind (fun y G2 => chK fLt Cm env y (fLe (.d (.int 0)) y G2)) = _
  rw [hA, bind_ok]
  show chK fLt Cm env (.d (.int x)) (some (.d (.bl (decide ((0 : Int) ≤ x))), G)) = _
  cases decide ((0 : Int) ≤ x) with
  | false => rfl
  | true =>
    show (Cm env G).bind _ = _
    rw [hC]
    rfl
theorem place_ok {w : Nat} {x y : Int} {v f mm s4 s6 s7 : Sl} {t : GS} {L : List (List Nat)} {v' : EV} (hv : v = .ev v') (g : Gd w L) (h : Lv v' t L) (hxy : (0 ≤ x ∧ x < w ∧ y = 0) ∨ (x < 0 ∨ (w : Int) ≤ x ∨ y < 0 ∨ (L.length : Int) ≤ y) ∧ ¬ (0 ≤ x ∧ x < w ∧ y = 0)) (b : Bx) : ∃ s7', PBr [.ev (.d (shD w L)), v, f, mm, s4, .ev (.d (.tup [.int x, .int y])), s6, s7] (bT t b) = .nx [.ev (.d (shD w L)), v, f, mm, s4, .ev (.d (.tup [.int x, .int y])), s6, s7'] (bT t b) := by
  subst hv
  have hw2 := g.w2
  have e0 := g.hw _ (List.getElem_mem g.pos)
  have l2 := len_tx (ws := L[0]'g.pos) (by omega) (G := bT t b)
  rw [e0] at l2
  have x0 := h.ix0 b g.pos
  have i0 : fIx (.d (.tup [.int x, .int y])) (.d (.int 0)) (bT t b) = some (.d (.int x), bT t b) := rfl
  have i1 : fIx (.d (.tup [.int x, .int y])) (.d (.int 1)) (bT t b) = some (.d (.int y), bT t b) := rfl
  rcases hxy with ⟨a1, a2, rfl⟩ | ⟨ho, hn⟩
  · obtain ⟨n, rfl⟩ := Int.eq_ofNat_of_zero_le a1
    have e1 : L.getD 0 [] = L[0]'g.pos := by rw [List.getD_eq_getElem?_getD, List.getElem?_eq_getElem g.pos]; rfl
    have i := ixD (l := L[0]'g.pos) (i := n) (by omega) (by omega) (bT t b)
    have q := eqH ((L[0]'g.pos).getD n 0) (bT t b)
    have r : alt2 (fInI) (fInOwn "Shape" (arN 2) g_Shape___contains__) (.d (.tup [.int (n : Nat), .int 0])) (.d (shD w L)) (bT t b) = some (.d (.bl (isO ((L[0]'g.pos).getD n 0))), bT t b) := by
      have := con_in (y := 0) g (x := n) (by omega) g.pos (bT t b)
      rw [e1] at this
      exact ri_of this
    have is := is_ok (isO ((L[0]'g.pos).getD n 0)) (bT t b)
    have d1 : decide ((0 : Int) ≤ (n : Int)) = true := decide_eq_true (by omega)
    have d2 : decide ((n : Int) < (w : Int)) = true := decide_eq_true (by omega)
    have ch : eChain (fLe) (fLt) (eC (.int 0)) (eOp fIx (eVar 5) (eC (.int 0))) (eFN fLen (aCons (eOp fIx (eVar 1) (eC (.int 0))) (aNil))) [.ev (.d (shD w L)), .ev v', f, mm, s4, .ev (.d (.tup [.int (n : Nat), .int 0])), s6, s7] (bT t b) = .ok (.d (.bl true)) (bT t b) := by
      rw [ch_gen (x := (n : Int)) (w := w) ((op_eq rfl rfl).trans rfl) (by simp -implicitDefEqProofs only [bind_ok, bind_er, bindN_ok, ofE_ok, ofE_er, seqO_nx, seqO_rt, seqO_er, seqO_bk, seqO_ct, loopO_nx, loopO_ct, loopO_bk, loopO_rt, loopO_er, lift_s, retO_rt, retO_nx, retO_er, mkO_ok, mkO_er, toOpt_ok, eVar_z, eVar_s, oL_z, oL_s, frz_z, frz_s, wipe_n, wipe_c, datas_n, datas_c, map_s, bind_s, setA_n, setA_c, p2_d, p1_d, pN_d, fEq_i, fEq_s, fEq_b, fEq_ii, fNe_i, fNe_s, fNe_b, fSub_i, fAdd_i, fAnd_i, fOr_i, fXor_i, fLt_i, fLe_i, fGt_i, fGe_i, fIs_d, fIsNot_d, fIsB_b, isB_b, tru_b, tru_i, tru_l, tru_t, orE_s, orE_n, alt2_e, alt1_e, altN_e, fIx_l, fIx_t, at_0, at_1, at_2, at_3, at_4, at_5, for_n, for_c, lc_n, len_lst, len_tup, kfn_c, kix_c, sSeq_e, sNil_e, sSet_e, sSet2_e, sRet_e, sRetN_e, sDrop_e, sIf_e, sBk_e, sCt_e, sFrz_e, sOwn_e, sFor_e, sUnp_e, eC_e, eOp_e, eUn_e, aNil_e, aCons_e, aApp_e, eFN_e, eCall_e, eMake_e, eCMeth_e, eCallO_e, eLst_e, eTup_e, nLst_e, nLc_e, eLc_e, lSeq_e, lTup_e, eIf_e, eAnd_e, eOr_e, eNot_e, bOf_e, bAnd_e, bOr_e, bNot_e, eFld_e, runB_e, env0_e, oN_e, List.set_cons_zero, List.set_cons_succ, List.map_cons, List.map_nil, List.cons_append, List.nil_append, List.replicate_succ, List.replicate_zero, List.length_cons, List.length_nil, List.getElem?_cons_zero, List.getElem?_cons_succ, reduceIte, if_true, if_false, Bool.false_eq_true, arN_t, decide_true, decide_false, isNon, Bool.not_true, Bool.not_false, Bool.true_and, Bool.false_and, Bool.and_true, Bool.and_false, bYes_e, lstMax_e, Nat.reduceAdd, Nat.reduceSub, Nat.reduceLeDiff, Int.reduceLT, Int.reduceLE, Int.reduceEq, String.reduceEq, and_self, decide_eq_true_eq, and_true, true_and, cPos_e, cDiv_e, fMod_i, fDiv_i, Int.reduceMod, Int.reduceDiv, Int.reduceSub, Int.reduceAdd, Int.reducePow, kOf_i, fsOf_i, fOwn_k, fOwn1_k, gFld_k, methO_e, methK_s, methA_s, ownK_s, ownK_n, ownK_m, own1K_s, own1K_n, fldK_s, sApp_e, appK_s, sOSub_e, osubK_s, eOIx_e, oixK_s, eOLen_e, olenK_s, ixN_p, Int.reduceToNat, Nat.reduceLT, oS_e, eSl_e, eSlT_e, kSet_e, kSet2_e, kDrop_e, kIf_t, kIf_f, kOwn_e, kApp_e, kOsub1_e, kOsub2_e, osK_s, kOix_e, ixK_s, kFor_e, kUnp_e, unpK_s, kOp1_e, kOp2_e, kUn_e, kC1_e, kC2_e, kA1_e, kA2_e, kFN_e, kCall_e, kMake_e, kCM_e, kMeth_e, kLst_e, lstK_s, kTup_e, tupK_s, kNl_e, nlK_s, nList_e, kNli_e, nliK_s, lOf_l, lOf_t, kNc1_e, kNc2_e, kLc1_e, kLc2_e, kSeq_e, kTpl_e, kEIf_t, kEIf_f, kEAnd_t, kEAnd_f, kEOr_t, kEOr_f, kENot_e, kB_e, kBAnd_t, kBAnd_f, kBOr_t, kBOr_f, kBNot_e, kOS_e, kSl1_e, kSl2_e, kSl3_e, kSt1_e, kSt2_e, kSt3_e, eMeth_e, kMe_e, lc_c, kL1_e, kL2_e, kT_t, kT_f, Int.cast_ofNat_Int, Int.natCast_zero, Int.natCast_one, lRng1_e, kRng_1, kRng_2, kRng_3, kRng_4, kRng_5, kRng_6, List.length_map, arS_0, sEr_e, sTryAs_e, tryK_nx, tryK_rt, tryK_er, afterO_rt, afterO_nx, eXf_e, xfS_s, xfK_s, plain_n, plain_e, List.all_cons, List.all_nil, eq_self, sTryN_e, tryN_nx, tryN_rt, tryN_h, tryN_t, dflI_e, dflF_e, not_false_eq_true, eMethK_e, kMK_e, kMK2_e, eProp_e, kPr_e, eNotO_e, kNotO_e, notK_s, eSlA_e, kSA1_e, kSA2_e, kSA3_l, kSA3_t, eGetO_e, kGet1_e, kGet2_e, getK_s, x0, l2]), d1, d2]
      rfl
    refine ⟨.ev (.d (.bl true)), ?_⟩
    simp -implicitDefEqProofs only [bind_ok, bind_er, bindN_ok, ofE_ok, ofE_er, seqO_nx, seqO_rt, seqO_er, seqO_bk, seqO_ct, loopO_nx, loopO_ct, loopO_bk, loopO_rt, loopO_er, lift_s, retO_rt, retO_nx, retO_er, mkO_ok, mkO_er, toOpt_ok, eVar_z, eVar_s, oL_z, oL_s, frz_z, frz_s, wipe_n, wipe_c, datas_n, datas_c, map_s, bind_s, setA_n, setA_c, p2_d, p1_d, pN_d, fEq_i, fEq_s, fEq_b, fEq_ii, fNe_i, fNe_s, fNe_b, fSub_i, fAdd_i, fAnd_i, fOr_i, fXor_i, fLt_i, fLe_i, fGt_i, fGe_i, fIs_d, fIsNot_d, fIsB_b, isB_b, tru_b, tru_i, tru_l, tru_t, orE_s, orE_n, alt2_e, alt1_e, altN_e, fIx_l, fIx_t, at_0, at_1, at_2, at_3, at_4, at_5, for_n, for_c, lc_n, len_lst, len_tup, kfn_c, kix_c, sSeq_e, sNil_e, sSet_e, sSet2_e, sRet_e, sRetN_e, sDrop_e, sIf_e, sBk_e, sCt_e, sFrz_e, sOwn_e, sFor_e, sUnp_e, eC_e, eOp_e, eUn_e, aNil_e, aCons_e, aApp_e, eFN_e, eCall_e, eMake_e, eCMeth_e, eCallO_e, eLst_e, eTup_e, nLst_e, nLc_e, eLc_e, lSeq_e, lTup_e, eIf_e, eAnd_e, eOr_e, eNot_e, bOf_e, bAnd_e, bOr_e, bNot_e, eFld_e, runB_e, env0_e, oN_e, List.set_cons_zero, List.set_cons_succ, List.map_cons, List.map_nil, List.cons_append, List.nil_append, List.replicate_succ, List.replicate_zero, List.length_cons, List.length_nil, List.getElem?_cons_zero, List.getElem?_cons_succ, reduceIte, if_true, if_false, Bool.false_eq_true, arN_t, decide_true, decide_false, isNon, Bool.not_true, Bool.not_false, Bool.true_and, Bool.false_and, Bool.and_true, Bool.and_false, bYes_e, lstMax_e, Nat.reduceAdd, Nat.reduceSub, Nat.reduceLeDiff, Int.reduceLT, Int.reduceLE, Int.reduceEq, String.reduceEq, and_self, decide_eq_true_eq, and_true, true_and, cPos_e, cDiv_e, fMod_i, fDiv_i, Int.reduceMod, Int.reduceDiv, Int.reduceSub, Int.reduceAdd, Int.reducePow, kOf_i, fsOf_i, fOwn_k, fOwn1_k, gFld_k, methO_e, methK_s, methA_s, ownK_s, ownK_n, ownK_m, own1K_s, own1K_n, fldK_s, sApp_e, appK_s, sOSub_e, osubK_s, eOIx_e, oixK_s, eOLen_e, olenK_s, ixN_p, Int.reduceToNat, Nat.reduceLT, oS_e, eSl_e, eSlT_e, kSet_e, kSet2_e, kDrop_e, kIf_t, kIf_f, kOwn_e, kApp_e, kOsub1_e, kOsub2_e, osK_s, kOix_e, ixK_s, kFor_e, kUnp_e, unpK_s, kOp1_e, kOp2_e, kUn_e, kC1_e, kC2_e, kA1_e, kA2_e, kFN_e, kCall_e, kMake_e, kCM_e, kMeth_e, kLst_e, lstK_s, kTup_e, tupK_s, kNl_e, nlK_s, nList_e, kNli_e, nliK_s, lOf_l, lOf_t, kNc1_e, kNc2_e, kLc1_e, kLc2_e, kSeq_e, kTpl_e, kEIf_t, kEIf_f, kEAnd_t, kEAnd_f, kEOr_t, kEOr_f, kENot_e, kB_e, kBAnd_t, kBAnd_f, kBOr_t, kBOr_f, kBNot_e, kOS_e, kSl1_e, kSl2_e, kSl3_e, kSt1_e, kSt2_e, kSt3_e, eMeth_e, kMe_e, lc_c, kL1_e, kL2_e, kT_t, kT_f, Int.cast_ofNat_Int, Int.natCast_zero, Int.natCast_one, lRng1_e, kRng_1, kRng_2, kRng_3, kRng_4, kRng_5, kRng_6, List.length_map, arS_0, sEr_e, sTryAs_e, tryK_nx, tryK_rt, tryK_er, afterO_rt, afterO_nx, eXf_e, xfS_s, xfK_s, plain_n, plain_e, List.all_cons, List.all_nil, eq_self, sTryN_e, tryN_nx, tryN_rt, tryN_h, tryN_t, dflI_e, dflF_e, not_false_eq_true, eMethK_e, kMK_e, kMK2_e, eProp_e, kPr_e, eNotO_e, kNotO_e, notK_s, eSlA_e, kSA1_e, kSA2_e, kSA3_l, kSA3_t, eGetO_e, kGet1_e, kGet2_e, getK_s, PBr, ↓ch, i1, i0, x0, i, ↓q, ↓r, is]
  · have r : alt2 (fInI) (fInOwn "Shape" (arN 2) g_Shape___contains__) (.d (.tup [.int x, .int y])) (.d (shD w L)) (bT t b) = some (.d (.bl false), bT t b) := ri_of (con_out L ho (bT t b))
    have is := is_ok false (bT t b)
    refine ⟨.ev (.d (.bl false)), ?_⟩
    have ch : eAnd (eChain (fLe) (fLt) (eC (.int 0)) (eOp fIx (eVar 5) (eC (.int 0))) (eFN fLen (aCons (eOp fIx (eVar 1) (eC (.int 0))) (aNil)))) (eOp (fEq) (eOp fIx (eVar 5) (eC (.int 1))) (eC (.int 0))) [.ev (.d (shD w L)), .ev v', f, mm, s4, .ev (.d (.tup [.int x, .int y])), s6, s7] (bT t b) = .ok (.d (.bl false)) (bT t b) := by
      have c1 := ch_gen (env := [.ev (.d (shD w L)), .ev v', f, mm, s4, .ev (.d (.tup [.int x, .int y])), s6, s7]) (G := bT t b) (A := eOp fIx (eVar 5) (eC (.int 0))) (Cm := eFN fLen (aCons (eOp fIx (eVar 1) (eC (.int 0))) (aNil))) (x := x) (w := w) ((op_eq rfl rfl).trans rfl) (by simp -implicitDefEqProofs only [bind_ok, bind_er, bindN_ok, ofE_ok, ofE_er, seqO_nx, seqO_rt, seqO_er, seqO_bk, seqO_ct, loopO_nx, loopO_ct, loopO_bk, loopO_rt, loopO_er, lift_s, retO_rt, retO_nx, retO_er, mkO_ok, mkO_er, toOpt_ok, eVar_z, eVar_s, oL_z, oL_s, frz_z, frz_s, wipe_n, wipe_c, datas_n, datas_c, map_s, bind_s, setA_n, setA_c, p2_d, p1_d, pN_d, fEq_i, fEq_s, fEq_b, fEq_ii, fNe_i, fNe_s, fNe_b, fSub_i, fAdd_i, fAnd_i, fOr_i, fXor_i, fLt_i, fLe_i, fGt_i, fGe_i, fIs_d, fIsNot_d, fIsB_b, isB_b, tru_b, tru_i, tru_l, tru_t, orE_s, orE_n, alt2_e, alt1_e, altN_e, fIx_l, fIx_t, at_0, at_1, at_2, at_3, at_4, at_5, for_n, for_c, lc_n, len_lst, len_tup, kfn_c, kix_c, sSeq_e, sNil_e, sSet_e, sSet2_e, sRet_e, sRetN_e, sDrop_e, sIf_e, sBk_e, sCt_e, sFrz_e, sOwn_e, sFor_e, sUnp_e, eC_e, eOp_e, eUn_e, aNil_e, aCons_e, aApp_e, eFN_e, eCall_e, eMake_e, eCMeth_e, eCallO_e, eLst_e, eTup_e, nLst_e, nLc_e, eLc_e, lSeq_e, lTup_e, eIf_e, eAnd_e, eOr_e, eNot_e, bOf_e, bAnd_e, bOr_e, bNot_e, eFld_e, runB_e, env0_e, oN_e, List.set_cons_zero, List.set_cons_succ, List.map_cons, List.map_nil, List.cons_append, List.nil_append, List.replicate_succ, List.replicate_zero, List.length_cons, List.length_nil, List.getElem?_cons_zero, List.getElem?_cons_succ, reduceIte, if_true, if_false, Bool.false_eq_true, arN_t, decide_true, decide_false, isNon, Bool.not_true, Bool.not_false, Bool.true_and, Bool.false_and, Bool.and_true, Bool.and_false, bYes_e, lstMax_e, Nat.reduceAdd, Nat.reduceSub, Nat.reduceLeDiff, Int.reduceLT, Int.reduceLE, Int.reduceEq, String.reduceEq, and_self, decide_eq_true_eq, and_true, true_and, cPos_e, cDiv_e, fMod_i, fDiv_i, Int.reduceMod, Int.reduceDiv, Int.reduceSub, Int.reduceAdd, Int.reducePow, kOf_i, fsOf_i, fOwn_k, fOwn1_k, gFld_k, methO_e, methK_s, methA_s, ownK_s, ownK_n, ownK_m, own1K_s, own1K_n, fldK_s, sApp_e, appK_s, sOSub_e, osubK_s, eOIx_e, oixK_s, eOLen_e, olenK_s, ixN_p, Int.reduceToNat, Nat.reduceLT, oS_e, eSl_e, eSlT_e, kSet_e, kSet2_e, kDrop_e, kIf_t, kIf_f, kOwn_e, kApp_e, kOsub1_e, kOsub2_e, osK_s, kOix_e, ixK_s, kFor_e, kUnp_e, unpK_s, kOp1_e, kOp2_e, kUn_e, kC1_e, kC2_e, kA1_e, kA2_e, kFN_e, kCall_e, kMake_e, kCM_e, kMeth_e, kLst_e, lstK_s, kTup_e, tupK_s, kNl_e, nlK_s, nList_e, kNli_e, nliK_s, lOf_l, lOf_t, kNc1_e, kNc2_e, kLc1_e, kLc2_e, kSeq_e, kTpl_e, kEIf_t, kEIf_f, kEAnd_t, kEAnd_f, kEOr_t, kEOr_f, kENot_e, kB_e, kBAnd_t, kBAnd_f, kBOr_t, kBOr_f, kBNot_e, kOS_e, kSl1_e, kSl2_e, kSl3_e, kSt1_e, kSt2_e, kSt3_e, eMeth_e, kMe_e, lc_c, kL1_e, kL2_e, kT_t, kT_f, Int.cast_ofNat_Int, Int.natCast_zero, Int.natCast_one, lRng1_e, kRng_1, kRng_2, kRng_3, kRng_4, kRng_5, kRng_6, List.length_map, arS_0, sEr_e, sTryAs_e, tryK_nx, tryK_rt, tryK_er, afterO_rt, afterO_nx, eXf_e, xfS_s, xfK_s, plain_n, plain_e, List.all_cons, List.all_nil, eq_self, sTryN_e, tryN_nx, tryN_rt, tryN_h, tryN_t, dflI_e, dflF_e, not_false_eq_true, eMethK_e, kMK_e, kMK2_e, eProp_e, kPr_e, eNotO_e, kNotO_e, notK_s, eSlA_e, kSA1_e, kSA2_e, kSA3_l, kSA3_t, eGetO_e, kGet1_e, kGet2_e, getK_s, x0, l2])
      have c2 : eOp (fEq) (eOp fIx (eVar 5) (eC (.int 1))) (eC (.int 0)) [.ev (.d (shD w L)), .ev v', f, mm, s4, .ev (.d (.tup [.int x, .int y])), s6, s7] (bT t b) = .ok (.d (.bl (decide (y = 0)))) (bT t b) := (op_eq ((op_eq rfl rfl).trans rfl) rfl).trans rfl
      unfold eAnd
      rw [c1, bind_ok]
      by_cases a1 : 0 ≤ x
      · rw [decide_eq_true a1]
        by_cases a2 : x < (w : Int)
        · rw [decide_eq_true a2]
          show eOp (fEq) _ _ _ _ = _
          rw [c2, decide_eq_false fun a3 => hn ⟨a1, a2, a3⟩]
        · rw [decide_eq_false a2]; rfl
      · rw [decide_eq_false a1]; rfl
    simp -implicitDefEqProofs only [bind_ok, bind_er, bindN_ok, ofE_ok, ofE_er, seqO_nx, seqO_rt, seqO_er, seqO_bk, seqO_ct, loopO_nx, loopO_ct, loopO_bk, loopO_rt, loopO_er, lift_s, retO_rt, retO_nx, retO_er, mkO_ok, mkO_er, toOpt_ok, eVar_z, eVar_s, oL_z, oL_s, frz_z, frz_s, wipe_n, wipe_c, datas_n, datas_c, map_s, bind_s, setA_n, setA_c, p2_d, p1_d, pN_d, fEq_i, fEq_s, fEq_b, fEq_ii, fNe_i, fNe_s, fNe_b, fSub_i, fAdd_i, fAnd_i, fOr_i, fXor_i, fLt_i, fLe_i, fGt_i, fGe_i, fIs_d, fIsNot_d, fIsB_b, isB_b, tru_b, tru_i, tru_l, tru_t, orE_s, orE_n, alt2_e, alt1_e, altN_e, fIx_l, fIx_t, at_0, at_1, at_2, at_3, at_4, at_5, for_n, for_c, lc_n, len_lst, len_tup, kfn_c, kix_c, sSeq_e, sNil_e, sSet_e, sSet2_e, sRet_e, sRetN_e, sDrop_e, sIf_e, sBk_e, sCt_e, sFrz_e, sOwn_e, sFor_e, sUnp_e, eC_e, eOp_e, eUn_e, aNil_e, aCons_e, aApp_e, eFN_e, eCall_e, eMake_e, eCMeth_e, eCallO_e, eLst_e, eTup_e, nLst_e, nLc_e, eLc_e, lSeq_e, lTup_e, eIf_e, eAnd_e, eOr_e, eNot_e, bOf_e, bAnd_e, bOr_e, bNot_e, eFld_e, runB_e, env0_e, oN_e, List.set_cons_zero, List.set_cons_succ, List.map_cons, List.map_nil, List.cons_append, List.nil_append, List.replicate_succ, List.replicate_zero, List.length_cons, List.length_nil, List.getElem?_cons_zero, List.getElem?_cons_succ, reduceIte, if_true, if_false, Bool.false_eq_true, arN_t, decide_true, decide_false, isNon, Bool.not_true, Bool.not_false, Bool.true_and, Bool.false_and, Bool.and_true, Bool.and_false, bYes_e, lstMax_e, Nat.reduceAdd, Nat.reduceSub, Nat.reduceLeDiff, Int.reduceLT, Int.reduceLE, Int.reduceEq, String.reduceEq, and_self, decide_eq_true_eq, and_true, true_and, cPos_e, cDiv_e, fMod_i, fDiv_i, Int.reduceMod, Int.reduceDiv, Int.reduceSub, Int.reduceAdd, Int.reducePow, kOf_i, fsOf_i, fOwn_k, fOwn1_k, gFld_k, methO_e, methK_s, methA_s, ownK_s, ownK_n, ownK_m, own1K_s, own1K_n, fldK_s, sApp_e, appK_s, sOSub_e, osubK_s, eOIx_e, oixK_s, eOLen_e, olenK_s, ixN_p, Int.reduceToNat, Nat.reduceLT, oS_e, eSl_e, eSlT_e, kSet_e, kSet2_e, kDrop_e, kIf_t, kIf_f, kOwn_e, kApp_e, kOsub1_e, kOsub2_e, osK_s, kOix_e, ixK_s, kFor_e, kUnp_e, unpK_s, kOp1_e, kOp2_e, kUn_e, kC1_e, kC2_e, kA1_e, kA2_e, kFN_e, kCall_e, kMake_e, kCM_e, kMeth_e, kLst_e, lstK_s, kTup_e, tupK_s, kNl_e, nlK_s, nList_e, kNli_e, nliK_s, lOf_l, lOf_t, kNc1_e, kNc2_e, kLc1_e, kLc2_e, kSeq_e, kTpl_e, kEIf_t, kEIf_f, kEAnd_t, kEAnd_f, kEOr_t, kEOr_f, kENot_e, kB_e, kBAnd_t, kBAnd_f, kBOr_t, kBOr_f, kBNot_e, kOS_e, kSl1_e, kSl2_e, kSl3_e, kSt1_e, kSt2_e, kSt3_e, eMeth_e, kMe_e, lc_c, kL1_e, kL2_e, kT_t, kT_f, Int.cast_ofNat_Int, Int.natCast_zero, Int.natCast_one, lRng1_e, kRng_1, kRng_2, kRng_3, kRng_4, kRng_5, kRng_6, List.length_map, arS_0, sEr_e, sTryAs_e, tryK_nx, tryK_rt, tryK_er, afterO_rt, afterO_nx, eXf_e, xfS_s, xfK_s, plain_n, plain_e, List.all_cons, List.all_nil, eq_self, sTryN_e, tryN_nx, tryN_rt, tryN_h, tryN_t, dflI_e, dflF_e, not_false_eq_true, eMethK_e, kMK_e, kMK2_e, eProp_e, kPr_e, eNotO_e, kNotO_e, notK_s, eSlA_e, kSA1_e, kSA2_e, kSA3_l, kSA3_t, eGetO_e, kGet1_e, kGet2_e, getK_s, PBr, ↓ch, ↓r, is]
theorem right_ok {w : Nat} {v : EV} {t : GS} {L : List (List Nat)} (g : Gd w L) (h : Lv v t L) (far : Nat) (b : Bx) : g__law_right [.d (shD w L), v, .d (.int (far : Nat))] (bT t b) = .ok (.d (.bl true)) (bT t b) := by
  have ss := ssv_ok g h b
  have hw2 := g.w2
  have hl := g.hl
  have hp := g.pos
  have le := h.len b
  have e0 := g.hw _ (List.getElem_mem g.pos)
  have l2 := len_tx (ws := L[0]'g.pos) (by omega) (G := bT t b)
  rw [e0] at l2
  have x0 := h.ix0 b g.pos
  have a0 : sIf (bNot (bOf truE (eCall (arN 2) g__law_same_shape (aCons (eVar 0) (aCons (eVar 1) (aNil)))))) (sRet (eC (.bl false))) (sNil) [.ev (.d (shD w L)), .ev v, .ev (.d (.int (far : Nat))), .no, .no, .no, .no, .no] (bT t b) = .nx [.ev (.d (shD w L)), .ev v, .ev (.d (.int (far : Nat))), .no, .no, .no, .no, .no] (bT t b) := by
    simp -implicitDefEqProofs only [bind_ok, bind_er, bindN_ok, ofE_ok, ofE_er, seqO_nx, seqO_rt, seqO_er, seqO_bk, seqO_ct, loopO_nx, loopO_ct, loopO_bk, loopO_rt, loopO_er, lift_s, retO_rt, retO_nx, retO_er, mkO_ok, mkO_er, toOpt_ok, eVar_z, eVar_s, oL_z, oL_s, frz_z, frz_s, wipe_n, wipe_c, datas_n, datas_c, map_s, bind_s, setA_n, setA_c, p2_d, p1_d, pN_d, fEq_i, fEq_s, fEq_b, fEq_ii, fNe_i, fNe_s, fNe_b, fSub_i, fAdd_i, fAnd_i, fOr_i, fXor_i, fLt_i, fLe_i, fGt_i, fGe_i, fIs_d, fIsNot_d, fIsB_b, isB_b, tru_b, tru_i, tru_l, tru_t, orE_s, orE_n, alt2_e, alt1_e, altN_e, fIx_l, fIx_t, at_0, at_1, at_2, at_3, at_4, at_5, for_n, for_c, lc_n, len_lst, len_tup, kfn_c, kix_c, sSeq_e, sNil_e, sSet_e, sSet2_e, sRet_e, sRetN_e, sDrop_e, sIf_e, sBk_e, sCt_e, sFrz_e, sOwn_e, sFor_e, sUnp_e, eC_e, eOp_e, eUn_e, aNil_e, aCons_e, aApp_e, eFN_e, eCall_e, eMake_e, eCMeth_e, eCallO_e, eLst_e, eTup_e, nLst_e, nLc_e, eLc_e, lSeq_e, lTup_e, eIf_e, eAnd_e, eOr_e, eNot_e, bOf_e, bAnd_e, bOr_e, bNot_e, eFld_e, runB_e, env0_e, oN_e, List.set_cons_zero, List.set_cons_succ, List.map_cons, List.map_nil, List.cons_append, List.nil_append, List.replicate_succ, List.replicate_zero, List.length_cons, List.length_nil, List.getElem?_cons_zero, List.getElem?_cons_succ, reduceIte, if_true, if_false, Bool.false_eq_true, arN_t, decide_true, decide_false, isNon, Bool.not_true, Bool.not_false, Bool.true_and, Bool.false_and, Bool.and_true, Bool.and_false, bYes_e, lstMax_e, Nat.reduceAdd, Nat.reduceSub, Nat.reduceLeDiff, Int.reduceLT, Int.reduceLE, Int.reduceEq, String.reduceEq, and_self, decide_eq_true_eq, and_true, true_and, cPos_e, cDiv_e, fMod_i, fDiv_i, Int.reduceMod, Int.reduceDiv, Int.reduceSub, Int.reduceAdd, Int.reducePow, kOf_i, fsOf_i, fOwn_k, fOwn1_k, gFld_k, methO_e, methK_s, methA_s, ownK_s, ownK_n, ownK_m, own1K_s, own1K_n, fldK_s, sApp_e, appK_s, sOSub_e, osubK_s, eOIx_e, oixK_s, eOLen_e, olenK_s, ixN_p, Int.reduceToNat, Nat.reduceLT, oS_e, eSl_e, eSlT_e, kSet_e, kSet2_e, kDrop_e, kIf_t, kIf_f, kOwn_e, kApp_e, kOsub1_e, kOsub2_e, osK_s, kOix_e, ixK_s, kFor_e, kUnp_e, unpK_s, kOp1_e, kOp2_e, kUn_e, kC1_e, kC2_e, kA1_e, kA2_e, kFN_e, kCall_e, kMake_e, kCM_e, kMeth_e, kLst_e, lstK_s, kTup_e, tupK_s, kNl_e, nlK_s, nList_e, kNli_e, nliK_s, lOf_l, lOf_t, kNc1_e, kNc2_e, kLc1_e, kLc2_e, kSeq_e, kTpl_e, kEIf_t, kEIf_f, kEAnd_t, kEAnd_f, kEOr_t, kEOr_f, kENot_e, kB_e, kBAnd_t, kBAnd_f, kBOr_t, kBOr_f, kBNot_e, kOS_e, kSl1_e, kSl2_e, kSl3_e, kSt1_e, kSt2_e, kSt3_e, eMeth_e, kMe_e, lc_c, kL1_e, kL2_e, kT_t, kT_f, Int.cast_ofNat_Int, Int.natCast_zero, Int.natCast_one, lRng1_e, kRng_1, kRng_2, kRng_3, kRng_4, kRng_5, kRng_6, List.length_map, arS_0, sEr_e, sTryAs_e, tryK_nx, tryK_rt, tryK_er, afterO_rt, afterO_nx, eXf_e, xfS_s, xfK_s, plain_n, plain_e, List.all_cons, List.all_nil, eq_self, sTryN_e, tryN_nx, tryN_rt, tryN_h, tryN_t, dflI_e, dflF_e, not_false_eq_true, eMethK_e, kMK_e, kMK2_e, eProp_e, kPr_e, eNotO_e, kNotO_e, notK_s, eSlA_e, kSA1_e, kSA2_e, kSA3_l, kSA3_t, eGetO_e, kGet1_e, kGet2_e, getK_s, ss]
  obtain ⟨s4, s6, o⟩ := outer_ok (f := .d (.int (far : Nat))) g h .no .no b L 0 0 .no .no (by omega) rfl
  rw [← List.range_eq_range', Nat.zero_add] at o
  have f4 : sFor 4 (lRng1 (aCons (eFN fLen (aCons (eVar 1) (aNil))) (aNil))) OBr [.ev (.d (shD w L)), .ev v, .ev (.d (.int (far : Nat))), .ev (.d (.int 0)), .no, .no, .no, .no] (bT t b) = .nx [.ev (.d (shD w L)), .ev v, .ev (.d (.int (far : Nat))), .ev (.d (.int (cntL L : Nat))), s4, .no, s6, .no] (bT t b) := by
    have r1 : lRng1 (aCons (eFN fLen (aCons (eVar 1) (aNil))) (aNil)) [.ev (.d (shD w L)), .ev v, .ev (.d (.int (far : Nat))), .ev (.d (.int 0)), .no, .no, .no, .no] (bT t b) = .ok ((List.range L.length).map fun i : Nat => DL.D.int (i : Nat)) (bT t b) := rng_of (by omega) (by simp -implicitDefEqProofs only [bind_ok, bind_er, bindN_ok, ofE_ok, ofE_er, seqO_nx, seqO_rt, seqO_er, seqO_bk, seqO_ct, loopO_nx, loopO_ct, loopO_bk, loopO_rt, loopO_er, lift_s, retO_rt, retO_nx, retO_er, mkO_ok, mkO_er, toOpt_ok, eVar_z, eVar_s, oL_z, oL_s, frz_z, frz_s, wipe_n, wipe_c, datas_n, datas_c, map_s, bind_s, setA_n, setA_c, p2_d, p1_d, pN_d, fEq_i, fEq_s, fEq_b, fEq_ii, fNe_i, fNe_s, fNe_b, fSub_i, fAdd_i, fAnd_i, fOr_i, fXor_i, fLt_i, fLe_i, fGt_i, fGe_i, fIs_d, fIsNot_d, fIsB_b, isB_b, tru_b, tru_i, tru_l, tru_t, orE_s, orE_n, alt2_e, alt1_e, altN_e, fIx_l, fIx_t, at_0, at_1, at_2, at_3, at_4, at_5, for_n, for_c, lc_n, len_lst, len_tup, kfn_c, kix_c, sSeq_e, sNil_e, sSet_e, sSet2_e, sRet_e, sRetN_e, sDrop_e, sIf_e, sBk_e, sCt_e, sFrz_e, sOwn_e, sFor_e, sUnp_e, eC_e, eOp_e, eUn_e, aNil_e, aCons_e, aApp_e, eFN_e, eCall_e, eMake_e, eCMeth_e, eCallO_e, eLst_e, eTup_e, nLst_e, nLc_e, eLc_e, lSeq_e, lTup_e, eIf_e, eAnd_e, eOr_e, eNot_e, bOf_e, bAnd_e, bOr_e, bNot_e, eFld_e, runB_e, env0_e, oN_e, List.set_cons_zero, List.set_cons_succ, List.map_cons, List.map_nil, List.cons_append, List.nil_append, List.replicate_succ, List.replicate_zero, List.length_cons, List.length_nil, List.getElem?_cons_zero, List.getElem?_cons_succ, reduceIte, if_true, if_false, Bool.false_eq_true, arN_t, decide_true, decide_false, isNon, Bool.not_true, Bool.not_false, Bool.true_and, Bool.false_and, Bool.and_true, Bool.and_false, bYes_e, lstMax_e, Nat.reduceAdd, Nat.reduceSub, Nat.reduceLeDiff, Int.reduceLT, Int.reduceLE, Int.reduceEq, String.reduceEq, and_self, decide_eq_true_eq, and_true, true_and, cPos_e, cDiv_e, fMod_i, fDiv_i, Int.reduceMod, Int.reduceDiv, Int.reduceSub, Int.reduceAdd, Int.reducePow, kOf_i, fsOf_i, fOwn_k, fOwn1_k, gFld_k, methO_e, methK_s, methA_s, ownK_s, ownK_n, ownK_m, own1K_s, own1K_n, fldK_s, sApp_e, appK_s, sOSub_e, osubK_s, eOIx_e, oixK_s, eOLen_e, olenK_s, ixN_p, Int.reduceToNat, Nat.reduceLT, oS_e, eSl_e, eSlT_e, kSet_e, kSet2_e, kDrop_e, kIf_t, kIf_f, kOwn_e, kApp_e, kOsub1_e, kOsub2_e, osK_s, kOix_e, ixK_s, kFor_e, kUnp_e, unpK_s, kOp1_e, kOp2_e, kUn_e, kC1_e, kC2_e, kA1_e, kA2_e, kFN_e, kCall_e, kMake_e, kCM_e, kMeth_e, kLst_e, lstK_s, kTup_e, tupK_s, kNl_e, nlK_s, nList_e, kNli_e, nliK_s, lOf_l, lOf_t, kNc1_e, kNc2_e, kLc1_e, kLc2_e, kSeq_e, kTpl_e, kEIf_t, kEIf_f, kEAnd_t, kEAnd_f, kEOr_t, kEOr_f, kENot_e, kB_e, kBAnd_t, kBAnd_f, kBOr_t, kBOr_f, kBNot_e, kOS_e, kSl1_e, kSl2_e, kSl3_e, kSt1_e, kSt2_e, kSt3_e, eMeth_e, kMe_e, lc_c, kL1_e, kL2_e, kT_t, kT_f, Int.cast_ofNat_Int, Int.natCast_zero, Int.natCast_one, lRng1_e, kRng_1, kRng_2, kRng_3, kRng_4, kRng_5, kRng_6, List.length_map, arS_0, sEr_e, sTryAs_e, tryK_nx, tryK_rt, tryK_er, afterO_rt, afterO_nx, eXf_e, xfS_s, xfK_s, plain_n, plain_e, List.all_cons, List.all_nil, eq_self, sTryN_e, tryN_nx, tryN_rt, tryN_h, tryN_t, dflI_e, dflF_e, not_false_eq_true, eMethK_e, kMK_e, kMK2_e, eProp_e, kPr_e, eNotO_e, kNotO_e, notK_s, eSlA_e, kSA1_e, kSA2_e, kSA3_l, kSA3_t, eGetO_e, kGet1_e, kGet2_e, getK_s, le])
    unfold sFor
    rw [r1]
    exact o
  let P6 : List DL.D := [.tup [.int (-1), .int 0], .tup [.int 0, .int (-1)], .tup [.int (w : Nat), .int 0], .tup [.int 0, .int (L.length : Nat)], .tup [.int (far : Nat), .int 0], .tup [.int 0, .int (-1 - (far : Int))]]
  have ls : lSeq (eLst (aCons (eTup (aCons (eUn fNeg (eC (.int 1))) (aCons (eC (.int 0)) (aNil)))) (aCons (eTup (aCons (eC (.int 0)) (aCons (eUn fNeg (eC (.int 1))) (aNil)))) (aCons (eTup (aCons (eFN fLen (aCons (eOp fIx (eVar 1) (eC (.int 0))) (aNil))) (aCons (eC (.int 0)) (aNil)))) (aCons (eTup (aCons (eC (.int 0)) (aCons (eFN fLen (aCons (eVar 1) (aNil))) (aNil)))) (aCons (eTup (aCons (eVar 2) (aCons (eC (.int 0)) (aNil)))) (aCons (eTup (aCons (eC (.int 0)) (aCons (eOp (fSub) (eUn fNeg (eC (.int 1))) (eVar 2)) (aNil)))) (aNil)))))))) [.ev (.d (shD w L)), .ev v, .ev (.d (.int (far : Nat))), .ev (.d (.int (cntL L : Nat))), s4, .no, s6, .no] (bT t b) = .ok P6 (bT t b) := by
    have n1 : fNeg (.d (.int 1)) (bT t b) = some (.d (.int (-1)), bT t b) := rfl
    have n2 : ∀ env, eUn fNeg (eC (.int 1)) env (bT t b) = .ok (.d (.int (-1))) (bT t b) := fun env => rfl
    simp -implicitDefEqProofs only [bind_ok, bind_er, bindN_ok, ofE_ok, ofE_er, seqO_nx, seqO_rt, seqO_er, seqO_bk, seqO_ct, loopO_nx, loopO_ct, loopO_bk, loopO_rt, loopO_er, lift_s, retO_rt, retO_nx, retO_er, mkO_ok, mkO_er, toOpt_ok, eVar_z, eVar_s, oL_z, oL_s, frz_z, frz_s, wipe_n, wipe_c, datas_n, datas_c, map_s, bind_s, setA_n, setA_c, p2_d, p1_d, pN_d, fEq_i, fEq_s, fEq_b, fEq_ii, fNe_i, fNe_s, fNe_b, fSub_i, fAdd_i, fAnd_i, fOr_i, fXor_i, fLt_i, fLe_i, fGt_i, fGe_i, fIs_d, fIsNot_d, fIsB_b, isB_b, tru_b, tru_i, tru_l, tru_t, orE_s, orE_n, alt2_e, alt1_e, altN_e, fIx_l, fIx_t, at_0, at_1, at_2, at_3, at_4, at_5, for_n, for_c, lc_n, len_lst, len_tup, kfn_c, kix_c, sSeq_e, sNil_e, sSet_e, sSet2_e, sRet_e, sRetN_e, sDrop_e, sIf_e, sBk_e, sCt_e, sFrz_e, sOwn_e, sFor_e, sUnp_e, eC_e, eOp_e, eUn_e, aNil_e, aCons_e, aApp_e, eFN_e, eCall_e, eMake_e, eCMeth_e, eCallO_e, eLst_e, eTup_e, nLst_e, nLc_e, eLc_e, lSeq_e, lTup_e, eIf_e, eAnd_e, eOr_e, eNot_e, bOf_e, bAnd_e, bOr_e, bNot_e, eFld_e, runB_e, env0_e, oN_e, List.set_cons_zero, List.set_cons_succ, List.map_cons, List.map_nil, List.cons_append, List.nil_append, List.replicate_succ, List.replicate_zero, List.length_cons, List.length_nil, List.getElem?_cons_zero, List.getElem?_cons_succ, reduceIte, if_true, if_false, Bool.false_eq_true, arN_t, decide_true, decide_false, isNon, Bool.not_true, Bool.not_false, Bool.true_and, Bool.false_and, Bool.and_true, Bool.and_false, bYes_e, lstMax_e, Nat.reduceAdd, Nat.reduceSub, Nat.reduceLeDiff, Int.reduceLT, Int.reduceLE, Int.reduceEq, String.reduceEq, and_self, decide_eq_true_eq, and_true, true_and, cPos_e, cDiv_e, fMod_i, fDiv_i, Int.reduceMod, Int.reduceDiv, Int.reduceSub, Int.reduceAdd, Int.reducePow, kOf_i, fsOf_i, fOwn_k, fOwn1_k, gFld_k, methO_e, methK_s, methA_s, ownK_s, ownK_n, ownK_m, own1K_s, own1K_n, fldK_s, sApp_e, appK_s, sOSub_e, osubK_s, eOIx_e, oixK_s, eOLen_e, olenK_s, ixN_p, Int.reduceToNat, Nat.reduceLT, oS_e, eSl_e, eSlT_e, kSet_e, kSet2_e, kDrop_e, kIf_t, kIf_f, kOwn_e, kApp_e, kOsub1_e, kOsub2_e, osK_s, kOix_e, ixK_s, kFor_e, kUnp_e, unpK_s, kOp1_e, kOp2_e, kUn_e, kC1_e, kC2_e, kA1_e, kA2_e, kFN_e, kCall_e, kMake_e, kCM_e, kMeth_e, kLst_e, lstK_s, kTup_e, tupK_s, kNl_e, nlK_s, nList_e, kNli_e, nliK_s, lOf_l, lOf_t, kNc1_e, kNc2_e, kLc1_e, kLc2_e, kSeq_e, kTpl_e, kEIf_t, kEIf_f, kEAnd_t, kEAnd_f, kEOr_t, kEOr_f, kENot_e, kB_e, kBAnd_t, kBAnd_f, kBOr_t, kBOr_f, kBNot_e, kOS_e, kSl1_e, kSl2_e, kSl3_e, kSt1_e, kSt2_e, kSt3_e, eMeth_e, kMe_e, lc_c, kL1_e, kL2_e, kT_t, kT_f, Int.cast_ofNat_Int, Int.natCast_zero, Int.natCast_one, lRng1_e, kRng_1, kRng_2, kRng_3, kRng_4, kRng_5, kRng_6, List.length_map, arS_0, sEr_e, sTryAs_e, tryK_nx, tryK_rt, tryK_er, afterO_rt, afterO_nx, eXf_e, xfS_s, xfK_s, plain_n, plain_e, List.all_cons, List.all_nil, eq_self, sTryN_e, tryN_nx, tryN_rt, tryN_h, tryN_t, dflI_e, dflF_e, not_false_eq_true, eMethK_e, kMK_e, kMK2_e, eProp_e, kPr_e, eNotO_e, kNotO_e, notK_s, eSlA_e, kSA1_e, kSA2_e, kSA3_l, kSA3_t, eGetO_e, kGet1_e, kGet2_e, getK_s, n1, x0, l2, le]
    try rfl
  have f5 : ∃ s5 s7, sFor 5 (lSeq (eLst (aCons (eTup (aCons (eUn fNeg (eC (.int 1))) (aCons (eC (.int 0)) (aNil)))) (aCons (eTup (aCons (eC (.int 0)) (aCons (eUn fNeg (eC (.int 1))) (aNil)))) (aCons (eTup (aCons (eFN fLen (aCons (eOp fIx (eVar 1) (eC (.int 0))) (aNil))) (aCons (eC (.int 0)) (aNil)))) (aCons (eTup (aCons (eC (.int 0)) (aCons (eFN fLen (aCons (eVar 1) (aNil))) (aNil)))) (aCons (eTup (aCons (eVar 2) (aCons (eC (.int 0)) (aNil)))) (aCons (eTup (aCons (eC (.int 0)) (aCons (eOp (fSub) (eUn fNeg (eC (.int 1))) (eVar 2)) (aNil)))) (aNil))))))))) PBr [.ev (.d (shD w L)), .ev v, .ev (.d (.int (far : Nat))), .ev (.d (.int (cntL L : Nat))), s4, .no, s6, .no] (bT t b) = .nx [.ev (.d (shD w L)), .ev v, .ev (.d (.int (far : Nat))), .ev (.d (.int (cntL L : Nat))), s4, s5, s6, s7] (bT t b) := by
    have go : ∀ (ps : List (Int × Int)) (s5 s7 : Sl), (∀ p ∈ ps, (0 ≤ p.1 ∧ p.1 < w ∧ p.2 = 0) ∨ (p.1 < 0 ∨ (w : Int) ≤ p.1 ∨ p.2 < 0 ∨ (L.length : Int) ≤ p.2) ∧ ¬ (0 ≤ p.1 ∧ p.1 < w ∧ p.2 = 0)) → ∃ s5' s7', forL 5 PBr (ps.map fun p => DL.D.tup [.int p.1, .int p.2]) [.ev (.d (shD w L)), .ev v, .ev (.d (.int (far : Nat))), .ev (.d (.int (cntL L : Nat))), s4, s5, s6, s7] (bT t b) = .nx [.ev (.d (shD w L)), .ev v, .ev (.d (.int (far : Nat))), .ev (.d (.int (cntL L : Nat))), s4, s5', s6, s7'] (bT t b) := by
      intro ps
      induction ps with
      | nil => intro s5 s7 _; exact ⟨s5, s7, rfl⟩
      | cons p ps ih =>
        intro s5 s7 hp
        obtain ⟨s7a, e1⟩ := place_ok (x := p.1) (y := p.2) (f := .ev (.d (.int (far : Nat)))) (mm := .ev (.d (.int (cntL L : Nat)))) (s4 := s4) (s6 := s6) (s7 := s7) rfl g h (hp p List.mem_cons_self) b
        obtain ⟨s5', s7', e2⟩ := ih (.ev (.d (.tup [.int p.1, .int p.2]))) s7a fun q hq => hp q (List.mem_cons_of_mem _ hq)
        refine ⟨s5', s7', ?_⟩
        rw [List.map_cons, for_c]
        show loopO (PBr [.ev (.d (shD w L)), .ev v, .ev (.d (.int (far : Nat))), .ev (.d (.int (cntL L : Nat))), s4, .ev (.d (.tup [.int p.1, .int p.2])), s6, s7] (bT t b)) _ = _
        rw [e1, loopO_nx, e2]
    obtain ⟨s5', s7', e⟩ := go [(-1, 0), (0, -1), ((w : Int), 0), (0, (L.length : Int)), ((far : Int), 0), (0, -1 - (far : Int))] .no .no (by
      intro p hp
      simp only [List.mem_cons, List.mem_nil_iff, or_false] at hp
      rcases hp with rfl | rfl | rfl | rfl | rfl | rfl <;> dsimp only <;> omega)
    refine ⟨s5', s7', ?_⟩
    unfold sFor
    rw [ls]
    exact e
  obtain ⟨s5, s7, f5⟩ := f5
  have ar := area_ok g (bT t b)
  have i1 := int_ok (cntL L) (bT t b)
  have k := sh_k w L
  show retO (sSeq _ (sSeq (sSet 3 _) (sSeq (sFor 4 _ OBr) (sSeq (sFor 5 _ PBr) _))) [.ev (.d (shD w L)), .ev v, .ev (.d (.int (far : Nat))), .no, .no, .no, .no, .no] (bT t b)) = _
  rw [sqn a0, sqn (setn (e := .d (.int 0)) rfl)]
  show retO (sSeq (sFor 4 _ OBr) _ [.ev (.d (shD w L)), .ev v, .ev (.d (.int (far : Nat))), .ev (.d (.int 0)), .no, .no, .no, .no] (bT t b)) = _
  rw [sqn f4, sqn f5]
  simp -implicitDefEqProofs only [bind_ok, bind_er, bindN_ok, ofE_ok, ofE_er, seqO_nx, seqO_rt, seqO_er, seqO_bk, seqO_ct, loopO_nx, loopO_ct, loopO_bk, loopO_rt, loopO_er, lift_s, retO_rt, retO_nx, retO_er, mkO_ok, mkO_er, toOpt_ok, eVar_z, eVar_s, oL_z, oL_s, frz_z, frz_s, wipe_n, wipe_c, datas_n, datas_c, map_s, bind_s, setA_n, setA_c, p2_d, p1_d, pN_d, fEq_i, fEq_s, fEq_b, fEq_ii, fNe_i, fNe_s, fNe_b, fSub_i, fAdd_i, fAnd_i, fOr_i, fXor_i, fLt_i, fLe_i, fGt_i, fGe_i, fIs_d, fIsNot_d, fIsB_b, isB_b, tru_b, tru_i, tru_l, tru_t, orE_s, orE_n, alt2_e, alt1_e, altN_e, fIx_l, fIx_t, at_0, at_1, at_2, at_3, at_4, at_5, for_n, for_c, lc_n, len_lst, len_tup, kfn_c, kix_c, sSeq_e, sNil_e, sSet_e, sSet2_e, sRet_e, sRetN_e, sDrop_e, sIf_e, sBk_e, sCt_e, sFrz_e, sOwn_e, sFor_e, sUnp_e, eC_e, eOp_e, eUn_e, aNil_e, aCons_e, aApp_e, eFN_e, eCall_e, eMake_e, eCMeth_e, eCallO_e, eLst_e, eTup_e, nLst_e, nLc_e, eLc_e, lSeq_e, lTup_e, eIf_e, eAnd_e, eOr_e, eNot_e, bOf_e, bAnd_e, bOr_e, bNot_e, eFld_e, runB_e, env0_e, oN_e, List.set_cons_zero, List.set_cons_succ, List.map_cons, List.map_nil, List.cons_append, List.nil_append, List.replicate_succ, List.replicate_zero, List.length_cons, List.length_nil, List.getElem?_cons_zero, List.getElem?_cons_succ, reduceIte, if_true, if_false, Bool.false_eq_true, arN_t, decide_true, decide_false, isNon, Bool.not_true, Bool.not_false, Bool.true_and, Bool.false_and, Bool.and_true, Bool.and_false, bYes_e, lstMax_e, Nat.reduceAdd, Nat.reduceSub, Nat.reduceLeDiff, Int.reduceLT, Int.reduceLE, Int.reduceEq, String.reduceEq, and_self, decide_eq_true_eq, and_true, true_and, cPos_e, cDiv_e, fMod_i, fDiv_i, Int.reduceMod, Int.reduceDiv, Int.reduceSub, Int.reduceAdd, Int.reducePow, kOf_i, fsOf_i, fOwn_k, fOwn1_k, gFld_k, methO_e, methK_s, methA_s, ownK_s, ownK_n, ownK_m, own1K_s, own1K_n, fldK_s, sApp_e, appK_s, sOSub_e, osubK_s, eOIx_e, oixK_s, eOLen_e, olenK_s, ixN_p, Int.reduceToNat, Nat.reduceLT, oS_e, eSl_e, eSlT_e, kSet_e, kSet2_e, kDrop_e, kIf_t, kIf_f, kOwn_e, kApp_e, kOsub1_e, kOsub2_e, osK_s, kOix_e, ixK_s, kFor_e, kUnp_e, unpK_s, kOp1_e, kOp2_e, kUn_e, kC1_e, kC2_e, kA1_e, kA2_e, kFN_e, kCall_e, kMake_e, kCM_e, kMeth_e, kLst_e, lstK_s, kTup_e, tupK_s, kNl_e, nlK_s, nList_e, kNli_e, nliK_s, lOf_l, lOf_t, kNc1_e, kNc2_e, kLc1_e, kLc2_e, kSeq_e, kTpl_e, kEIf_t, kEIf_f, kEAnd_t, kEAnd_f, kEOr_t, kEOr_f, kENot_e, kB_e, kBAnd_t, kBAnd_f, kBOr_t, kBOr_f, kBNot_e, kOS_e, kSl1_e, kSl2_e, kSl3_e, kSt1_e, kSt2_e, kSt3_e, eMeth_e, kMe_e, lc_c, kL1_e, kL2_e, kT_t, kT_f, Int.cast_ofNat_Int, Int.natCast_zero, Int.natCast_one, lRng1_e, kRng_1, kRng_2, kRng_3, kRng_4, kRng_5, kRng_6, List.length_map, arS_0, sEr_e, sTryAs_e, tryK_nx, tryK_rt, tryK_er, afterO_rt, afterO_nx, eXf_e, xfS_s, xfK_s, plain_n, plain_e, List.all_cons, List.all_nil, eq_self, sTryN_e, tryN_nx, tryN_rt, tryN_h, tryN_t, dflI_e, dflF_e, not_false_eq_true, eMethK_e, kMK_e, kMK2_e, eProp_e, kPr_e, eNotO_e, kNotO_e, notK_s, eSlA_e, kSA1_e, kSA2_e, kSA3_l, kSA3_t, eGetO_e, kGet1_e, kGet2_e, getK_s, k, ar, i1]
end K58
set_option Elab.async false
set_option linter.all false
set_option maxRecDepth 100000
set_option maxHeartbeats 4000000
namespace K58
open PySem DL
open L2 (ixN cutS)
/-! ### Shape made in several ways -/
def res (L : List (List Nat)) (G : GS) : Out EV := match badO L with
  | some j => .er "InvalidShape" [.int (j : Nat)] G
  | none => .ok (.d (shD (L.headD []).length L)) G
theorem make_any {L : List (List Nat)} (ln : Ln L) {r : AM} {env : En} {G G1 : GS} (h : r env G = .ok (L.map fun l => .d (txD l)) G1) : eMake "Shape" (arS 0) g_Shape___init__ r env G = res L G1 := by
  unfold res
  cases hb : badO L with
  | some j =>
    unfold eMake
    rw [h, bind_ok]
    show (if arS 0 _ = true then mkO "Shape" (g_Shape___init__ (L.map fun l => .d (txD l)) G1) else .st) = _
    rw [if_pos arS_0, init_er ln hb]
    rfl
  | none =>
    obtain ⟨w, g⟩ := bad_gd hb
    have e : (L.headD []).length = w := by
      cases L with
      | nil => exact absurd rfl g.ne
      | cons l r => exact g.hw l List.mem_cons_self
    rw [e]
    exact make_sh g h
theorem shof_any {L : List (List Nat)} (ln : Ln L) {v : EV} {t : GS} (h : Lv v t L) (b : Bx) : g_Shape_of [.d (.cls "Shape"), v] (bT t b) = res L (bT t b) := by
  have s := h.star b (m := eVar 1) (env := [.ev (.d (.cls "Shape")), .ev v]) rfl
  have e : eMakeV 0 "Shape" (arS 0) g_Shape___init__ (aStX (eVar 1) aNil) [.ev (.d (.cls "Shape")), .ev v] (bT t b) = res L (bT t b) := make_any ln s
  show retO (ofE (eMakeV 0 "Shape" (arS 0) g_Shape___init__ (aStX (eVar 1) aNil) [.ev (.d (.cls "Shape")), .ev v] (bT t b)) _ OutS.rt) = _
  rw [e]
  cases res L (bT t b) <;> rfl
theorem shof_tup {L : List (List Nat)} (ln : Ln L) (G : GS) : g_Shape_of [.d (.cls "Shape"), .d (.tup (L.map txD))] G = res L G := by
  have s : aStX (eVar 1) aNil [.ev (.d (.cls "Shape")), .ev (.d (.tup (L.map txD)))] G = .ok (L.map fun l => .d (txD l)) G := by
    show Out.ok ((L.map txD).map EV.d ++ []) G = _
    rw [List.append_nil, map_txE]
  have e : eMakeV 0 "Shape" (arS 0) g_Shape___init__ (aStX (eVar 1) aNil) [.ev (.d (.cls "Shape")), .ev (.d (.tup (L.map txD)))] G = res L G := make_any ln s
  show retO (ofE (eMakeV 0 "Shape" (arS 0) g_Shape___init__ (aStX (eVar 1) aNil) [.ev (.d (.cls "Shape")), .ev (.d (.tup (L.map txD)))] G) _ OutS.rt) = _
  rw [e]
  cases res L G <;> rfl
theorem ret_of {m : EM} {env : En} {G : GS} {o : Out EV} (h : m env G = o) : retO (sRet m env G) = o := by
  unfold sRet
  rw [h]
  cases o <;> rfl
theorem made_ok {L : List (List Nat)} (ln : Ln L) {v : EV} {t : GS} (h : Lv v t L) (b : Bx) : g__law_made [v] (bT t b) = res L (bT t b) := by
  have le := h.len b
  have ifk : ∀ (n : Nat) (m : SM), sIf (bOf isB (eOp (fEq) (eFN fLen (aCons (eVar 0) (aNil))) (eC (.int (n : Nat))))) m (sNil) [.ev v] (bT t b) = if L.length = n then m [.ev v] (bT t b) else .nx [.ev v] (bT t b) := fun n m => by
    have c : bOf isB (eOp (fEq) (eFN fLen (aCons (eVar 0) (aNil))) (eC (.int (n : Nat)))) [.ev v] (bT t b) = .ok (decide (L.length = n)) (bT t b) := by
      have d : decide ((L.length : Int) = (n : Nat)) = decide (L.length = n) := decide_eq_decide.mpr ⟨fun h => by omega, fun h => by omega⟩
      simp -implicitDefEqProofs only [bind_ok, bind_er, bindN_ok, ofE_ok, ofE_er, seqO_nx, seqO_rt, seqO_er, seqO_bk, seqO_ct, loopO_nx, loopO_ct, loopO_bk, loopO_rt, loopO_er, lift_s, retO_rt, retO_nx, retO_er, mkO_ok, mkO_er, toOpt_ok, eVar_z, eVar_s, oL_z, oL_s, frz_z, frz_s, wipe_n, wipe_c, datas_n, datas_c, map_s, bind_s, setA_n, setA_c, p2_d, p1_d, pN_d, fEq_i, fEq_s, fEq_b, fEq_ii, fNe_i, fNe_s, fNe_b, fSub_i, fAdd_i, fAnd_i, fOr_i, fXor_i, fLt_i, fLe_i, fGt_i, fGe_i, fIs_d, fIsNot_d, fIsB_b, isB_b, tru_b, tru_i, tru_l, tru_t, orE_s, orE_n, alt2_e, alt1_e, altN_e, fIx_l, fIx_t, at_0, at_1, at_2, at_3, at_4, at_5, for_n, for_c, lc_n, len_lst, len_tup, kfn_c, kix_c, sSeq_e, sNil_e, sSet_e, sSet2_e, sRet_e, sRetN_e, sDrop_e, sIf_e, sBk_e, sCt_e, sFrz_e, sOwn_e, sFor_e, sUnp_e, eC_e, eOp_e, eUn_e, aNil_e, aCons_e, aApp_e, eFN_e, eCall_e, eMake_e, eCMeth_e, eCallO_e, eLst_e, eTup_e, nLst_e, nLc_e, eLc_e, lSeq_e, lTup_e, eIf_e, eAnd_e, eOr_e, eNot_e, bOf_e, bAnd_e, bOr_e, bNot_e, eFld_e, runB_e, env0_e, oN_e, List.set_cons_zero, List.set_cons_succ, List.map_cons, List.map_nil, List.cons_append, List.nil_append, List.replicate_succ, List.replicate_zero, List.length_cons, List.length_nil, List.getElem?_cons_zero, List.getElem?_cons_succ, reduceIte, if_true, if_false, Bool.false_eq_true, arN_t, decide_true, decide_false, isNon, Bool.not_true, Bool.not_false, Bool.true_and, Bool.false_and, Bool.and_true, Bool.and_false, bYes_e, lstMax_e, Nat.reduceAdd, Nat.reduceSub, Nat.reduceLeDiff, Int.reduceLT, Int.reduceLE, Int.reduceEq, String.reduceEq, and_self, decide_eq_true_eq, and_true, true_and, cPos_e, cDiv_e, fMod_i, fDiv_i, Int.reduceMod, Int.reduceDiv, Int.reduceSub, Int.reduceAdd, Int.reducePow, kOf_i, fsOf_i, fOwn_k, fOwn1_k, gFld_k, methO_e, methK_s, methA_s, ownK_s, ownK_n, ownK_m, own1K_s, own1K_n, fldK_s, sApp_e, appK_s, sOSub_e, osubK_s, eOIx_e, oixK_s, eOLen_e, olenK_s, ixN_p, Int.reduceToNat, Nat.reduceLT, oS_e, eSl_e, eSlT_e, kSet_e, kSet2_e, kDrop_e, kIf_t, kIf_f, kOwn_e, kApp_e, kOsub1_e, kOsub2_e, osK_s, kOix_e, ixK_s, kFor_e, kUnp_e, unpK_s, kOp1_e, kOp2_e, kUn_e, kC1_e, kC2_e, kA1_e, kA2_e, kFN_e, kCall_e, kMake_e, kCM_e, kMeth_e, kLst_e, lstK_s, kTup_e, tupK_s, kNl_e, nlK_s, nList_e, kNli_e, nliK_s, lOf_l, lOf_t, kNc1_e, kNc2_e, kLc1_e, kLc2_e, kSeq_e, kTpl_e, kEIf_t, kEIf_f, kEAnd_t, kEAnd_f, kEOr_t, kEOr_f, kENot_e, kB_e, kBAnd_t, kBAnd_f, kBOr_t, kBOr_f, kBNot_e, kOS_e, kSl1_e, kSl2_e, kSl3_e, kSt1_e, kSt2_e, kSt3_e, eMeth_e, kMe_e, lc_c, kL1_e, kL2_e, kT_t, kT_f, Int.cast_ofNat_Int, Int.natCast_zero, Int.natCast_one, lRng1_e, kRng_1, kRng_2, kRng_3, kRng_4, kRng_5, kRng_6, List.length_map, arS_0, sEr_e, sTryAs_e, tryK_nx, tryK_rt, tryK_er, afterO_rt, afterO_nx, eXf_e, xfS_s, xfK_s, plain_n, plain_e, List.all_cons, List.all_nil, eq_self, sTryN_e, tryN_nx, tryN_rt, tryN_h, tryN_t, dflI_e, dflF_e, not_false_eq_true, eMethK_e, kMK_e, kMK2_e, eProp_e, kPr_e, eNotO_e, kNotO_e, notK_s, eSlA_e, kSA1_e, kSA2_e, kSA3_l, kSA3_t, eGetO_e, kGet1_e, kGet2_e, getK_s, le, d]
    rw [ift c]
    by_cases hn : L.length = n
    · rw [if_pos hn, decide_eq_true hn]; rfl
    · rw [if_neg hn, decide_eq_false hn]; rfl
  have i0 := ifk 0
  have i1 := ifk 1
  have i2 := ifk 2
  have i3 := ifk 3
  have ix : ∀ i, (hi : i < L.length) → eOp fIx (eVar 0) (eC (.int (i : Nat))) [.ev v] (bT t b) = .ok (.d (txD L[i])) (bT t b) := fun i hi => (op_eq rfl rfl).trans (by rw [h.ix b hi]; rfl)
  show retO (sSeq (sIf (bOf isB (eOp (fEq) (eFN fLen (aCons (eVar 0) (aNil))) (eC (.int (0 : Nat))))) _ sNil) (sSeq (sIf (bOf isB (eOp (fEq) (eFN fLen (aCons (eVar 0) (aNil))) (eC (.int (1 : Nat))))) _ sNil) (sSeq (sIf (bOf isB (eOp (fEq) (eFN fLen (aCons (eVar 0) (aNil))) (eC (.int (2 : Nat))))) _ sNil) (sSeq (sIf (bOf isB (eOp (fEq) (eFN fLen (aCons (eVar 0) (aNil))) (eC (.int (3 : Nat))))) _ sNil) _))) [.ev v] (bT t b)) = _
  have seqr : ∀ {a c : SM} {o : Out EV} {env : En} {G : GS}, (∃ m : EM, a = sRet m ∧ m env G = o) → retO (sSeq a c env G) = o := fun {a c o env G} ⟨m, e1, e2⟩ => by
    subst e1
    unfold sSeq sRet
    rw [e2]
    cases o <;> rfl
  have skip : ∀ {n : Nat} {m c : SM}, L.length ≠ n → sSeq (sIf (bOf isB (eOp (fEq) (eFN fLen (aCons (eVar 0) (aNil))) (eC (.int (n : Nat))))) m (sNil)) c [.ev v] (bT t b) = c [.ev v] (bT t b) := fun {n m c} hn => sqn ((ifk n m).trans (if_neg hn))
  have take : ∀ {n : Nat} {m : EM} {c : SM} {o : Out EV}, L.length = n → m [.ev v] (bT t b) = o → retO (sSeq (sIf (bOf isB (eOp (fEq) (eFN fLen (aCons (eVar 0) (aNil))) (eC (.int (n : Nat))))) (sRet m) (sNil)) c [.ev v] (bT t b)) = o := fun {n m c o} hn hm => by
    have e : sIf (bOf isB (eOp (fEq) (eFN fLen (aCons (eVar 0) (aNil))) (eC (.int (n : Nat))))) (sRet m) (sNil) [.ev v] (bT t b) = sRet m [.ev v] (bT t b) := (ifk n _).trans (if_pos hn)
    unfold sSeq
    rw [e]
    unfold sRet
    rw [hm]
    cases o <;> rfl
  by_cases h0 : L.length = 0
  · refine take h0 (make_any ln ?_)
    rw [List.length_eq_zero_iff.mp h0]
    rfl
  · rw [skip h0]
    by_cases h1 : L.length = 1
    · refine take h1 (make_any ln ?_)
      refine (acons1 (ix 0 (by omega))).trans ?_
      obtain ⟨x, rfl⟩ := List.length_eq_one_iff.mp h1
      rfl
    · rw [skip h1]
      by_cases h2 : L.length = 2
      · refine take h2 (make_any ln ?_)
        refine (acons_eq (ix 0 (by omega)) (acons1 (ix 1 (by omega)))).trans ?_
        match L, h2 with
        | [x, y], _ => rfl
      · rw [skip h2]
        by_cases h3 : L.length = 3
        · refine take h3 (make_any ln ?_)
          refine (acons_eq (ix 0 (by omega)) (acons_eq (ix 1 (by omega)) (acons1 (ix 2 (by omega))))).trans ?_
          match L, h3 with
          | [x, y, z], _ => rfl
        · rw [skip h3]
          have tu := h.tup b
          refine ret_of ?_
          have a : aCons (eFN fTupleE (aCons (eVar 0) (aNil))) (aNil) [.ev v] (bT t b) = .ok [.d (.tup (L.map txD))] (bT t b) := by
            refine acons1 ?_
            show lift (fTupleE [v] (bT t b)) = _
            rw [tu]
            rfl
          exact (cmeth_eq a rfl).trans (shof_tup ln (bT t b))
theorem res_good {L : List (List Nat)} (ln : Ln L) (h : badO L = none) (G : GS) : ∃ w, Gd w L ∧ res L G = .ok (.d (shD w L)) G := by
  obtain ⟨w, g⟩ := bad_gd h
  refine ⟨w, g, ?_⟩
  unfold res
  rw [h]
  have e : (L.headD []).length = w := by
    cases L with
    | nil => exact absurd rfl g.ne
    | cons l r => exact g.hw l List.mem_cons_self
  dsimp only
  rw [e]
theorem res_bad {L : List (List Nat)} {j : Nat} (h : badO L = some j) (G : GS) : res L G = .er "InvalidShape" [.int (j : Nat)] G := by
  unfold res
  rw [h]
end K58
set_option Elab.async false
set_option linter.all false
set_option maxRecDepth 100000
set_option maxHeartbeats 4000000
namespace K58
open PySem DL
open L2 (ixN cutS)
/-! ### two lines spoiled -/
@[reducible] def TB2 : SM := (sSeq (sSet 6 (eCall (arN 2) g__law_draw (aCons (eVar 0) (aCons (eFN fLen (aCons (eVar 1) (aNil))) (aNil))))) (sSeq (sSet 7 (eOp fIx (eVar 1) (eVar 6))) (sSeq (sSet 8 (eCall (arN 2) g__law_draw (aCons (eVar 0) (aCons (eOp (fAdd) (eFN fLen (aCons (eVar 7) (aNil))) (eC (.int 1))) (aNil))))) (sSeq (sSet 9 (eLst (aCons (eOp (fAdd) (eOp (fAdd) (eSlS (eVar 7) (oNone) (oSome (eVar 8))) (eC (.str "o"))) (eSlS (eVar 7) (oSome (eOp (fAdd) (eVar 8) (eC (.int 1)))) (oNone))) (aCons (eOp (fAdd) (eSlS (eVar 7) (oNone) (oSome (eVar 8))) (eSlS (eVar 7) (oSome (eOp (fAdd) (eVar 8) (eC (.int 1)))) (oNone))) (aCons (eOp (fAdd) (eOp (fAdd) (eSlS (eVar 7) (oNone) (oSome (eVar 8))) (eC (.str "#"))) (eSlS (eVar 7) (oSome (eVar 8)) (oNone))) (aNil)))))) (sSub (eVar 1) (eVar 6) (eOp fIx (eVar 9) (eCall (arN 2) g__law_draw (aCons (eVar 0) (aCons (eC (.int 3)) (aNil))))))))))
theorem two_step {L : List (List Nat)} {m : Nat} (t : GS) (s2 s3 s4 s5 s6 s7 s8 s9 : Sl) (h0 : 0 < L.length) (hl : L.length ≤ 40) (hw : ∀ l ∈ L, l.length ≤ m) (hm : m ≤ 60) (hc : ∀ l ∈ L, ∀ c ∈ l, c < 128) (b : Bx) : ∃ (L' : List (List Nat)) (b' : Bx) (s6' s7' s8' s9' : EV), TB2 [.ev (.o 1), .ev (.o (t.length + 2)), s2, s3, s4, s5, s6, s7, s8, s9] (bT (t ++ [ent L]) b) = .nx [.ev (.o 1), .ev (.o (t.length + 2)), s2, s3, s4, s5, .ev s6', .ev s7', .ev s8', .ev s9'] (bT (t ++ [ent L']) b') ∧ L'.length = L.length ∧ (∀ l ∈ L', l.length ≤ m + 1) ∧ (∀ l ∈ L', ∀ c ∈ l, c < 128) := by
  have lv : Lv (.o (t.length + 2)) (t ++ [ent L]) L := Lv.new t L
  obtain ⟨k, b1, e1, h1⟩ := drawT (t ++ [ent L]) b (L.length : Nat) (by omega) (by omega)
  have hk : k < L.length := by omega
  have mem : L[k] ∈ L := List.getElem_mem hk
  have lk := hw _ mem
  obtain ⟨at_, b2, e2, h2⟩ := drawT (t ++ [ent L]) b1 ((L[k].length : Int) + 1) (by omega) (by omega)
  obtain ⟨y, b3, e3, h3⟩ := drawT (t ++ [ent L]) b2 3 (by decide) (by decide)
  have le := lv.len b
  have le1 := lv.ix b1 hk
  have l2 := len_tx (ws := L[k]) (by omega) (G := bT (t ++ [ent L]) b1)
  let G2 := bT (t ++ [ent L]) b2
  let env8 : En := [.ev (.o 1), .ev (.o (t.length + 2)), s2, s3, s4, s5, .ev (.d (.int (k : Nat))), .ev (.d (.str (tx L[k]))), .ev (.d (.int (at_ : Nat))), s9]
  have c1 : eSlS (eVar 7) (oNone) (oSome (eVar 8)) env8 G2 = .ok (.d (.str (tx (L[k].take at_)))) G2 := by
    rw [← cut_hi (by omega)]
    exact cutm (by omega) rfl rfl rfl
  have c2 : eSlS (eVar 7) (oSome (eOp (fAdd) (eVar 8) (eC (.int 1)))) (oNone) env8 G2 = .ok (.d (.str (tx (L[k].drop (at_ + 1))))) G2 := by
    rw [← cut_lo (by omega)]
    exact cutm (by omega) rfl rfl rfl
  have c3 : eSlS (eVar 7) (oSome (eVar 8)) (oNone) env8 G2 = .ok (.d (.str (tx (L[k].drop at_)))) G2 := by
    rw [← cut_lo (by omega)]
    exact cutm (by omega) rfl rfl rfl
  have sg : ∀ (x : Nat) , eOp (fAdd) (eSlS (eVar 7) (oNone) (oSome (eVar 8))) (eC (.str (tx [x]))) env8 G2 = .ok (.d (.str (tx (L[k].take at_ ++ [x])))) G2 := fun x =>
    (op_eq c1 rfl).trans (by rw [add_tx (by rw [List.length_take]; simp; omega)]; rfl)
  have o1 : eOp (fAdd) (eOp (fAdd) (eSlS (eVar 7) (oNone) (oSome (eVar 8))) (eC (.str "o"))) (eSlS (eVar 7) (oSome (eOp (fAdd) (eVar 8) (eC (.int 1)))) (oNone)) env8 G2 = .ok (.d (.str (tx (L[k].take at_ ++ [111] ++ L[k].drop (at_ + 1))))) G2 :=
    (op_eq (sg 111) c2).trans (by rw [add_tx (by rw [List.length_append, List.length_take, List.length_drop]; simp; omega)]; rfl)
  have o2 : eOp (fAdd) (eSlS (eVar 7) (oNone) (oSome (eVar 8))) (eSlS (eVar 7) (oSome (eOp (fAdd) (eVar 8) (eC (.int 1)))) (oNone)) env8 G2 = .ok (.d (.str (tx (L[k].take at_ ++ L[k].drop (at_ + 1))))) G2 :=
    (op_eq c1 c2).trans (by rw [add_tx (by rw [List.length_take, List.length_drop]; omega)]; rfl)
  have o3 : eOp (fAdd) (eOp (fAdd) (eSlS (eVar 7) (oNone) (oSome (eVar 8))) (eC (.str "#"))) (eSlS (eVar 7) (oSome (eVar 8)) (oNone)) env8 G2 = .ok (.d (.str (tx (L[k].take at_ ++ [35] ++ L[k].drop at_)))) G2 :=
    (op_eq (sg 35) c3).trans (by rw [add_tx (by rw [List.length_append, List.length_take, List.length_drop]; simp; omega)]; rfl)
  have three_ : eLst (aCons (eOp (fAdd) (eOp (fAdd) (eSlS (eVar 7) (oNone) (oSome (eVar 8))) (eC (.str "o"))) (eSlS (eVar 7) (oSome (eOp (fAdd) (eVar 8) (eC (.int 1)))) (oNone))) (aCons (eOp (fAdd) (eSlS (eVar 7) (oNone) (oSome (eVar 8))) (eSlS (eVar 7) (oSome (eOp (fAdd) (eVar 8) (eC (.int 1)))) (oNone))) (aCons (eOp (fAdd) (eOp (fAdd) (eSlS (eVar 7) (oNone) (oSome (eVar 8))) (eC (.str "#"))) (eSlS (eVar 7) (oSome (eVar 8)) (oNone))) (aNil)))) env8 G2 = .ok (.d (.lst [txD (L[k].take at_ ++ [111] ++ L[k].drop (at_ + 1)), txD (L[k].take at_ ++ L[k].drop (at_ + 1)), txD (L[k].take at_ ++ [35] ++ L[k].drop at_)])) G2 := by
    have q := acons_eq o1 (acons_eq o2 (acons1 o3))
    unfold eLst
    rw [q]
    rfl
  let env9 : En := [.ev (.o 1), .ev (.o (t.length + 2)), s2, s3, s4, s5, .ev (.d (.int (k : Nat))), .ev (.d (.str (tx L[k]))), .ev (.d (.int (at_ : Nat))), .ev (.d (.lst [txD (L[k].take at_ ++ [111] ++ L[k].drop (at_ + 1)), txD (L[k].take at_ ++ L[k].drop (at_ + 1)), txD (L[k].take at_ ++ [35] ++ L[k].drop at_)]))]
  have lo := hc _ mem
  have lt : ∀ c ∈ L[k].take at_, c < 128 := fun c h => lo c (List.mem_of_mem_take h)
  have ld : ∀ n, ∀ c ∈ L[k].drop n, c < 128 := fun n c h => lo c (List.mem_of_mem_drop h)
  have pick : ∃ l : List Nat, l.length ≤ m + 1 ∧ (∀ x ∈ l, x < 128) ∧ eOp fIx (eVar 9) (eCall (arN 2) g__law_draw (aCons (eVar 0) (aCons (eC (.int 3)) (aNil)))) env9 G2 = .ok (.d (txD l)) (bT (t ++ [ent L]) b3) := by
    have q : eCall (arN 2) g__law_draw (aCons (eVar 0) (aCons (eC (.int 3)) (aNil))) env9 G2 = .ok (.d (.int (y : Nat))) (bT (t ++ [ent L]) b3) := (call_eq rfl rfl).trans e3
    have hy : y = 0 ∨ y = 1 ∨ y = 2 := by omega
    rcases hy with rfl | rfl | rfl
    · refine ⟨L[k].take at_ ++ [111] ++ L[k].drop (at_ + 1), by rw [List.length_append, List.length_append, List.length_take, List.length_drop]; simp; omega, fun x hx => ?_, (op_eq rfl q).trans rfl⟩
      rcases List.mem_append.mp hx with z | z
      · rcases List.mem_append.mp z with z | z
        · exact lt x z
        · rw [List.mem_singleton.mp z]; decide
      · exact ld _ x z
    · refine ⟨L[k].take at_ ++ L[k].drop (at_ + 1), by rw [List.length_append, List.length_take, List.length_drop]; omega, fun x hx => ?_, (op_eq rfl q).trans rfl⟩
      rcases List.mem_append.mp hx with z | z
      · exact lt x z
      · exact ld _ x z
    · refine ⟨L[k].take at_ ++ [35] ++ L[k].drop at_, by rw [List.length_append, List.length_append, List.length_take, List.length_drop]; simp; omega, fun x hx => ?_, (op_eq rfl q).trans rfl⟩
      rcases List.mem_append.mp hx with z | z
      · rcases List.mem_append.mp z with z | z
        · exact lt x z
        · rw [List.mem_singleton.mp z]; decide
      · exact ld _ x z
  obtain ⟨l, g1, g2, gp⟩ := pick
  refine ⟨L.set k l, b3, .d (.int (k : Nat)), .d (.str (tx L[k])), .d (.int (at_ : Nat)), .d (.lst [txD (L[k].take at_ ++ [111] ++ L[k].drop (at_ + 1)), txD (L[k].take at_ ++ L[k].drop (at_ + 1)), txD (L[k].take at_ ++ [35] ++ L[k].drop at_)]), ?_, List.length_set, fun x hx => (List.mem_or_eq_of_mem_set hx).elim (fun z => Nat.le_succ_of_le (hw x z)) fun z => z ▸ g1, fun x hx => (List.mem_or_eq_of_mem_set hx).elim (hc x) fun z => z ▸ g2⟩
  have a6 : eCall (arN 2) g__law_draw (aCons (eVar 0) (aCons (eFN fLen (aCons (eVar 1) (aNil))) (aNil))) [.ev (.o 1), .ev (.o (t.length + 2)), s2, s3, s4, s5, s6, s7, s8, s9] (bT (t ++ [ent L]) b) = .ok (.d (.int (k : Nat))) (bT (t ++ [ent L]) b1) := by
    have q : eFN fLen (aCons (eVar 1) (aNil)) [.ev (.o 1), .ev (.o (t.length + 2)), s2, s3, s4, s5, s6, s7, s8, s9] (bT (t ++ [ent L]) b) = .ok (.d (.int (L.length : Nat))) (bT (t ++ [ent L]) b) := by
      show lift (fLen [.o (t.length + 2)] (bT (t ++ [ent L]) b)) = _
      rw [le]
      rfl
    exact (call_eq (acons_eq rfl (acons1 q)) rfl).trans e1
  have a7 : eOp fIx (eVar 1) (eVar 6) [.ev (.o 1), .ev (.o (t.length + 2)), s2, s3, s4, s5, .ev (.d (.int (k : Nat))), s7, s8, s9] (bT (t ++ [ent L]) b1) = .ok (.d (.str (tx L[k]))) (bT (t ++ [ent L]) b1) := (op_eq rfl rfl).trans (by rw [le1]; rfl)
  have a8 : eCall (arN 2) g__law_draw (aCons (eVar 0) (aCons (eOp (fAdd) (eFN fLen (aCons (eVar 7) (aNil))) (eC (.int 1))) (aNil))) [.ev (.o 1), .ev (.o (t.length + 2)), s2, s3, s4, s5, .ev (.d (.int (k : Nat))), .ev (.d (.str (tx L[k]))), s8, s9] (bT (t ++ [ent L]) b1) = .ok (.d (.int (at_ : Nat))) G2 := by
    have q : eFN fLen (aCons (eVar 7) (aNil)) [.ev (.o 1), .ev (.o (t.length + 2)), s2, s3, s4, s5, .ev (.d (.int (k : Nat))), .ev (.d (.str (tx L[k]))), s8, s9] (bT (t ++ [ent L]) b1) = .ok (.d (.int (L[k].length : Nat))) (bT (t ++ [ent L]) b1) := by
      show lift (fLen [.d (.str (tx L[k]))] (bT (t ++ [ent L]) b1)) = _
      rw [l2]
      rfl
    exact (call_eq (acons_eq rfl (acons1 ((op_eq q rfl).trans rfl))) rfl).trans e2
  show sSeq (sSet 6 _) (sSeq (sSet 7 _) (sSeq (sSet 8 _) (sSeq (sSet 9 _) _))) [.ev (.o 1), .ev (.o (t.length + 2)), s2, s3, s4, s5, s6, s7, s8, s9] (bT (t ++ [ent L]) b) = _
  rw [sqn (setn a6)]
  show sSeq (sSet 7 _) _ [.ev (.o 1), .ev (.o (t.length + 2)), s2, s3, s4, s5, .ev (.d (.int (k : Nat))), s7, s8, s9] (bT (t ++ [ent L]) b1) = _
  rw [sqn (setn a7)]
  show sSeq (sSet 8 _) _ [.ev (.o 1), .ev (.o (t.length + 2)), s2, s3, s4, s5, .ev (.d (.int (k : Nat))), .ev (.d (.str (tx L[k]))), s8, s9] (bT (t ++ [ent L]) b1) = _
  rw [sqn (setn a8)]
  show sSeq (sSet 9 _) _ env8 G2 = _
  rw [sqn (setn three_)]
  exact subT (t := t) hk gp rfl rfl
theorem two_ok (t : GS) (b : Bx) : ∃ G', g__law_two [.o 1] (bT t b) = .ok (.d (.bl true)) G' := by
  obtain ⟨v1, b1, e1, h1⟩ := drawT t b 4 (by decide) (by decide)
  obtain ⟨v2, b2, e2, h2⟩ := drawT t b1 4 (by decide) (by decide)
  obtain ⟨L, b3, l1, l2, l3, el⟩ := linesT (w := 1 + v1) (h := 2 + v2) t (by omega) (by omega) b2
  rw [Int.natCast_add, Int.natCast_add] at el
  have el' : g__law_lines [.o 1, .d (.int (1 + (v1 : Int))), .d (.int (2 + (v2 : Int)))] (bT t b2) = .ok (.o (t.length + 2)) (bT (t ++ [ent L]) b3) := el
  obtain ⟨L1, b4, x6, x7, x8, x9, s1, q1, q2, q3⟩ := two_step t (.ev (.d (.int 0))) .no .no .no .no .no .no .no (by omega) (by omega) (m := 10) (fun l h => by have := l2 l h; omega) (by decide) (fun l h => low_of (l3 l h)) b3
  obtain ⟨L2, b5, y6, y7, y8, y9, s2, p1, p2, p3⟩ := two_step t (.ev (.d (.int 1))) .no .no .no (.ev x6) (.ev x7) (.ev x8) (.ev x9) (by omega) (by omega) (m := 11) q2 (by decide) q3 b4
  have lv : Lv (.o (t.length + 2)) (t ++ [ent L2]) L2 := Lv.new t L2
  have ln : Ln L2 := ⟨by omega, fun l h => by have := p2 l h; omega, p3⟩
  have bd := bad_ok lv ln b5
  have so := shof_any ln lv b5
  have a1 : sSet 1 (eCall (arN 3) g__law_lines (aCons (eVar 0) (aCons (eOp (fAdd) (eC (.int 1)) (eCall (arN 2) g__law_draw (aCons (eVar 0) (aCons (eC (.int 4)) (aNil))))) (aCons (eOp (fAdd) (eC (.int 2)) (eCall (arN 2) g__law_draw (aCons (eVar 0) (aCons (eC (.int 4)) (aNil))))) (aNil))))) [.ev (.o 1), .no, .no, .no, .no, .no, .no, .no, .no, .no] (bT t b) = .nx [.ev (.o 1), .ev (.o (t.length + 2)), .no, .no, .no, .no, .no, .no, .no, .no] (bT (t ++ [ent L]) b3) := by
    simp -implicitDefEqProofs only [bind_ok, bind_er, bindN_ok, ofE_ok, ofE_er, seqO_nx, seqO_rt, seqO_er, seqO_bk, seqO_ct, loopO_nx, loopO_ct, loopO_bk, loopO_rt, loopO_er, lift_s, retO_rt, retO_nx, retO_er, mkO_ok, mkO_er, toOpt_ok, eVar_z, eVar_s, oL_z, oL_s, frz_z, frz_s, wipe_n, wipe_c, datas_n, datas_c, map_s, bind_s, setA_n, setA_c, p2_d, p1_d, pN_d, fEq_i, fEq_s, fEq_b, fEq_ii, fNe_i, fNe_s, fNe_b, fSub_i, fAdd_i, fAnd_i, fOr_i, fXor_i, fLt_i, fLe_i, fGt_i, fGe_i, fIs_d, fIsNot_d, fIsB_b, isB_b, tru_b, tru_i, tru_l, tru_t, orE_s, orE_n, alt2_e, alt1_e, altN_e, fIx_l, fIx_t, at_0, at_1, at_2, at_3, at_4, at_5, for_n, for_c, lc_n, len_lst, len_tup, kfn_c, kix_c, sSeq_e, sNil_e, sSet_e, sSet2_e, sRet_e, sRetN_e, sDrop_e, sIf_e, sBk_e, sCt_e, sFrz_e, sOwn_e, sFor_e, sUnp_e, eC_e, eOp_e, eUn_e, aNil_e, aCons_e, aApp_e, eFN_e, eCall_e, eMake_e, eCMeth_e, eCallO_e, eLst_e, eTup_e, nLst_e, nLc_e, eLc_e, lSeq_e, lTup_e, eIf_e, eAnd_e, eOr_e, eNot_e, bOf_e, bAnd_e, bOr_e, bNot_e, eFld_e, runB_e, env0_e, oN_e, List.set_cons_zero, List.set_cons_succ, List.map_cons, List.map_nil, List.cons_append, List.nil_append, List.replicate_succ, List.replicate_zero, List.length_cons, List.length_nil, List.getElem?_cons_zero, List.getElem?_cons_succ, reduceIte, if_true, if_false, Bool.false_eq_true, arN_t, decide_true, decide_false, isNon, Bool.not_true, Bool.not_false, Bool.true_and, Bool.false_and, Bool.and_true, Bool.and_false, bYes_e, lstMax_e, Nat.reduceAdd, Nat.reduceSub, Nat.reduceLeDiff, Int.reduceLT, Int.reduceLE, Int.reduceEq, String.reduceEq, and_self, decide_eq_true_eq, and_true, true_and, cPos_e, cDiv_e, fMod_i, fDiv_i, Int.reduceMod, Int.reduceDiv, Int.reduceSub, Int.reduceAdd, Int.reducePow, kOf_i, fsOf_i, fOwn_k, fOwn1_k, gFld_k, methO_e, methK_s, methA_s, ownK_s, ownK_n, ownK_m, own1K_s, own1K_n, fldK_s, sApp_e, appK_s, sOSub_e, osubK_s, eOIx_e, oixK_s, eOLen_e, olenK_s, ixN_p, Int.reduceToNat, Nat.reduceLT, oS_e, eSl_e, eSlT_e, kSet_e, kSet2_e, kDrop_e, kIf_t, kIf_f, kOwn_e, kApp_e, kOsub1_e, kOsub2_e, osK_s, kOix_e, ixK_s, kFor_e, kUnp_e, unpK_s, kOp1_e, kOp2_e, kUn_e, kC1_e, kC2_e, kA1_e, kA2_e, kFN_e, kCall_e, kMake_e, kCM_e, kMeth_e, kLst_e, lstK_s, kTup_e, tupK_s, kNl_e, nlK_s, nList_e, kNli_e, nliK_s, lOf_l, lOf_t, kNc1_e, kNc2_e, kLc1_e, kLc2_e, kSeq_e, kTpl_e, kEIf_t, kEIf_f, kEAnd_t, kEAnd_f, kEOr_t, kEOr_f, kENot_e, kB_e, kBAnd_t, kBAnd_f, kBOr_t, kBOr_f, kBNot_e, kOS_e, kSl1_e, kSl2_e, kSl3_e, kSt1_e, kSt2_e, kSt3_e, eMeth_e, kMe_e, lc_c, kL1_e, kL2_e, kT_t, kT_f, Int.cast_ofNat_Int, Int.natCast_zero, Int.natCast_one, lRng1_e, kRng_1, kRng_2, kRng_3, kRng_4, kRng_5, kRng_6, List.length_map, arS_0, sEr_e, sTryAs_e, tryK_nx, tryK_rt, tryK_er, afterO_rt, afterO_nx, eXf_e, xfS_s, xfK_s, plain_n, plain_e, List.all_cons, List.all_nil, eq_self, sTryN_e, tryN_nx, tryN_rt, tryN_h, tryN_t, dflI_e, dflF_e, not_false_eq_true, eMethK_e, kMK_e, kMK2_e, eProp_e, kPr_e, eNotO_e, kNotO_e, notK_s, eSlA_e, kSA1_e, kSA2_e, kSA3_l, kSA3_t, eGetO_e, kGet1_e, kGet2_e, getK_s, e1, e2, el']
  have f2 : sFor 2 (lRng1 (aCons (eC (.int 2)) (aNil))) TB2 [.ev (.o 1), .ev (.o (t.length + 2)), .no, .no, .no, .no, .no, .no, .no, .no] (bT (t ++ [ent L]) b3) = .nx [.ev (.o 1), .ev (.o (t.length + 2)), .ev (.d (.int 1)), .no, .no, .no, .ev y6, .ev y7, .ev y8, .ev y9] (bT (t ++ [ent L2]) b5) := by
    show forL 2 TB2 [.int 0, .int 1] _ _ = _
    rw [for_c]
    show loopO (TB2 [.ev (.o 1), .ev (.o (t.length + 2)), .ev (.d (.int 0)), .no, .no, .no, .no, .no, .no, .no] (bT (t ++ [ent L]) b3)) _ = _
    rw [s1, loopO_nx, for_c]
    show loopO (TB2 [.ev (.o 1), .ev (.o (t.length + 2)), .ev (.d (.int 1)), .no, .no, .no, .ev x6, .ev x7, .ev x8, .ev x9] (bT (t ++ [ent L1]) b4)) _ = _
    rw [s2, loopO_nx]
    rfl
  have st : g__law_two [.o 1] (bT t b) = retO (sSeq (sSet 3 (eCall (arN 1) g__law_bad (aCons (eVar 1) (aNil)))) (sSeq (sSet 4 (eC .non)) (sSeq (sTryAs 5 "InvalidShape" (sSet 4 (eCMeth "Shape" (arN 2) g_Shape_of (aCons (eVar 1) (aNil)))) (sRet (eAnd (eOp (fGe) (eVar 3) (eC (.int 0))) (eCall (arN 2) g__law_int (aCons (eXf 5 "InvalidShape" 0) (aCons (eVar 3) (aNil))))))) (sRet (eAnd (eOp (fLt) (eVar 3) (eC (.int 0))) (eCall (arN 2) g__law_same_shape (aCons (eVar 4) (aCons (eVar 1) (aNil)))))))) [.ev (.o 1), .ev (.o (t.length + 2)), .ev (.d (.int 1)), .no, .no, .no, .ev y6, .ev y7, .ev y8, .ev y9] (bT (t ++ [ent L2]) b5)) := by
    show retO (sSeq (sSet 1 _) (sSeq (sFor 2 _ TB2) _) [.ev (.o 1), .no, .no, .no, .no, .no, .no, .no, .no, .no] (bT t b)) = _
    rw [sqn a1, sqn f2]
  rw [st]
  cases hb : badO L2 with
  | some j =>
    rw [hb] at bd
    rw [res_bad hb] at so
    have bz : badZ (some j) = (j : Int) := rfl
    rw [bz] at bd
    have d0 : decide ((0 : Int) ≤ (j : Int)) = true := decide_eq_true (by omega)
    have it := int_ok j (bT (t ++ [ent L2]) b5)
    refine ⟨bT (t ++ [ent L2]) b5, ?_⟩
    simp -implicitDefEqProofs only [bind_ok, bind_er, bindN_ok, ofE_ok, ofE_er, seqO_nx, seqO_rt, seqO_er, seqO_bk, seqO_ct, loopO_nx, loopO_ct, loopO_bk, loopO_rt, loopO_er, lift_s, retO_rt, retO_nx, retO_er, mkO_ok, mkO_er, toOpt_ok, eVar_z, eVar_s, oL_z, oL_s, frz_z, frz_s, wipe_n, wipe_c, datas_n, datas_c, map_s, bind_s, setA_n, setA_c, p2_d, p1_d, pN_d, fEq_i, fEq_s, fEq_b, fEq_ii, fNe_i, fNe_s, fNe_b, fSub_i, fAdd_i, fAnd_i, fOr_i, fXor_i, fLt_i, fLe_i, fGt_i, fGe_i, fIs_d, fIsNot_d, fIsB_b, isB_b, tru_b, tru_i, tru_l, tru_t, orE_s, orE_n, alt2_e, alt1_e, altN_e, fIx_l, fIx_t, at_0, at_1, at_2, at_3, at_4, at_5, for_n, for_c, lc_n, len_lst, len_tup, kfn_c, kix_c, sSeq_e, sNil_e, sSet_e, sSet2_e, sRet_e, sRetN_e, sDrop_e, sIf_e, sBk_e, sCt_e, sFrz_e, sOwn_e, sFor_e, sUnp_e, eC_e, eOp_e, eUn_e, aNil_e, aCons_e, aApp_e, eFN_e, eCall_e, eMake_e, eCMeth_e, eCallO_e, eLst_e, eTup_e, nLst_e, nLc_e, eLc_e, lSeq_e, lTup_e, eIf_e, eAnd_e, eOr_e, eNot_e, bOf_e, bAnd_e, bOr_e, bNot_e, eFld_e, runB_e, env0_e, oN_e, List.set_cons_zero, List.set_cons_succ, List.map_cons, List.map_nil, List.cons_append, List.nil_append, List.replicate_succ, List.replicate_zero, List.length_cons, List.length_nil, List.getElem?_cons_zero, List.getElem?_cons_succ, reduceIte, if_true, if_false, Bool.false_eq_true, arN_t, decide_true, decide_false, isNon, Bool.not_true, Bool.not_false, Bool.true_and, Bool.false_and, Bool.and_true, Bool.and_false, bYes_e, lstMax_e, Nat.reduceAdd, Nat.reduceSub, Nat.reduceLeDiff, Int.reduceLT, Int.reduceLE, Int.reduceEq, String.reduceEq, and_self, decide_eq_true_eq, and_true, true_and, cPos_e, cDiv_e, fMod_i, fDiv_i, Int.reduceMod, Int.reduceDiv, Int.reduceSub, Int.reduceAdd, Int.reducePow, kOf_i, fsOf_i, fOwn_k, fOwn1_k, gFld_k, methO_e, methK_s, methA_s, ownK_s, ownK_n, ownK_m, own1K_s, own1K_n, fldK_s, sApp_e, appK_s, sOSub_e, osubK_s, eOIx_e, oixK_s, eOLen_e, olenK_s, ixN_p, Int.reduceToNat, Nat.reduceLT, oS_e, eSl_e, eSlT_e, kSet_e, kSet2_e, kDrop_e, kIf_t, kIf_f, kOwn_e, kApp_e, kOsub1_e, kOsub2_e, osK_s, kOix_e, ixK_s, kFor_e, kUnp_e, unpK_s, kOp1_e, kOp2_e, kUn_e, kC1_e, kC2_e, kA1_e, kA2_e, kFN_e, kCall_e, kMake_e, kCM_e, kMeth_e, kLst_e, lstK_s, kTup_e, tupK_s, kNl_e, nlK_s, nList_e, kNli_e, nliK_s, lOf_l, lOf_t, kNc1_e, kNc2_e, kLc1_e, kLc2_e, kSeq_e, kTpl_e, kEIf_t, kEIf_f, kEAnd_t, kEAnd_f, kEOr_t, kEOr_f, kENot_e, kB_e, kBAnd_t, kBAnd_f, kBOr_t, kBOr_f, kBNot_e, kOS_e, kSl1_e, kSl2_e, kSl3_e, kSt1_e, kSt2_e, kSt3_e, eMeth_e, kMe_e, lc_c, kL1_e, kL2_e, kT_t, kT_f, Int.cast_ofNat_Int, Int.natCast_zero, Int.natCast_one, lRng1_e, kRng_1, kRng_2, kRng_3, kRng_4, kRng_5, kRng_6, List.length_map, arS_0, sEr_e, sTryAs_e, tryK_nx, tryK_rt, tryK_er, afterO_rt, afterO_nx, eXf_e, xfS_s, xfK_s, plain_n, plain_e, List.all_cons, List.all_nil, eq_self, sTryN_e, tryN_nx, tryN_rt, tryN_h, tryN_t, dflI_e, dflF_e, not_false_eq_true, eMethK_e, kMK_e, kMK2_e, eProp_e, kPr_e, eNotO_e, kNotO_e, notK_s, eSlA_e, kSA1_e, kSA2_e, kSA3_l, kSA3_t, eGetO_e, kGet1_e, kGet2_e, getK_s, bd, so, d0, it]
  | none =>
    rw [hb] at bd
    obtain ⟨w, g, rg⟩ := res_good ln hb (bT (t ++ [ent L2]) b5)
    rw [rg] at so
    have bz : badZ none = (-1 : Int) := rfl
    rw [bz] at bd
    have ss := ssv_ok g lv b5
    have dm : fLt (.d (.int (-1))) (.d (.int 0)) (bT (t ++ [ent L2]) b5) = some (.d (.bl true), bT (t ++ [ent L2]) b5) := rfl
    refine ⟨bT (t ++ [ent L2]) b5, ?_⟩
    simp -implicitDefEqProofs only [bind_ok, bind_er, bindN_ok, ofE_ok, ofE_er, seqO_nx, seqO_rt, seqO_er, seqO_bk, seqO_ct, loopO_nx, loopO_ct, loopO_bk, loopO_rt, loopO_er, lift_s, retO_rt, retO_nx, retO_er, mkO_ok, mkO_er, toOpt_ok, eVar_z, eVar_s, oL_z, oL_s, frz_z, frz_s, wipe_n, wipe_c, datas_n, datas_c, map_s, bind_s, setA_n, setA_c, p2_d, p1_d, pN_d, fEq_i, fEq_s, fEq_b, fEq_ii, fNe_i, fNe_s, fNe_b, fSub_i, fAdd_i, fAnd_i, fOr_i, fXor_i, fLt_i, fLe_i, fGt_i, fGe_i, fIs_d, fIsNot_d, fIsB_b, isB_b, tru_b, tru_i, tru_l, tru_t, orE_s, orE_n, alt2_e, alt1_e, altN_e, fIx_l, fIx_t, at_0, at_1, at_2, at_3, at_4, at_5, for_n, for_c, lc_n, len_lst, len_tup, kfn_c, kix_c, sSeq_e, sNil_e, sSet_e, sSet2_e, sRet_e, sRetN_e, sDrop_e, sIf_e, sBk_e, sCt_e, sFrz_e, sOwn_e, sFor_e, sUnp_e, eC_e, eOp_e, eUn_e, aNil_e, aCons_e, aApp_e, eFN_e, eCall_e, eMake_e, eCMeth_e, eCallO_e, eLst_e, eTup_e, nLst_e, nLc_e, eLc_e, lSeq_e, lTup_e, eIf_e, eAnd_e, eOr_e, eNot_e, bOf_e, bAnd_e, bOr_e, bNot_e, eFld_e, runB_e, env0_e, oN_e, List.set_cons_zero, List.set_cons_succ, List.map_cons, List.map_nil, List.cons_append, List.nil_append, List.replicate_succ, List.replicate_zero, List.length_cons, List.length_nil, List.getElem?_cons_zero, List.getElem?_cons_succ, reduceIte, if_true, if_false, Bool.false_eq_true, arN_t, decide_true, decide_false, isNon, Bool.not_true, Bool.not_false, Bool.true_and, Bool.false_and, Bool.and_true, Bool.and_false, bYes_e, lstMax_e, Nat.reduceAdd, Nat.reduceSub, Nat.reduceLeDiff, Int.reduceLT, Int.reduceLE, Int.reduceEq, String.reduceEq, and_self, decide_eq_true_eq, and_true, true_and, cPos_e, cDiv_e, fMod_i, fDiv_i, Int.reduceMod, Int.reduceDiv, Int.reduceSub, Int.reduceAdd, Int.reducePow, kOf_i, fsOf_i, fOwn_k, fOwn1_k, gFld_k, methO_e, methK_s, methA_s, ownK_s, ownK_n, ownK_m, own1K_s, own1K_n, fldK_s, sApp_e, appK_s, sOSub_e, osubK_s, eOIx_e, oixK_s, eOLen_e, olenK_s, ixN_p, Int.reduceToNat, Nat.reduceLT, oS_e, eSl_e, eSlT_e, kSet_e, kSet2_e, kDrop_e, kIf_t, kIf_f, kOwn_e, kApp_e, kOsub1_e, kOsub2_e, osK_s, kOix_e, ixK_s, kFor_e, kUnp_e, unpK_s, kOp1_e, kOp2_e, kUn_e, kC1_e, kC2_e, kA1_e, kA2_e, kFN_e, kCall_e, kMake_e, kCM_e, kMeth_e, kLst_e, lstK_s, kTup_e, tupK_s, kNl_e, nlK_s, nList_e, kNli_e, nliK_s, lOf_l, lOf_t, kNc1_e, kNc2_e, kLc1_e, kLc2_e, kSeq_e, kTpl_e, kEIf_t, kEIf_f, kEAnd_t, kEAnd_f, kEOr_t, kEOr_f, kENot_e, kB_e, kBAnd_t, kBAnd_f, kBOr_t, kBOr_f, kBNot_e, kOS_e, kSl1_e, kSl2_e, kSl3_e, kSt1_e, kSt2_e, kSt3_e, eMeth_e, kMe_e, lc_c, kL1_e, kL2_e, kT_t, kT_f, Int.cast_ofNat_Int, Int.natCast_zero, Int.natCast_one, lRng1_e, kRng_1, kRng_2, kRng_3, kRng_4, kRng_5, kRng_6, List.length_map, arS_0, sEr_e, sTryAs_e, tryK_nx, tryK_rt, tryK_er, afterO_rt, afterO_nx, eXf_e, xfS_s, xfK_s, plain_n, plain_e, List.all_cons, List.all_nil, eq_self, sTryN_e, tryN_nx, tryN_rt, tryN_h, tryN_t, dflI_e, dflF_e, not_false_eq_true, eMethK_e, kMK_e, kMK2_e, eProp_e, kPr_e, eNotO_e, kNotO_e, notK_s, eSlA_e, kSA1_e, kSA2_e, kSA3_l, kSA3_t, eGetO_e, kGet1_e, kGet2_e, getK_s, bd, so, dm, ss]
/-! ### the law -/
theorem eqv_t : ∀ A : List Str, PyData.eqvAll (A.map PyData.str) (A.map PyData.str) = true
  | [] => rfl
  | a :: A => by
    show ((a == a) && PyData.eqvAll (A.map PyData.str) (A.map PyData.str)) = _
    rw [eqv_t A, beq_self_eq_true]
    rfl
theorem ne_same {L : List (List Nat)} (ln : Ln L) : gNeL (L.map txD) (L.map txD) = some (.bl false) := by
  have m : L.map txD = (L.map tx).map DL.D.str := by rw [List.map_map]; rfl
  have ly : ∀ s ∈ L.map tx, Ly s := fun s hs => by
    obtain ⟨l, hl, rfl⟩ := List.mem_map.mp hs
    show (tx l).cps.all (· < 0x110000) = true
    rw [← Array.all_toList, List.all_eq_true]
    intro d hd
    rw [tx_list] at hd
    have := ln.hc l hl d hd
    exact decide_eq_true (by omega)
  have s : SeqAt.shaped (PyData.list ((L.map tx).map PyData.str)) = true := by
    show ((PyData.list ((L.map tx).map PyData.str)).canLay0 && decide (PyData.depthAll ((L.map tx).map PyData.str) + 1 ≤ 64)) = true
    rw [lay_m _ ly, dep_m]
    rfl
  unfold gNeL
  rw [m, toPys_m]
  dsimp only
  rw [s]
  show some (DL.D.bl (!PyData.eqvAll ((L.map tx).map PyData.str) ((L.map tx).map PyData.str))) = _
  rw [eqv_t]
  rfl
theorem app_ok {env : En} {t : GS} {b : Bx} {L : List (List Nat)} (hl : L.length ≤ 100) (h : env[6]? = some (.ev (.o (t.length + 2)))) : sAppS (eVar 6) (eC (.str "..")) env (bT (t ++ [ent L]) b) = .nx env (bT (t ++ [ent (L ++ [[46, 46]])]) b) := by
  have g : ((bT (t ++ [ent L]) b)[t.length + 2]? : Option GO) = some (ent L) := by
    rw [bT_get]; simp
  have s : (bT (t ++ [ent L]) b).set (t.length + 2) (ent (L ++ [[46, 46]])) = bT (t ++ [ent (L ++ [[46, 46]])]) b := by
    show _ :: _ :: (t ++ [ent L]).set t.length _ = _
    rw [List.set_append_right _ _ (Nat.le_refl _), Nat.sub_self]
    rfl
  have v : eVar 6 env (bT (t ++ [ent L]) b) = .ok (.o (t.length + 2)) (bT (t ++ [ent L]) b) := by
    unfold eVar
    rw [h]
  unfold sAppS
  rw [v, ofE_ok]
  dsimp only
  rw [g]
  show (match ((bT (t ++ [ent L]) b)[t.length + 2]? : Option GO) with
    | some (GO.lst xs) => if xs.length < lstMax then OutS.nx env ((bT (t ++ [ent L]) b).set (t.length + 2) (GO.lst (xs ++ [EV.d (.str "..")]))) else .st
    | _ => .st) = _
  rw [g]
  show (if (L.map fun l => EV.d (txD l)).length < lstMax then OutS.nx env ((bT (t ++ [ent L]) b).set (t.length + 2) (GO.lst ((L.map fun l => EV.d (txD l)) ++ [EV.d (.str "..")]))) else .st) = _
  rw [if_pos (by rw [List.length_map]; exact Nat.lt_of_le_of_lt hl (by decide)), ← s]
  unfold ent
  rw [List.map_append]
  rfl
@[reducible] noncomputable def LB : SM := (sSeq (sSet 6 (eFN fListO (aCons (eVar 2) (aNil)))) (sSeq (sSet 7 (eC .non)) (sSeq (sTryAs 8 "InvalidShape" (sIf (bOf isB (eOp (fEq) (eVar 5) (eC (.int 0)))) (sSet 7 (eCMeth "Shape" (arN 2) g_Shape_of (aCons (eVar 6) (aNil)))) (sSet 7 (eCall (arN 1) g__law_made (aCons (eVar 2) (aNil))))) (sIf (bOr (bOf isB (eOp (fLt) (eVar 3) (eC (.int 0)))) (bNot (bOf truE (eCall (arN 2) g__law_int (aCons (eXf 8 "InvalidShape" 0) (aCons (eVar 3) (aNil))))))) (sRet (eC (.bl false))) (sNil))) (sSeq (sIf (bOf isB (eOp (alt2 (fNe) fNeS) (eVar 6) (eVar 2))) (sRet (eC (.bl false))) (sNil)) (sSeq (sAppS (eVar 6) (eC (.str ".."))) (sSeq (sIf (bAnd (bOf isB (eOp (fIsNot) (eVar 7) (eC .non))) (bOr (bOf isB (eOp (fGe) (eVar 3) (eC (.int 0)))) (bNot (bOf truE (eCall (arN 3) g__law_right (aCons (eVar 7) (aCons (eVar 2) (aCons (eVar 4) (aNil))))))))) (sRet (eC (.bl false))) (sNil)) (sIf (bAnd (bOf isB (eOp (fIs) (eVar 7) (eC .non))) (bOf isB (eOp (fLt) (eVar 3) (eC (.int 0))))) (sRet (eC (.bl false))) (sNil))))))))
theorem turn_ok {v : EV} {t : GS} {L : List (List Nat)} (h : Lv v t L) (ln : Ln L) (e0 : EV) (far : Nat) (turn : Int) (ht : turn = 0 ∨ turn = 1) (e6 e7 : Sl) (h6 : plainS e6 = true) (h7 : plainS e7 = true) (b : Bx) : ∃ (x6 x7 : EV) (M : List (List Nat)), LB [.ev e0, .ev (.o 1), .ev v, .ev (.d (.int (badZ (badO L)))), .ev (.d (.int (far : Nat))), .ev (.d (.int turn)), e6, e7, .no] (bT t b) = .nx [.ev e0, .ev (.o 1), .ev v, .ev (.d (.int (badZ (badO L)))), .ev (.d (.int (far : Nat))), .ev (.d (.int turn)), .ev x6, .ev x7, .no] (bT (t ++ [ent M]) b) := by
  have li := h.list b
  have lvn : Lv (.o (t.length + 2)) (t ++ [ent L]) L := Lv.new t L
  have h' := h.more [ent L]
  have ne : alt2 (fNe) fNeS (.o (t.length + 2)) v (bT (t ++ [ent L]) b) = some (.d (.bl false), bT (t ++ [ent L]) b) := by
    have n1 : fNe (.o (t.length + 2)) v (bT (t ++ [ent L]) b) = none := rfl
    rw [alt2_e, n1, orE_n]
    unfold fNeS
    rw [lvn.lst b, h'.lst b]
    show (gNeL (L.map txD) (L.map txD)).map _ = _
    rw [ne_same ln]
    rfl
  have so := shof_any ln lvn b
  have mk := made_ok ln h' b
  have hl := ln.hl
  have h'' : Lv v (t ++ [ent (L ++ [[46, 46]])]) L := h.more [ent (L ++ [[46, 46]])]
  cases hb : badO L with
  | some j =>
    have bz : badZ (some j) = (j : Int) := rfl
    rw [bz]
    rw [res_bad hb] at so mk
    have d0 : decide ((j : Int) < 0) = false := decide_eq_false (by omega)
    have it := int_ok j (bT (t ++ [ent L]) b)
    have ap := app_ok (env := [.ev e0, .ev (.o 1), .ev v, .ev (.d (.int (j : Nat))), .ev (.d (.int (far : Nat))), .ev (.d (.int turn)), .ev (.o (t.length + 2)), .ev (.d .non), .no]) (t := t) (b := b) (L := L) (by omega) rfl
    refine ⟨.o (t.length + 2), .d .non, L ++ [[46, 46]], ?_⟩
    rcases ht with rfl | rfl
    · have c0 : decide ((0 : Int) = 0) = true := by decide
      simp -implicitDefEqProofs only [bind_ok, bind_er, bindN_ok, ofE_ok, ofE_er, seqO_nx, seqO_rt, seqO_er, seqO_bk, seqO_ct, loopO_nx, loopO_ct, loopO_bk, loopO_rt, loopO_er, lift_s, retO_rt, retO_nx, retO_er, mkO_ok, mkO_er, toOpt_ok, eVar_z, eVar_s, oL_z, oL_s, frz_z, frz_s, wipe_n, wipe_c, datas_n, datas_c, map_s, bind_s, setA_n, setA_c, p2_d, p1_d, pN_d, fEq_i, fEq_s, fEq_b, fEq_ii, fNe_i, fNe_s, fNe_b, fSub_i, fAdd_i, fAnd_i, fOr_i, fXor_i, fLt_i, fLe_i, fGt_i, fGe_i, fIs_d, fIsNot_d, fIsB_b, isB_b, tru_b, tru_i, tru_l, tru_t, orE_s, orE_n, alt2_e, alt1_e, altN_e, fIx_l, fIx_t, at_0, at_1, at_2, at_3, at_4, at_5, for_n, for_c, lc_n, len_lst, len_tup, kfn_c, kix_c, sSeq_e, sNil_e, sSet_e, sSet2_e, sRet_e, sRetN_e, sDrop_e, sIf_e, sBk_e, sCt_e, sFrz_e, sOwn_e, sFor_e, sUnp_e, eC_e, eOp_e, eUn_e, aNil_e, aCons_e, aApp_e, eFN_e, eCall_e, eMake_e, eCMeth_e, eCallO_e, eLst_e, eTup_e, nLst_e, nLc_e, eLc_e, lSeq_e, lTup_e, eIf_e, eAnd_e, eOr_e, eNot_e, bOf_e, bAnd_e, bOr_e, bNot_e, eFld_e, runB_e, env0_e, oN_e, List.set_cons_zero, List.set_cons_succ, List.map_cons, List.map_nil, List.cons_append, List.nil_append, List.replicate_succ, List.replicate_zero, List.length_cons, List.length_nil, List.getElem?_cons_zero, List.getElem?_cons_succ, reduceIte, if_true, if_false, Bool.false_eq_true, arN_t, decide_true, decide_false, isNon, Bool.not_true, Bool.not_false, Bool.true_and, Bool.false_and, Bool.and_true, Bool.and_false, bYes_e, lstMax_e, Nat.reduceAdd, Nat.reduceSub, Nat.reduceLeDiff, Int.reduceLT, Int.reduceLE, Int.reduceEq, String.reduceEq, and_self, decide_eq_true_eq, and_true, true_and, cPos_e, cDiv_e, fMod_i, fDiv_i, Int.reduceMod, Int.reduceDiv, Int.reduceSub, Int.reduceAdd, Int.reducePow, kOf_i, fsOf_i, fOwn_k, fOwn1_k, gFld_k, methO_e, methK_s, methA_s, ownK_s, ownK_n, ownK_m, own1K_s, own1K_n, fldK_s, sApp_e, appK_s, sOSub_e, osubK_s, eOIx_e, oixK_s, eOLen_e, olenK_s, ixN_p, Int.reduceToNat, Nat.reduceLT, oS_e, eSl_e, eSlT_e, kSet_e, kSet2_e, kDrop_e, kIf_t, kIf_f, kOwn_e, kApp_e, kOsub1_e, kOsub2_e, osK_s, kOix_e, ixK_s, kFor_e, kUnp_e, unpK_s, kOp1_e, kOp2_e, kUn_e, kC1_e, kC2_e, kA1_e, kA2_e, kFN_e, kCall_e, kMake_e, kCM_e, kMeth_e, kLst_e, lstK_s, kTup_e, tupK_s, kNl_e, nlK_s, nList_e, kNli_e, nliK_s, lOf_l, lOf_t, kNc1_e, kNc2_e, kLc1_e, kLc2_e, kSeq_e, kTpl_e, kEIf_t, kEIf_f, kEAnd_t, kEAnd_f, kEOr_t, kEOr_f, kENot_e, kB_e, kBAnd_t, kBAnd_f, kBOr_t, kBOr_f, kBNot_e, kOS_e, kSl1_e, kSl2_e, kSl3_e, kSt1_e, kSt2_e, kSt3_e, eMeth_e, kMe_e, lc_c, kL1_e, kL2_e, kT_t, kT_f, Int.cast_ofNat_Int, Int.natCast_zero, Int.natCast_one, lRng1_e, kRng_1, kRng_2, kRng_3, kRng_4, kRng_5, kRng_6, List.length_map, arS_0, sEr_e, sTryAs_e, tryK_nx, tryK_rt, tryK_er, afterO_rt, afterO_nx, eXf_e, xfS_s, xfK_s, plain_n, plain_e, List.all_cons, List.all_nil, eq_self, sTryN_e, tryN_nx, tryN_rt, tryN_h, tryN_t, dflI_e, dflF_e, not_false_eq_true, eMethK_e, kMK_e, kMK2_e, eProp_e, kPr_e, eNotO_e, kNotO_e, notK_s, eSlA_e, kSA1_e, kSA2_e, kSA3_l, kSA3_t, eGetO_e, kGet1_e, kGet2_e, getK_s, LB, li, c0, so, h6, h7, d0, it, ↓ne, ↓ap]
    · have c0 : decide ((1 : Int) = 0) = false := by decide
      simp -implicitDefEqProofs only [bind_ok, bind_er, bindN_ok, ofE_ok, ofE_er, seqO_nx, seqO_rt, seqO_er, seqO_bk, seqO_ct, loopO_nx, loopO_ct, loopO_bk, loopO_rt, loopO_er, lift_s, retO_rt, retO_nx, retO_er, mkO_ok, mkO_er, toOpt_ok, eVar_z, eVar_s, oL_z, oL_s, frz_z, frz_s, wipe_n, wipe_c, datas_n, datas_c, map_s, bind_s, setA_n, setA_c, p2_d, p1_d, pN_d, fEq_i, fEq_s, fEq_b, fEq_ii, fNe_i, fNe_s, fNe_b, fSub_i, fAdd_i, fAnd_i, fOr_i, fXor_i, fLt_i, fLe_i, fGt_i, fGe_i, fIs_d, fIsNot_d, fIsB_b, isB_b, tru_b, tru_i, tru_l, tru_t, orE_s, orE_n, alt2_e, alt1_e, altN_e, fIx_l, fIx_t, at_0, at_1, at_2, at_3, at_4, at_5, for_n, for_c, lc_n, len_lst, len_tup, kfn_c, kix_c, sSeq_e, sNil_e, sSet_e, sSet2_e, sRet_e, sRetN_e, sDrop_e, sIf_e, sBk_e, sCt_e, sFrz_e, sOwn_e, sFor_e, sUnp_e, eC_e, eOp_e, eUn_e, aNil_e, aCons_e, aApp_e, eFN_e, eCall_e, eMake_e, eCMeth_e, eCallO_e, eLst_e, eTup_e, nLst_e, nLc_e, eLc_e, lSeq_e, lTup_e, eIf_e, eAnd_e, eOr_e, eNot_e, bOf_e, bAnd_e, bOr_e, bNot_e, eFld_e, runB_e, env0_e, oN_e, List.set_cons_zero, List.set_cons_succ, List.map_cons, List.map_nil, List.cons_append, List.nil_append, List.replicate_succ, List.replicate_zero, List.length_cons, List.length_nil, List.getElem?_cons_zero, List.getElem?_cons_succ, reduceIte, if_true, if_false, Bool.false_eq_true, arN_t, decide_true, decide_false, isNon, Bool.not_true, Bool.not_false, Bool.true_and, Bool.false_and, Bool.and_true, Bool.and_false, bYes_e, lstMax_e, Nat.reduceAdd, Nat.reduceSub, Nat.reduceLeDiff, Int.reduceLT, Int.reduceLE, Int.reduceEq, String.reduceEq, and_self, decide_eq_true_eq, and_true, true_and, cPos_e, cDiv_e, fMod_i, fDiv_i, Int.reduceMod, Int.reduceDiv, Int.reduceSub, Int.reduceAdd, Int.reducePow, kOf_i, fsOf_i, fOwn_k, fOwn1_k, gFld_k, methO_e, methK_s, methA_s, ownK_s, ownK_n, ownK_m, own1K_s, own1K_n, fldK_s, sApp_e, appK_s, sOSub_e, osubK_s, eOIx_e, oixK_s, eOLen_e, olenK_s, ixN_p, Int.reduceToNat, Nat.reduceLT, oS_e, eSl_e, eSlT_e, kSet_e, kSet2_e, kDrop_e, kIf_t, kIf_f, kOwn_e, kApp_e, kOsub1_e, kOsub2_e, osK_s, kOix_e, ixK_s, kFor_e, kUnp_e, unpK_s, kOp1_e, kOp2_e, kUn_e, kC1_e, kC2_e, kA1_e, kA2_e, kFN_e, kCall_e, kMake_e, kCM_e, kMeth_e, kLst_e, lstK_s, kTup_e, tupK_s, kNl_e, nlK_s, nList_e, kNli_e, nliK_s, lOf_l, lOf_t, kNc1_e, kNc2_e, kLc1_e, kLc2_e, kSeq_e, kTpl_e, kEIf_t, kEIf_f, kEAnd_t, kEAnd_f, kEOr_t, kEOr_f, kENot_e, kB_e, kBAnd_t, kBAnd_f, kBOr_t, kBOr_f, kBNot_e, kOS_e, kSl1_e, kSl2_e, kSl3_e, kSt1_e, kSt2_e, kSt3_e, eMeth_e, kMe_e, lc_c, kL1_e, kL2_e, kT_t, kT_f, Int.cast_ofNat_Int, Int.natCast_zero, Int.natCast_one, lRng1_e, kRng_1, kRng_2, kRng_3, kRng_4, kRng_5, kRng_6, List.length_map, arS_0, sEr_e, sTryAs_e, tryK_nx, tryK_rt, tryK_er, afterO_rt, afterO_nx, eXf_e, xfS_s, xfK_s, plain_n, plain_e, List.all_cons, List.all_nil, eq_self, sTryN_e, tryN_nx, tryN_rt, tryN_h, tryN_t, dflI_e, dflF_e, not_false_eq_true, eMethK_e, kMK_e, kMK2_e, eProp_e, kPr_e, eNotO_e, kNotO_e, notK_s, eSlA_e, kSA1_e, kSA2_e, kSA3_l, kSA3_t, eGetO_e, kGet1_e, kGet2_e, getK_s, LB, li, c0, mk, h6, h7, d0, it, ↓ne, ↓ap]
  | none =>
    have bz : badZ none = (-1 : Int) := rfl
    rw [bz]
    obtain ⟨w, g, rg⟩ := res_good ln hb (bT (t ++ [ent L]) b)
    rw [rg] at so mk
    have ri := right_ok g h'' far b
    have dm : fLt (.d (.int (-1))) (.d (.int 0)) (bT (t ++ [ent (L ++ [[46, 46]])]) b) = some (.d (.bl true), bT (t ++ [ent (L ++ [[46, 46]])]) b) := rfl
    have dg : fGe (.d (.int (-1))) (.d (.int 0)) (bT (t ++ [ent (L ++ [[46, 46]])]) b) = some (.d (.bl false), bT (t ++ [ent (L ++ [[46, 46]])]) b) := rfl
    have n1 : fIsNot (.d (shD w L)) (.d .non) (bT (t ++ [ent (L ++ [[46, 46]])]) b) = some (.d (.bl true), bT (t ++ [ent (L ++ [[46, 46]])]) b) := rfl
    have n2 : fIs (.d (shD w L)) (.d .non) (bT (t ++ [ent (L ++ [[46, 46]])]) b) = some (.d (.bl false), bT (t ++ [ent (L ++ [[46, 46]])]) b) := rfl
    have ap := app_ok (env := [.ev e0, .ev (.o 1), .ev v, .ev (.d (.int (-1))), .ev (.d (.int (far : Nat))), .ev (.d (.int turn)), .ev (.o (t.length + 2)), .ev (.d (shD w L)), .no]) (t := t) (b := b) (L := L) (by omega) rfl
    refine ⟨.o (t.length + 2), .d (shD w L), L ++ [[46, 46]], ?_⟩
    rcases ht with rfl | rfl
    · have c0 : decide ((0 : Int) = 0) = true := by decide
      simp -implicitDefEqProofs only [bind_ok, bind_er, bindN_ok, ofE_ok, ofE_er, seqO_nx, seqO_rt, seqO_er, seqO_bk, seqO_ct, loopO_nx, loopO_ct, loopO_bk, loopO_rt, loopO_er, lift_s, retO_rt, retO_nx, retO_er, mkO_ok, mkO_er, toOpt_ok, eVar_z, eVar_s, oL_z, oL_s, frz_z, frz_s, wipe_n, wipe_c, datas_n, datas_c, map_s, bind_s, setA_n, setA_c, p2_d, p1_d, pN_d, fEq_i, fEq_s, fEq_b, fEq_ii, fNe_i, fNe_s, fNe_b, fSub_i, fAdd_i, fAnd_i, fOr_i, fXor_i, fLt_i, fLe_i, fGt_i, fGe_i, fIs_d, fIsNot_d, fIsB_b, isB_b, tru_b, tru_i, tru_l, tru_t, orE_s, orE_n, alt2_e, alt1_e, altN_e, fIx_l, fIx_t, at_0, at_1, at_2, at_3, at_4, at_5, for_n, for_c, lc_n, len_lst, len_tup, kfn_c, kix_c, sSeq_e, sNil_e, sSet_e, sSet2_e, sRet_e, sRetN_e, sDrop_e, sIf_e, sBk_e, sCt_e, sFrz_e, sOwn_e, sFor_e, sUnp_e, eC_e, eOp_e, eUn_e, aNil_e, aCons_e, aApp_e, eFN_e, eCall_e, eMake_e, eCMeth_e, eCallO_e, eLst_e, eTup_e, nLst_e, nLc_e, eLc_e, lSeq_e, lTup_e, eIf_e, eAnd_e, eOr_e, eNot_e, bOf_e, bAnd_e, bOr_e, bNot_e, eFld_e, runB_e, env0_e, oN_e, List.set_cons_zero, List.set_cons_succ, List.map_cons, List.map_nil, List.cons_append, List.nil_append, List.replicate_succ, List.replicate_zero, List.length_cons, List.length_nil, List.getElem?_cons_zero, List.getElem?_cons_succ, reduceIte, if_true, if_false, Bool.false_eq_true, arN_t, decide_true, decide_false, isNon, Bool.not_true, Bool.not_false, Bool.true_and, Bool.false_and, Bool.and_true, Bool.and_false, bYes_e, lstMax_e, Nat.reduceAdd, Nat.reduceSub, Nat.reduceLeDiff, Int.reduceLT, Int.reduceLE, Int.reduceEq, String.reduceEq, and_self, decide_eq_true_eq, and_true, true_and, cPos_e, cDiv_e, fMod_i, fDiv_i, Int.reduceMod, Int.reduceDiv, Int.reduceSub, Int.reduceAdd, Int.reducePow, kOf_i, fsOf_i, fOwn_k, fOwn1_k, gFld_k, methO_e, methK_s, methA_s, ownK_s, ownK_n, ownK_m, own1K_s, own1K_n, fldK_s, sApp_e, appK_s, sOSub_e, osubK_s, eOIx_e, oixK_s, eOLen_e, olenK_s, ixN_p, Int.reduceToNat, Nat.reduceLT, oS_e, eSl_e, eSlT_e, kSet_e, kSet2_e, kDrop_e, kIf_t, kIf_f, kOwn_e, kApp_e, kOsub1_e, kOsub2_e, osK_s, kOix_e, ixK_s, kFor_e, kUnp_e, unpK_s, kOp1_e, kOp2_e, kUn_e, kC1_e, kC2_e, kA1_e, kA2_e, kFN_e, kCall_e, kMake_e, kCM_e, kMeth_e, kLst_e, lstK_s, kTup_e, tupK_s, kNl_e, nlK_s, nList_e, kNli_e, nliK_s, lOf_l, lOf_t, kNc1_e, kNc2_e, kLc1_e, kLc2_e, kSeq_e, kTpl_e, kEIf_t, kEIf_f, kEAnd_t, kEAnd_f, kEOr_t, kEOr_f, kENot_e, kB_e, kBAnd_t, kBAnd_f, kBOr_t, kBOr_f, kBNot_e, kOS_e, kSl1_e, kSl2_e, kSl3_e, kSt1_e, kSt2_e, kSt3_e, eMeth_e, kMe_e, lc_c, kL1_e, kL2_e, kT_t, kT_f, Int.cast_ofNat_Int, Int.natCast_zero, Int.natCast_one, lRng1_e, kRng_1, kRng_2, kRng_3, kRng_4, kRng_5, kRng_6, List.length_map, arS_0, sEr_e, sTryAs_e, tryK_nx, tryK_rt, tryK_er, afterO_rt, afterO_nx, eXf_e, xfS_s, xfK_s, plain_n, plain_e, List.all_cons, List.all_nil, eq_self, sTryN_e, tryN_nx, tryN_rt, tryN_h, tryN_t, dflI_e, dflF_e, not_false_eq_true, eMethK_e, kMK_e, kMK2_e, eProp_e, kPr_e, eNotO_e, kNotO_e, notK_s, eSlA_e, kSA1_e, kSA2_e, kSA3_l, kSA3_t, eGetO_e, kGet1_e, kGet2_e, getK_s, LB, li, c0, so, ↓ne, ↓ap, ↓n1, ↓n2, ↓dg, ↓dm, ri]
    · have c0 : decide ((1 : Int) = 0) = false := by decide
      simp -implicitDefEqProofs only [bind_ok, bind_er, bindN_ok, ofE_ok, ofE_er, seqO_nx, seqO_rt, seqO_er, seqO_bk, seqO_ct, loopO_nx, loopO_ct, loopO_bk, loopO_rt, loopO_er, lift_s, retO_rt, retO_nx, retO_er, mkO_ok, mkO_er, toOpt_ok, eVar_z, eVar_s, oL_z, oL_s, frz_z, frz_s, wipe_n, wipe_c, datas_n, datas_c, map_s, bind_s, setA_n, setA_c, p2_d, p1_d, pN_d, fEq_i, fEq_s, fEq_b, fEq_ii, fNe_i, fNe_s, fNe_b, fSub_i, fAdd_i, fAnd_i, fOr_i, fXor_i, fLt_i, fLe_i, fGt_i, fGe_i, fIs_d, fIsNot_d, fIsB_b, isB_b, tru_b, tru_i, tru_l, tru_t, orE_s, orE_n, alt2_e, alt1_e, altN_e, fIx_l, fIx_t, at_0, at_1, at_2, at_3, at_4, at_5, for_n, for_c, lc_n, len_lst, len_tup, kfn_c, kix_c, sSeq_e, sNil_e, sSet_e, sSet2_e, sRet_e, sRetN_e, sDrop_e, sIf_e, sBk_e, sCt_e, sFrz_e, sOwn_e, sFor_e, sUnp_e, eC_e, eOp_e, eUn_e, aNil_e, aCons_e, aApp_e, eFN_e, eCall_e, eMake_e, eCMeth_e, eCallO_e, eLst_e, eTup_e, nLst_e, nLc_e, eLc_e, lSeq_e, lTup_e, eIf_e, eAnd_e, eOr_e, eNot_e, bOf_e, bAnd_e, bOr_e, bNot_e, eFld_e, runB_e, env0_e, oN_e, List.set_cons_zero, List.set_cons_succ, List.map_cons, List.map_nil, List.cons_append, List.nil_append, List.replicate_succ, List.replicate_zero, List.length_cons, List.length_nil, List.getElem?_cons_zero, List.getElem?_cons_succ, reduceIte, if_true, if_false, Bool.false_eq_true, arN_t, decide_true, decide_false, isNon, Bool.not_true, Bool.not_false, Bool.true_and, Bool.false_and, Bool.and_true, Bool.and_false, bYes_e, lstMax_e, Nat.reduceAdd, Nat.reduceSub, Nat.reduceLeDiff, Int.reduceLT, Int.reduceLE, Int.reduceEq, String.reduceEq, and_self, decide_eq_true_eq, and_true, true_and, cPos_e, cDiv_e, fMod_i, fDiv_i, Int.reduceMod, Int.reduceDiv, Int.reduceSub, Int.reduceAdd, Int.reducePow, kOf_i, fsOf_i, fOwn_k, fOwn1_k, gFld_k, methO_e, methK_s, methA_s, ownK_s, ownK_n, ownK_m, own1K_s, own1K_n, fldK_s, sApp_e, appK_s, sOSub_e, osubK_s, eOIx_e, oixK_s, eOLen_e, olenK_s, ixN_p, Int.reduceToNat, Nat.reduceLT, oS_e, eSl_e, eSlT_e, kSet_e, kSet2_e, kDrop_e, kIf_t, kIf_f, kOwn_e, kApp_e, kOsub1_e, kOsub2_e, osK_s, kOix_e, ixK_s, kFor_e, kUnp_e, unpK_s, kOp1_e, kOp2_e, kUn_e, kC1_e, kC2_e, kA1_e, kA2_e, kFN_e, kCall_e, kMake_e, kCM_e, kMeth_e, kLst_e, lstK_s, kTup_e, tupK_s, kNl_e, nlK_s, nList_e, kNli_e, nliK_s, lOf_l, lOf_t, kNc1_e, kNc2_e, kLc1_e, kLc2_e, kSeq_e, kTpl_e, kEIf_t, kEIf_f, kEAnd_t, kEAnd_f, kEOr_t, kEOr_f, kENot_e, kB_e, kBAnd_t, kBAnd_f, kBOr_t, kBOr_f, kBNot_e, kOS_e, kSl1_e, kSl2_e, kSl3_e, kSt1_e, kSt2_e, kSt3_e, eMeth_e, kMe_e, lc_c, kL1_e, kL2_e, kT_t, kT_f, Int.cast_ofNat_Int, Int.natCast_zero, Int.natCast_one, lRng1_e, kRng_1, kRng_2, kRng_3, kRng_4, kRng_5, kRng_6, List.length_map, arS_0, sEr_e, sTryAs_e, tryK_nx, tryK_rt, tryK_er, afterO_rt, afterO_nx, eXf_e, xfS_s, xfK_s, plain_n, plain_e, List.all_cons, List.all_nil, eq_self, sTryN_e, tryN_nx, tryN_rt, tryN_h, tryN_t, dflI_e, dflF_e, not_false_eq_true, eMethK_e, kMK_e, kMK2_e, eProp_e, kPr_e, eNotO_e, kNotO_e, notK_s, eSlA_e, kSA1_e, kSA2_e, kSA3_l, kSA3_t, eGetO_e, kGet1_e, kGet2_e, getK_s, LB, li, c0, mk, ↓ne, ↓ap, ↓n1, ↓n2, ↓dg, ↓dm, ri]
theorem math (ns : List Int) (hns : ns.length ≤ 63) : ∃ G', g_law [scr ns] [] = .ok (.d (.bl true)) G' := by
  have hbox : g__law_box [scr ns] [] = .ok (.o 1) (bT [] (ns, 0, 1)) := box_ok ns hns
  obtain ⟨v, t, L, b1, e1, lv, ln, _⟩ := drawn_ok (ns, 0, 1)
  have bd := bad_ok lv ln b1
  obtain ⟨far, b2, e2, h2⟩ := drawB t b1 100000000000000000000 (by decide) (by decide)
  have pw : fPow (.d (.int 10)) (.d (.int 20)) (bT t b1) = some (.d (.int 100000000000000000000), bT t b1) := by kernel_rfl
  obtain ⟨x6, x7, M, s1⟩ := turn_ok lv ln (scr ns) far 0 (.inl rfl) .no .no rfl rfl b2
  obtain ⟨y6, y7, M', s2⟩ := turn_ok (lv.more [ent M]) ln (scr ns) far 1 (.inr rfl) (.ev x6) (.ev x7) rfl rfl b2
  obtain ⟨G', tw⟩ := two_ok (t ++ [ent M] ++ [ent M']) b2
  refine ⟨G', ?_⟩
  have f5 : sFor 5 (lRng1 (aCons (eC (.int 2)) (aNil))) LB [.ev (scr ns), .ev (.o 1), .ev v, .ev (.d (.int (badZ (badO L)))), .ev (.d (.int (far : Nat))), .no, .no, .no, .no] (bT t b2) = .nx [.ev (scr ns), .ev (.o 1), .ev v, .ev (.d (.int (badZ (badO L)))), .ev (.d (.int (far : Nat))), .ev (.d (.int 1)), .ev y6, .ev y7, .no] (bT (t ++ [ent M] ++ [ent M']) b2) := by
    show forL 5 LB [.int 0, .int 1] _ _ = _
    rw [for_c]
    show loopO (LB [.ev (scr ns), .ev (.o 1), .ev v, .ev (.d (.int (badZ (badO L)))), .ev (.d (.int (far : Nat))), .ev (.d (.int 0)), .no, .no, .no] (bT t b2)) _ = _
    rw [s1, loopO_nx, for_c]
    show loopO (LB [.ev (scr ns), .ev (.o 1), .ev v, .ev (.d (.int (badZ (badO L)))), .ev (.d (.int (far : Nat))), .ev (.d (.int 1)), .ev x6, .ev x7, .no] (bT (t ++ [ent M]) b2)) _ = _
    rw [s2, loopO_nx]
    rfl
  simp -implicitDefEqProofs only [bind_ok, bind_er, bindN_ok, ofE_ok, ofE_er, seqO_nx, seqO_rt, seqO_er, seqO_bk, seqO_ct, loopO_nx, loopO_ct, loopO_bk, loopO_rt, loopO_er, lift_s, retO_rt, retO_nx, retO_er, mkO_ok, mkO_er, toOpt_ok, eVar_z, eVar_s, oL_z, oL_s, frz_z, frz_s, wipe_n, wipe_c, datas_n, datas_c, map_s, bind_s, setA_n, setA_c, p2_d, p1_d, pN_d, fEq_i, fEq_s, fEq_b, fEq_ii, fNe_i, fNe_s, fNe_b, fSub_i, fAdd_i, fAnd_i, fOr_i, fXor_i, fLt_i, fLe_i, fGt_i, fGe_i, fIs_d, fIsNot_d, fIsB_b, isB_b, tru_b, tru_i, tru_l, tru_t, orE_s, orE_n, alt2_e, alt1_e, altN_e, fIx_l, fIx_t, at_0, at_1, at_2, at_3, at_4, at_5, for_n, for_c, lc_n, len_lst, len_tup, kfn_c, kix_c, sSeq_e, sNil_e, sSet_e, sSet2_e, sRet_e, sRetN_e, sDrop_e, sIf_e, sBk_e, sCt_e, sFrz_e, sOwn_e, sFor_e, sUnp_e, eC_e, eOp_e, eUn_e, aNil_e, aCons_e, aApp_e, eFN_e, eCall_e, eMake_e, eCMeth_e, eCallO_e, eLst_e, eTup_e, nLst_e, nLc_e, eLc_e, lSeq_e, lTup_e, eIf_e, eAnd_e, eOr_e, eNot_e, bOf_e, bAnd_e, bOr_e, bNot_e, eFld_e, runB_e, env0_e, oN_e, List.set_cons_zero, List.set_cons_succ, List.map_cons, List.map_nil, List.cons_append, List.nil_append, List.replicate_succ, List.replicate_zero, List.length_cons, List.length_nil, List.getElem?_cons_zero, List.getElem?_cons_succ, reduceIte, if_true, if_false, Bool.false_eq_true, arN_t, decide_true, decide_false, isNon, Bool.not_true, Bool.not_false, Bool.true_and, Bool.false_and, Bool.and_true, Bool.and_false, bYes_e, lstMax_e, Nat.reduceAdd, Nat.reduceSub, Nat.reduceLeDiff, Int.reduceLT, Int.reduceLE, Int.reduceEq, String.reduceEq, and_self, decide_eq_true_eq, and_true, true_and, cPos_e, cDiv_e, fMod_i, fDiv_i, Int.reduceMod, Int.reduceDiv, Int.reduceSub, Int.reduceAdd, Int.reducePow, kOf_i, fsOf_i, fOwn_k, fOwn1_k, gFld_k, methO_e, methK_s, methA_s, ownK_s, ownK_n, ownK_m, own1K_s, own1K_n, fldK_s, sApp_e, appK_s, sOSub_e, osubK_s, eOIx_e, oixK_s, eOLen_e, olenK_s, ixN_p, Int.reduceToNat, Nat.reduceLT, oS_e, eSl_e, eSlT_e, kSet_e, kSet2_e, kDrop_e, kIf_t, kIf_f, kOwn_e, kApp_e, kOsub1_e, kOsub2_e, osK_s, kOix_e, ixK_s, kFor_e, kUnp_e, unpK_s, kOp1_e, kOp2_e, kUn_e, kC1_e, kC2_e, kA1_e, kA2_e, kFN_e, kCall_e, kMake_e, kCM_e, kMeth_e, kLst_e, lstK_s, kTup_e, tupK_s, kNl_e, nlK_s, nList_e, kNli_e, nliK_s, lOf_l, lOf_t, kNc1_e, kNc2_e, kLc1_e, kLc2_e, kSeq_e, kTpl_e, kEIf_t, kEIf_f, kEAnd_t, kEAnd_f, kEOr_t, kEOr_f, kENot_e, kB_e, kBAnd_t, kBAnd_f, kBOr_t, kBOr_f, kBNot_e, kOS_e, kSl1_e, kSl2_e, kSl3_e, kSt1_e, kSt2_e, kSt3_e, eMeth_e, kMe_e, lc_c, kL1_e, kL2_e, kT_t, kT_f, Int.cast_ofNat_Int, Int.natCast_zero, Int.natCast_one, lRng1_e, kRng_1, kRng_2, kRng_3, kRng_4, kRng_5, kRng_6, List.length_map, arS_0, sEr_e, sTryAs_e, tryK_nx, tryK_rt, tryK_er, afterO_rt, afterO_nx, eXf_e, xfS_s, xfK_s, plain_n, plain_e, List.all_cons, List.all_nil, eq_self, sTryN_e, tryN_nx, tryN_rt, tryN_h, tryN_t, dflI_e, dflF_e, not_false_eq_true, eMethK_e, kMK_e, kMK2_e, eProp_e, kPr_e, eNotO_e, kNotO_e, notK_s, eSlA_e, kSA1_e, kSA2_e, kSA3_l, kSA3_t, eGetO_e, kGet1_e, kGet2_e, getK_s, g_law, m_law, hbox, e1, bd, ↓pw, e2, ↓f5, tw]
end K58
open PySem PySem.W PyProof.Rows
set_option maxRecDepth 100000 in
set_option maxHeartbeats 0 in
theorem PySem.Challenge.cw_laidink_k58_shape_made_holds : PySem.Challenge.rw_laidink_k58_shape_made.Holds := by
  w_on; o_law; k_head; (case hw => w_witness2)
  k_fill
  refine DL.walk (k := 7) (x := "_law_script") (l := PySem.Challenge.rw_laidink_k58_shape_made) rfl rfl ⟨rfl, by decide, by decide⟩ (fun w h Y => PySem.W.kIn_of Y) ?F
  case F =>
    intro w mg fa h KX G hmg
    refine' K58.all_mk KX G hmg ?aC_InvalidShape ?aC_Shape ?a__law_box ?l__law_box ?c__law_box ?k__law_box ?a__law_draw ?l__law_draw ?c__law_draw ?k__law_draw ?a__law_lines ?l__law_lines ?c__law_lines ?k__law_lines ?a__law_drawn_lines ?l__law_drawn_lines ?c__law_drawn_lines ?k__law_drawn_lines ?a__law_bad ?l__law_bad ?c__law_bad ?k__law_bad ?a__is_line ?l__is_line ?c__is_line ?k__is_line ?a_Shape___init__ ?i_Shape___init__ ?l_Shape___init__ ?c_Shape___init__ ?k_Shape___init__ ?a_Shape_of ?r1_Shape_of ?i_Shape_of ?l_Shape_of ?c_Shape_of ?k_Shape_of ?a__law_made ?l__law_made ?c__law_made ?k__law_made ?a__law_int ?l__law_int ?c__law_int ?k__law_int ?a__law_same_text ?l__law_same_text ?c__law_same_text ?k__law_same_text ?a__law_same_names ?l__law_same_names ?c__law_same_names ?k__law_same_names ?a__law_same_shape ?l__law_same_shape ?c__law_same_shape ?k__law_same_shape ?a__law_is ?l__law_is ?c__law_is ?k__law_is ?a_Shape___contains__ ?i_Shape___contains__ ?l_Shape___contains__ ?c_Shape___contains__ ?k_Shape___contains__ ?a_Shape_area ?i_Shape_area ?l_Shape_area ?c_Shape_area ?k_Shape_area ?a__law_right ?l__law_right ?c__law_right ?k__law_right ?a__law_two ?l__law_two ?c__law_two ?k__law_two ?a_law ?l_law ?c_law ?k_law ?pg_Shape ?hd_Shape ?po_Shape ?sa_Shape ?n_Shape_height ?n_Shape_lines ?n_Shape_width ?mk_Shape ?kc_Shape ?rd_Shape ?ga_Shape ?co_OPEN ?co_SHUT ?co_SIDE ?sf_Shape ?ica_Shape ?icm_Shape ?ikn ?ikt ?it_own_Shape_own_Shape ?it_ty_tuple_ty_tuple ?it_ty_int_ty_int ?it_ty_int_ty_bool ?it_ty_bool_ty_bool ?it_ty_str_ty_str ?no_all ?no_bool ?no_enumerate ?no_int ?no_isinstance ?no_len ?no_list ?no_range ?no_str ?no_sum ?no_super ?no_tuple ?a_InvalidShape___init__ ?l_InvalidShape___init__ ?c_InvalidShape___init__ ?lc_InvalidShape___init__ ?vf_InvalidShape___init__ ?pf_InvalidShape___init__ ?ce_InvalidShape___init__ ?topS ?hst ?ex_InvalidShape___init__ ?rv_InvalidShape___init__ ?sa_InvalidShape___init__ ?xc_InvalidShape___init__ ?tc_InvalidShape___init__ ?kc_InvalidShape___init__ ?tf_InvalidShape___init__ ?si_InvalidShape___init__ ?su_InvalidShape___init__ ?hn_InvalidShape___init__ ?xg_InvalidShape___init__ ?xh_InvalidShape___init__ ?xd_InvalidShape___init__ ?xm_InvalidShape_InvalidShape K58.math
    case aC_InvalidShape => k_is
    case aC_Shape => k_is
    case a__law_box => k_is
    case l__law_box => k_is
    case c__law_box => k_is
    case k__law_box => k_is
    case a__law_draw => k_is
    case l__law_draw => k_is
    case c__law_draw => k_is
    case k__law_draw => k_is
    case a__law_lines => k_is
    case l__law_lines => k_is
    case c__law_lines => k_is
    case k__law_lines => k_is
    case a__law_drawn_lines => k_is
    case l__law_drawn_lines => k_is
    case c__law_drawn_lines => k_is
    case k__law_drawn_lines => k_is
    case a__law_bad => k_is
    case l__law_bad => k_is
    case c__law_bad => k_is
    case k__law_bad => k_is
    case a__is_line => k_is
    case l__is_line => k_is
    case c__is_line => k_is
    case k__is_line => k_is
    case a_Shape___init__ => k_is
    case i_Shape___init__ => k_is
    case l_Shape___init__ => k_is
    case c_Shape___init__ => k_is
    case k_Shape___init__ => k_is
    case a_Shape_of => k_is
    case r1_Shape_of => k_is
    case i_Shape_of => k_is
    case l_Shape_of => k_is
    case c_Shape_of => k_is
    case k_Shape_of => k_is
    case a__law_made => k_is
    case l__law_made => k_is
    case c__law_made => k_is
    case k__law_made => k_is
    case a__law_int => k_is
    case l__law_int => k_is
    case c__law_int => k_is
    case k__law_int => k_is
    case a__law_same_text => k_is
    case l__law_same_text => k_is
    case c__law_same_text => k_is
    case k__law_same_text => k_is
    case a__law_same_names => k_is
    case l__law_same_names => k_is
    case c__law_same_names => k_is
    case k__law_same_names => k_is
    case a__law_same_shape => k_is
    case l__law_same_shape => k_is
    case c__law_same_shape => k_is
    case k__law_same_shape => k_is
    case a__law_is => k_is
    case l__law_is => k_is
    case c__law_is => k_is
    case k__law_is => k_is
    case a_Shape___contains__ => k_is
    case i_Shape___contains__ => k_is
    case l_Shape___contains__ => k_is
    case c_Shape___contains__ => k_is
    case k_Shape___contains__ => k_is
    case a_Shape_area => k_is
    case i_Shape_area => k_is
    case l_Shape_area => k_is
    case c_Shape_area => k_is
    case k_Shape_area => k_is
    case a__law_right => k_is
    case l__law_right => k_is
    case c__law_right => k_is
    case k__law_right => k_is
    case a__law_two => k_is
    case l__law_two => k_is
    case c__law_two => k_is
    case k__law_two => k_is
    case a_law => k_is
    case l_law => k_is
    case c_law => k_is
    case k_law => k_is
    case pg_Shape => k_is
    case hd_Shape => k_is
    case po_Shape => k_is
    case sa_Shape => k_is
    case n_Shape_height => k_is
    case n_Shape_lines => k_is
    case n_Shape_width => k_is
    case mk_Shape => k_is
    case kc_Shape => k_is
    case rd_Shape => k_is
    case ga_Shape => k_is
    case co_OPEN => k_is
    case co_SHUT => k_is
    case co_SIDE => k_is
    case sf_Shape => k_is
    case ica_Shape => k_is
    case icm_Shape => k_is
    case ikn => k_is
    case ikt => k_is
    case it_own_Shape_own_Shape => kit_is
    case it_ty_tuple_ty_tuple => kit_is
    case it_ty_int_ty_int => kit_is
    case it_ty_int_ty_bool => kit_is
    case it_ty_bool_ty_bool => kit_is
    case it_ty_str_ty_str => kit_is
    case no_all => k_is
    case no_bool => k_is
    case no_enumerate => k_is
    case no_int => k_is
    case no_isinstance => k_is
    case no_len => k_is
    case no_list => k_is
    case no_range => k_is
    case no_str => k_is
    case no_sum => k_is
    case no_super => k_is
    case no_tuple => k_is
    case a_InvalidShape___init__ => k_is
    case l_InvalidShape___init__ => k_is
    case c_InvalidShape___init__ => k_is
    case lc_InvalidShape___init__ => k_is
    case vf_InvalidShape___init__ => first | rfl | kernel_rfl
    case pf_InvalidShape___init__ => first | rfl | kernel_rfl
    case ce_InvalidShape___init__ => k_is
    case topS => first | rfl | kernel_rfl
    case hst => k_is
    case ex_InvalidShape___init__ => k_is
    case rv_InvalidShape___init__ => first | rfl | kernel_rfl
    case sa_InvalidShape___init__ => k_is
    case xc_InvalidShape___init__ => k_is
    case tc_InvalidShape___init__ => k_is
    case kc_InvalidShape___init__ => k_is
    case tf_InvalidShape___init__ => k_is
    case si_InvalidShape___init__ => ks_is
    case su_InvalidShape___init__ => k_is
    case hn_InvalidShape___init__ => k_is
    case xg_InvalidShape___init__ => k_is
    case xh_InvalidShape___init__ => k_is
    case xd_InvalidShape___init__ => k_is
    case xm_InvalidShape_InvalidShape => kts_exm
