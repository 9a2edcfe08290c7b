/- Types of values, written and read: mathematics. No program is named here. -/
import Derived.Test.YtaalopiegabghaaGreatDoorVM
namespace Go.Proofs.YtaalopiegabghaaGreatDoor
open Go.Lib

def cutC (c : UInt8) (l : Bs) : Bs × Bs := (l.takeWhile (· != c), (l.dropWhile (· != c)).drop 1)
theorem cutC_at {c : UInt8} {a b : Bs} (h : c ∉ a) : cutC c (a ++ c :: b) = (a, b) := by
  have hall : ∀ x ∈ a, (x != c) = true := fun x hx => by rw [bne_iff_ne]; rintro rfl; exact h hx
  unfold cutC
  rw [List.takeWhile_append_of_pos hall, List.dropWhile_append_of_pos hall, List.takeWhile_cons, List.dropWhile_cons, if_neg (by simp), if_neg (by simp), List.append_nil]
  rfl
theorem cutC_none {c : UInt8} {a : Bs} (h : c ∉ a) : cutC c a = (a, []) := by
  have hall : ∀ x ∈ a, (x != c) = true := fun x hx => by rw [bne_iff_ne]; rintro rfl; exact h hx
  unfold cutC
  have h2 := List.takeWhile_append_dropWhile (p := fun x : UInt8 => x != c) (l := a)
  rw [drop_nil.2 hall, List.append_nil] at h2
  rw [drop_nil.2 hall, h2]; rfl
/-- A text at each of a sign. -/
def sp (c : UInt8) : Bs → List Bs
  | [] => [[]]
  | x :: l => if x = c then [] :: sp c l else match sp c l with
    | [] => [[x]]
    | a :: r => (x :: a) :: r
theorem sp_ne (c : UInt8) : ∀ l, sp c l ≠ []
  | [] => by simp [sp]
  | x :: l => by
    unfold sp
    split
    · simp
    · cases h : sp c l <;> simp
theorem sp_one {c : UInt8} : ∀ {a : Bs}, c ∉ a → sp c a = [a]
  | [], _ => rfl
  | x :: a, h => by
    unfold sp
    rw [if_neg (fun e => h (by rw [e]; exact List.mem_cons_self)), sp_one (fun hm => h (List.mem_cons_of_mem _ hm))]
theorem sp_cons {c : UInt8} : ∀ {a b : Bs}, c ∉ a → sp c (a ++ c :: b) = a :: sp c b
  | [], b, _ => by show sp c (c :: b) = [] :: sp c b; rw [show sp c (c :: b) = [] :: sp c b from by rw [sp, if_pos rfl]]
  | x :: a, b, h => by
    show sp c (x :: (a ++ c :: b)) = _
    have ih := sp_cons (a := a) (b := b) (fun hm => h (List.mem_cons_of_mem _ hm))
    rw [sp, if_neg (fun e => h (by rw [e]; exact List.mem_cons_self)), ih]
theorem sp_bar : ∀ {L : List Bs}, L ≠ [] → (∀ n ∈ L, (124 : UInt8) ∉ n) → sp 124 (barJ L) = L
  | [], h, _ => absurd rfl h
  | [a], _, h => sp_one (h a (List.mem_singleton.2 rfl))
  | a :: b :: r, _, h => by
    rw [barJ, sp_cons (h a List.mem_cons_self), sp_bar (by simp) (fun n hn => h n (List.mem_cons_of_mem _ hn))]
theorem bar_no {c : UInt8} (hc : c ≠ 124) : ∀ {L : List Bs}, (∀ n ∈ L, c ∉ n) → c ∉ barJ L
  | [], _ => by simp [barJ]
  | [a], h => h a (List.mem_singleton.2 rfl)
  | a :: b :: r, h => by
    rw [barJ, List.mem_append, List.mem_cons]
    rintro (h1 | rfl | h1)
    · exact h a List.mem_cons_self h1
    · exact hc rfl
    · exact bar_no hc (fun n hn => h n (List.mem_cons_of_mem _ hn)) h1

/-- The type that a text is written as, if it is one: the program's way. -/
def wr (s : Bs) : Ty :=
  if (cutC 32 s).1 = [98, 111, 111, 108] then ⟨98, [], [], []⟩
  else if (cutC 32 s).1 = [105, 110, 116] then ⟨105, (cutC 32 (cutC 32 s).2).1, (cutC 32 (cutC 32 s).2).2, []⟩
  else if (cutC 32 s).1 = [114, 101, 97, 108] then ⟨114, (cutC 32 (cutC 32 s).2).1, (cutC 32 (cutC 32 s).2).2, []⟩
  else if (cutC 32 s).1 = [101, 110, 117, 109] then ⟨101, [], [], sp 124 (cutC 32 s).2⟩
  else if (cutC 32 s).1 = [116, 101, 120, 116] then ⟨116, [], [], []⟩
  else ⟨0, [], [], []⟩
/-- .. the document's way. -/
def dwr (s : Bs) : Ty :=
  ⟨(((sp 32 s).headD []).headD 0).toNat, if (sp 32 s).length = 3 then (sp 32 s).getD 1 [] else [], if (sp 32 s).length = 3 then (sp 32 s).getD 2 [] else [], if (sp 32 s).length = 2 then sp 124 ((sp 32 s).getD 1 []) else []⟩
theorem itoa_no {n : Int} {c : UInt8} (h : ¬ isDg c) (h2 : c ≠ 45) : c ∉ itoa n := by
  rw [itoa_eq]
  rw [List.mem_append]
  rintro (h1 | h1)
  · split at h1
    · exact h2 (List.mem_singleton.1 h1)
    · cases h1
  · exact h (decDigits_dg _ c h1)
theorem canon_no {n : Num} (hn : n.ok) : (32 : UInt8) ∉ canonB n := by
  cases n with
  | nan => decide
  | inf s => cases s <;> decide
  | fin s X =>
    show 32 ∉ milText s X
    rw [milText_eq, ← cdm_text, List.mem_append]
    rintro (h | h)
    · cases s
      · cases h
      · exact absurd (List.mem_singleton.1 h) (by decide)
    · have := (cdm_ok hn).byte h
      exact absurd this (by decide)
theorem cS_no (l : Bs) : (32 : UInt8) ∉ cS l := by
  unfold cS
  cases h : numB l with
  | none => exact List.not_mem_nil
  | some n => exact canon_no (num_okB h)
theorem name_no {l : Bs} (h : nameB l = true) {c : UInt8} (hc : ¬ (97 ≤ c.toNat ∧ c.toNat ≤ 122)) : c ∉ l := fun hm => by
  unfold nameB at h
  simp only [Bool.and_eq_true] at h
  exact hc (of_decide_eq_true (List.all_eq_true.1 h.2.2 c hm))
/-- What a right type is. -/
theorem right_cases {t : Ty} (h : rightB t = true) :
    (t = ⟨98, [], [], []⟩) ∨ (t = ⟨116, [], [], []⟩) ∨
    (∃ a b, t = ⟨105, itoa a, itoa b, []⟩ ∧ intB t.least = some a ∧ intB t.most = some b ∧ a ≤ b) ∨
    (∃ l m, t = ⟨114, l, m, []⟩ ∧ cE l = 0 ∧ cE m = 0 ∧ cS l = l ∧ cS m = m ∧ zC l m ≤ 0) ∨
    (∃ L, t = ⟨101, [], [], L⟩ ∧ 1 ≤ L.length ∧ L.length ≤ 8 ∧ (∀ n ∈ L, nameB n = true) ∧ distB L = true) := by
  obtain ⟨k, l, m, L⟩ := t
  unfold rightB at h
  simp only at h
  split at h
  · rename_i hk
    simp only [Bool.and_eq_true, List.isEmpty_iff] at h
    obtain ⟨rfl, rfl, rfl⟩ := h
    rcases hk with rfl | rfl
    · exact .inl rfl
    · exact .inr (.inl rfl)
  · split at h
    · rename_i hk
      subst hk
      cases ha : intB l with
      | none => rw [ha] at h; cases h
      | some a =>
        cases hb : intB m with
        | none => rw [ha, hb] at h; cases h
        | some b =>
          rw [ha, hb] at h
          simp only [Bool.and_eq_true, beq_iff_eq, decide_eq_true_eq, List.isEmpty_iff] at h
          obtain ⟨⟨h1, h2⟩, h3, rfl⟩ := h
          exact .inr (.inr (.inl ⟨a, b, by rw [h1, h2], rfl, rfl, h3⟩))
    · split at h
      · rename_i hk
        subst hk
        simp only [Bool.and_eq_true, beq_iff_eq, decide_eq_true_eq, List.isEmpty_iff] at h
        obtain ⟨⟨⟨h1, h2⟩, h3, h4⟩, h5, rfl⟩ := h
        exact .inr (.inr (.inr (.inl ⟨l, m, rfl, h1, h3, h2, h4, h5⟩)))
      · split at h
        · rename_i hk
          subst hk
          simp only [Bool.and_eq_true, decide_eq_true_eq, List.isEmpty_iff, List.all_eq_true] at h
          obtain ⟨⟨h1, h2⟩, ⟨h3, h4⟩, rfl, rfl⟩ := h
          exact .inr (.inr (.inr (.inr ⟨L, rfl, h1, h2, h3, h4⟩)))
        · cases h
theorem two_cut {a b : Bs} (w : Bs) (hw : (32 : UInt8) ∉ w) (ha : (32 : UInt8) ∉ a) : cutC 32 (w ++ 32 :: (a ++ 32 :: b)) = (w, a ++ 32 :: b) ∧ cutC 32 (a ++ 32 :: b) = (a, b) := ⟨cutC_at hw, cutC_at ha⟩
theorem wr_print {t : Ty} (h : rightB t = true) : wr (printB t) = t ∧ dwr (printB t) = t := by
  rcases right_cases h with rfl | rfl | ⟨a, b, rfl, _⟩ | ⟨l, m, rfl, h1, h2, h3, h4, _⟩ | ⟨L, rfl, h1, h2, h3, h4⟩
  · exact ⟨rfl, rfl⟩
  · exact ⟨rfl, rfl⟩
  · have na : (32 : UInt8) ∉ itoa a := itoa_no (by unfold isDg; decide) (by decide)
    have nb : (32 : UInt8) ∉ itoa b := itoa_no (by unfold isDg; decide) (by decide)
    have hp : printB ⟨105, itoa a, itoa b, []⟩ = [105, 110, 116] ++ 32 :: (itoa a ++ 32 :: itoa b) := rfl
    rw [hp]
    obtain ⟨c1, c2⟩ := two_cut (b := itoa b) [105, 110, 116] (by decide) na
    constructor
    · unfold wr
      rw [c1]
      simp only
      rw [c2, if_neg (by decide), if_pos trivial]
    · have hs : sp 32 ([105, 110, 116] ++ 32 :: (itoa a ++ 32 :: itoa b)) = [[105, 110, 116], itoa a, itoa b] := by rw [sp_cons (by decide), sp_cons na, sp_one nb]
      unfold dwr
      rw [hs]; rfl
  · have na : (32 : UInt8) ∉ l := by rw [← h3]; exact cS_no l
    have nb : (32 : UInt8) ∉ m := by rw [← h4]; exact cS_no m
    have hp : printB ⟨114, l, m, []⟩ = [114, 101, 97, 108] ++ 32 :: (l ++ 32 :: m) := rfl
    rw [hp]
    obtain ⟨c1, c2⟩ := two_cut (b := m) [114, 101, 97, 108] (by decide) na
    constructor
    · unfold wr
      rw [c1]
      simp only
      rw [c2, if_neg (by decide), if_neg (by decide), if_pos trivial]
    · have hs : sp 32 ([114, 101, 97, 108] ++ 32 :: (l ++ 32 :: m)) = [[114, 101, 97, 108], l, m] := by rw [sp_cons (by decide), sp_cons na, sp_one nb]
      unfold dwr
      rw [hs]; rfl
  · have n32 : (32 : UInt8) ∉ barJ L := bar_no (by decide) fun n hn => name_no (h3 n hn) (by decide)
    have hne : L ≠ [] := List.length_pos_iff.1 h1
    have hb := sp_bar hne fun n hn => name_no (h3 n hn) (by decide)
    have hp : printB ⟨101, [], [], L⟩ = [101, 110, 117, 109] ++ 32 :: barJ L := rfl
    rw [hp]
    constructor
    · unfold wr
      rw [cutC_at (by decide)]
      simp only
      rw [if_neg (by decide), if_neg (by decide), if_neg (by decide), if_pos trivial, hb]
    · have hs : sp 32 ([101, 110, 117, 109] ++ 32 :: barJ L) = [[101, 110, 117, 109], barJ L] := by rw [sp_cons (by decide), sp_one n32]
      unfold dwr
      rw [hs]
      show (⟨101, [], [], sp 124 (barJ L)⟩ : Ty) = _
      rw [hb]
/-- The type of a text, or none. -/
def paT (s : Bs) : Ty := if rightB (wr s) = true ∧ printB (wr s) = s then wr s else ⟨0, [], [], []⟩
def paE (s : Bs) : Int := if rightB (wr s) = true ∧ printB (wr s) = s then 0 else 2
theorem pa_doc (s : Bs) : paT s = (if rightB (dwr s) = true ∧ printB (dwr s) = s then dwr s else ⟨0, [], [], []⟩) ∧ paE s = (if rightB (dwr s) = true ∧ printB (dwr s) = s then 0 else 2) := by
  unfold paT paE
  by_cases h : rightB (wr s) = true ∧ printB (wr s) = s
  · have h2 := (wr_print h.1).2
    rw [h.2] at h2
    rw [if_pos h, if_pos h, h2, if_pos h, if_pos h]
    exact ⟨rfl, rfl⟩
  · have h3 : ¬ (rightB (dwr s) = true ∧ printB (dwr s) = s) := fun h' => by
      have h2 := (wr_print h'.1).1
      rw [h'.2] at h2
      rw [h2] at h
      exact h h'
    rw [if_neg h, if_neg h, if_neg h3, if_neg h3]
    exact ⟨rfl, rfl⟩
theorem pa_print {t : Ty} (h : rightB t = true) : paT (printB t) = t ∧ paE (printB t) = 0 := by
  have h2 := (wr_print h).1
  unfold paT paE
  rw [h2, if_pos ⟨h, rfl⟩, if_pos ⟨h, rfl⟩]
  exact ⟨rfl, rfl⟩
end Go.Proofs.YtaalopiegabghaaGreatDoor
