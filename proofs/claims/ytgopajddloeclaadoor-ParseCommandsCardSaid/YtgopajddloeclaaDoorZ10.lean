/- Contracts and mathematics: Tokens. -/
import Derived.Test.YtgopajddloeclaaDoorZ9
import Derived.Defers
import Derived.Recover
namespace Go.Proofs.YtgopajddloeclaaDoor
open Go.RowKit Go.Lib Go.WideShapes

theorem Tryd.info25 : (Tryd.prog.info? 25).map (fun i => (i.zero, i.size, i.bytes)) = some (some (.agg #[.int .u8 0, .string { data := #[] }, .int .i64 0, .int .i64 0]), 4, 40) := by kernel_rfl

def tokC (l : List Tok) : List Value := l.flatMap fun t => [.int .u8 (t.kind.toNat : Nat), .string ⟨t.text.toArray⟩, .int .i64 t.lo, .int .i64 t.hi]
theorem tokC_snoc (l : List Tok) (t : Tok) : tokC (l ++ [t]) = tokC l ++ [.int .u8 (t.kind.toNat : Nat), .string ⟨t.text.toArray⟩, .int .i64 t.lo, .int .i64 t.hi] := by simp [tokC]
theorem tokC_len (l : List Tok) : (tokC l).length = l.length * 4 := by
  induction l with
  | nil => rfl
  | cons q l ih => simp [tokC] at ih ⊢; omega

/-- Nothing but the two results' cells and the cursor has turned, of what was there. -/
theorem catch_panicking (b : Nat) (x0 x1 : Value) (u : TypeId) (pv : Value) (older : List PanicEntry) (w : World)
    (c0 : w.cell? ⟨b, 0, none⟩ = some x0) (c1 : w.cell? ⟨b + 1, 0, none⟩ = some x1) (f0 : w.frozen? ⟨b, 0, none⟩ = false) (f1 : w.frozen? ⟨b + 1, 0, none⟩ = false) :
    CallsD Tryd.prog 54 #[.pointer (some ⟨b, 0, none⟩), .pointer (some ⟨b + 1, 0, none⟩)] (.panicking ({ v := .iface u pv, recovered := false } :: older)) w fun e u' w' =>
      e = .returned (.tuple #[]) ∧ u' = .panicking ({ v := .iface u pv, recovered := true } :: older) ∧ w' = (w.setCell ⟨b, 0, none⟩ (.slice none 0 0)).setCell ⟨b + 1, 0, none⟩ (.int .i64 2) := by
  refine callsD_of_wpS Tryd.func54 rfl fun c₀ cs hu => ?_
  apply wpS_seq
  apply wpS_region
  simp [wpOpsS, go_sem, recoverD, hu, Tryd.ntmps54, Exit.thenS]
  refine wpS_cond (t := true) (by simp [Act.eval, Array.replicate]) ?_
  simp only [if_true]
  apply wpS_region
  simp [wpOpsS, go_sem, c0, c1, f0, f1, bodyPostS, results, Tryd.results54]

theorem catch_idle (b : Nat) (w : World) :
    CallsD Tryd.prog 54 #[.pointer (some ⟨b, 0, none⟩), .pointer (some ⟨b + 1, 0, none⟩)] .returning w fun e u' w' => e = .returned (.tuple #[]) ∧ u' = .returning ∧ w' = w := by
  refine callsD_of_wpS Tryd.func54 rfl fun c₀ cs hu => ?_
  apply wpS_seq
  apply wpS_region
  simp [wpOpsS, go_sem, recoverD, hu, Tryd.ntmps54, Exit.thenS]
  refine wpS_cond (t := false) (by simp [Act.eval, Array.replicate]) ?_
  simp only [Bool.false_eq_true, if_false]
  refine wpS_of_wp (wp_skip ?_)
  cases c₀
  simp_all [bodyPostS, results, Tryd.results54]

@[go_sem, simp] theorem setCell_drewN (w : World) (k : Nat) (a : Addr) (v : Value) : (w.drewN k).setCell a v = (w.setCell a v).drewN k := rfl

theorem idx_zero : ∀ l : Bs, ((0 : UInt8) ∈ l ∧ 0 ≤ indexByte l 0) ∨ ((0 : UInt8) ∉ l ∧ indexByte l 0 = -1) := by
  intro l
  induction l with
  | nil => exact .inr ⟨by simp, rfl⟩
  | cons a r ih =>
    rw [indexByte]
    by_cases h : a = 0
    · subst h; exact .inl ⟨by simp, by simp⟩
    · rw [if_neg (by simpa using h)]
      rcases ih with ⟨h1, h2⟩ | ⟨h1, h2⟩
      · exact .inl ⟨by simp [h1], by rw [if_neg (by simp; omega)]; omega⟩
      · exact .inr ⟨by simp [h1]; exact fun e => h e.symm, by rw [h2]; rfl⟩

theorem sk_sub (l r : Bs) : sk l 0 = some r → ∃ d, r = l.drop d ∧ d ≤ l.length := by
  suffices h : ∀ (n : Nat) (l : Bs) (m : Nat) (r : Bs), l.length ≤ n → sk l m = some r → ∃ d, r = l.drop d ∧ d ≤ l.length from h _ l 0 r (Nat.le_refl _)
  intro n
  induction n with
  | zero =>
    intro l m r hl h
    have : l = [] := List.length_eq_zero_iff.1 (by omega)
    subst this
    rw [sk] at h
    split at h
    · cases h; exact ⟨0, rfl, Nat.le_refl _⟩
    · cases h
  | succ n ih =>
    intro l m r hl h
    have up : ∀ (a : UInt8) (q : Bs) (m : Nat), q.length ≤ n → sk q m = some r → ∃ d, r = (a :: q).drop d ∧ d ≤ (a :: q).length := by
      intro a q m hq hs
      obtain ⟨d, hd, hdl⟩ := ih q m r hq hs
      exact ⟨d + 1, by simpa using hd, by simp; omega⟩
    have up2 : ∀ (a b : UInt8) (q : Bs) (m : Nat), q.length ≤ n → sk q m = some r → ∃ d, r = (a :: b :: q).drop d ∧ d ≤ (a :: b :: q).length := by
      intro a b q m hq hs
      obtain ⟨d, hd, hdl⟩ := ih q m r hq hs
      exact ⟨d + 2, by simpa using hd, by simp; omega⟩
    match l, m with
    | [], m =>
      rw [sk] at h
      split at h
      · cases h; exact ⟨0, rfl, Nat.le_refl _⟩
      · cases h
    | [a], 0 =>
      rw [sk] at h
      split at h
      · exact up a [] 0 (by simp) h
      · cases h; exact ⟨0, rfl, Nat.zero_le _⟩
    | a :: b :: q, 0 =>
      simp only [List.length_cons] at hl
      rw [sk] at h
      split at h
      · exact up a (b :: q) 0 (by simp; omega) h
      · split at h
        · exact up2 a b q 1 (by omega) h
        · split at h
          · exact up2 a b q 3 (by omega) h
          · cases h; exact ⟨0, rfl, Nat.zero_le _⟩
    | a :: q, 1 =>
      simp only [List.length_cons] at hl
      have h : (if a = 10 then sk q 0 else sk q 1) = some r := by cases q <;> exact h
      split at h
      · exact up a q 0 (by omega) h
      · exact up a q 1 (by omega) h
    | [a], d + 2 => cases h
    | a :: b :: q, d + 2 =>
      simp only [List.length_cons] at hl
      rw [sk] at h
      split at h
      · split at h
        · exact up2 a b q _ (by omega) h
        · cases h
      · split at h
        · split at h
          · exact up2 a b q 0 (by omega) h
          · exact up2 a b q _ (by omega) h
        · exact up a (b :: q) _ (by simp; omega) h

theorem qt_sub (mark : UInt8) (esc : Bool) : ∀ (n : Nat) (l t r : Bs), l.length ≤ n → qt mark esc l = some (t, r) → ∃ d, r = l.drop d ∧ d ≤ l.length := by
  intro n
  induction n with
  | zero =>
    intro l t r hl h
    have : l = [] := List.length_eq_zero_iff.1 (by omega)
    subst this
    cases h
  | succ n ih =>
    intro l t r hl h
    have up : ∀ (k : Nat) (q : Bs) (c : UInt8), q = l.drop k → q.length ≤ n → k ≤ l.length → (qt mark esc q).map (fun p => (c :: p.1, p.2)) = some (t, r) → ∃ d, r = l.drop d ∧ d ≤ l.length := by
      intro k q c hq hn hk hm
      cases hr : qt mark esc q with
      | none => rw [hr] at hm; cases hm
      | some p =>
        rw [hr] at hm
        cases hm
        obtain ⟨d, hd, hdl⟩ := ih q p.1 p.2 hn hr
        subst hq
        rw [List.length_drop] at hdl
        exact ⟨k + d, by rw [hd, List.drop_drop], by omega⟩
    match l, hl, h, up with
    | [], _, h, _ => cases h
    | [x], _, h, _ =>
      rw [qt_one] at h
      split at h
      · cases h
      · split at h
        · cases h; exact ⟨1, rfl, by simp⟩
        · cases h
    | x :: y :: q, hl, h, up =>
      simp only [List.length_cons] at hl
      rw [qt_two] at h
      split at h
      · exact up 2 q _ rfl (by omega) (by simp) h
      · split at h
        · split at h
          · exact up 2 q _ rfl (by omega) (by simp) h
          · cases h; exact ⟨1, rfl, by simp⟩
        · exact up 1 (y :: q) _ rfl (by simp; omega) (by simp) h

theorem nl_pos {a : UInt8} {r : Bs} (h : dg a = true ∨ a = 46) : 1 ≤ nl (a :: r) := by rw [nl_on h]; omega

theorem token_sub {l : Bs} {k : UInt8} {t r : Bs} (h : token l = some (k, t, r)) : ∃ d, 1 ≤ d ∧ r = l.drop d ∧ d ≤ l.length := by
  cases l with
  | nil => cases h
  | cons b q =>
    rw [token] at h
    have viaq : ∀ (mark : UInt8) (esc : Bool) (j : Nat) (c : UInt8), (qt mark esc (q.drop j)).map (fun p => (c, p.1, p.2)) = some (k, t, r) → j ≤ q.length → ∃ d, 1 ≤ d ∧ r = (b :: q).drop d ∧ d ≤ (b :: q).length := by
      intro mark esc j c hm hj
      cases hr : qt mark esc (q.drop j) with
      | none => rw [hr] at hm; cases hm
      | some p =>
        rw [hr] at hm
        cases hm
        obtain ⟨d, hd, hdl⟩ := qt_sub mark esc _ _ p.1 p.2 (Nat.le_refl _) hr
        rw [List.length_drop] at hdl
        exact ⟨j + d + 1, by omega, by rw [hd, List.drop_drop, List.drop_succ_cons], by simp; omega⟩
    split at h
    · rename_i hc
      have hq : 1 ≤ q.length := by cases q with
        | nil => cases hc.2
        | cons => simp
      refine viaq 39 true 1 115 ?_ hq
      rw [List.drop_one]; exact h
    split at h
    · rename_i hb
      cases h
      refine ⟨(b :: q).length - ((b :: q).dropWhile inw).length, ?_, ?_, by omega⟩
      · have : ((b :: q).dropWhile inw).length ≤ q.length := by
          rw [List.dropWhile_cons_of_pos (by unfold inw; rw [hb]; rfl)]
          exact (List.dropWhile_suffix inw).length_le
        simp; omega
      · have e := List.takeWhile_append_dropWhile (p := inw) (l := b :: q)
        conv => rhs; rw [← e]
        have hl := congrArg List.length e
        rw [List.length_append] at hl
        rw [List.drop_left' (by rw [e]; omega)]
    split at h
    · cases hr : qt 34 false q with
      | none => rw [hr] at h; cases h
      | some p =>
        refine viaq 34 false 0 113 ?_ (Nat.zero_le _)
        rw [List.drop_zero]
        rw [hr] at h ⊢
        simp only [Option.bind_some] at h
        split at h
        · cases h
        · exact h
    split at h
    · refine viaq 39 false 0 115 ?_ (Nat.zero_le _)
      rw [List.drop_zero]; exact h
    split at h
    · rename_i hd
      cases h
      exact ⟨_, nl_pos (hd.imp id (·.1)), rfl, nl_le _⟩
    split at h
    · rename_i tg htg
      obtain ⟨_, htl, _, ht0⟩ := tag_prefix htg
      cases hr : find tg ((b :: q).drop tg.length) with
      | none => rw [hr] at h; cases h
      | some n =>
        rw [hr] at h
        cases h
        rcases find_index tg ((b :: q).drop tg.length) with ⟨h1, _⟩ | ⟨n', h1, _, h3⟩
        · rw [hr] at h1; cases h1
        · rw [hr] at h1
          cases h1
          rw [List.length_drop] at h3
          exact ⟨_, by omega, rfl, by omega⟩
    · cases h
      exact ⟨1, Nat.le_refl _, rfl, by simp⟩

/-- What is to come behind blanks. -/
def tk (f n : Nat) (l : Bs) : Option (List Tok) := match l with
  | [] => some []
  | a :: r => match token (a :: r) with
    | none => none
    | some (k, t, q) => (toks f n q).map (⟨k, t, n - (a :: r).length, n - q.length⟩ :: ·)

theorem toks_tk (f n : Nat) (l : Bs) : toks (f + 1) n l = (sk l 0).bind (tk f n) := by
  rw [toks]
  cases sk l 0 with
  | none => rfl
  | some q => cases q <;> rfl
end Go.Proofs.YtgopajddloeclaaDoor
