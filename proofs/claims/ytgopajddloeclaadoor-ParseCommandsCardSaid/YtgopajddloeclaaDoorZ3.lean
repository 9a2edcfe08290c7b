/- Contracts and mathematics: Skip. -/
import Derived.Test.YtgopajddloeclaaDoorZ2
import Derived.Test.YtgopajddloeclaaDoorShelf
import Derived.Deep.LoopGhost
namespace Go.Proofs.YtgopajddloeclaaDoor
open Go.RowKit Go.Lib Go.WideShapes


/-- The comment that is closed: from depth d on. -/
def bk : Bs → Nat → Option Bs
  | [], _ => none
  | a :: r, d => match r with
    | b :: r' => if a = 47 ∧ b = 42 then (if d + 1 ≤ 8 then bk r' (d + 1) else none) else if a = 42 ∧ b = 47 then (if d = 1 then some r' else bk r' (d - 1)) else bk (b :: r') d
    | [] => none

theorem sk_bk : ∀ (n : Nat) (l : Bs) (d : Nat), l.length ≤ n → 1 ≤ d → sk l (d + 2) = (bk l d).bind (sk · 0) := by
  intro n
  induction n with
  | zero =>
    intro l d hl hd
    have : l = [] := List.length_eq_zero_iff.1 (by omega)
    subst this
    simp [sk, bk]
  | succ n ih =>
    intro l d hl hd
    match l with
    | [] => simp [sk, bk]
    | [a] => simp [sk, bk]
    | a :: b :: r =>
      simp only [List.length_cons] at hl
      rw [sk, bk]
      by_cases h1 : a = 47 ∧ b = 42
      · rw [if_pos h1, if_pos h1]
        by_cases h2 : d + 1 ≤ 8
        · rw [if_pos h2, if_pos h2]; exact ih r (d + 1) (by omega) (by omega)
        · rw [if_neg h2, if_neg h2]; rfl
      · rw [if_neg h1, if_neg h1]
        by_cases h2 : a = 42 ∧ b = 47
        · rw [if_pos h2, if_pos h2]
          by_cases h3 : d = 1
          · rw [if_pos h3, if_pos h3]; rfl
          · rw [if_neg h3, if_neg h3]
            obtain ⟨d, rfl⟩ : ∃ e, d = e + 1 := ⟨d - 1, by omega⟩
            exact ih r d (by omega) (by omega)
        · rw [if_neg h2, if_neg h2]; exact ih (b :: r) d (by simp; omega) hd

theorem bk_sub : ∀ (n : Nat) (l : Bs) (d : Nat) (r : Bs), l.length ≤ n → bk l d = some r → ∃ k, 1 ≤ k ∧ r = l.drop k ∧ k ≤ l.length := by
  intro n
  induction n with
  | zero =>
    intro l d r hl h
    have : l = [] := List.length_eq_zero_iff.1 (by omega)
    subst this
    simp [bk] at h
  | succ n ih =>
    intro l d r hl h
    match l with
    | [] => simp [bk] at h
    | [a] => simp [bk] at h
    | a :: b :: t =>
      simp only [List.length_cons] at hl
      rw [bk] at h
      split at h
      · split at h
        · obtain ⟨k, _, rfl, hk⟩ := ih _ _ _ (by omega) h
          exact ⟨k + 2, by omega, by simp, by simp; omega⟩
        · cases h
      · split at h
        · split at h
          · cases h; exact ⟨2, by omega, by simp, by simp⟩
          · obtain ⟨k, _, rfl, hk⟩ := ih _ _ _ (by omega) h
            exact ⟨k + 2, by omega, by simp, by simp; omega⟩
        · obtain ⟨k, _, rfl, hk⟩ := ih _ _ _ (by simp; omega) h
          exact ⟨k + 1, by omega, by simp, by simp at hk ⊢; omega⟩

theorem sk_line (l : Bs) : sk l 1 = sk (l.dropWhile (· != 10)) 0 := by
  induction l with
  | nil => rfl
  | cons a r ih =>
    rw [sk]
    by_cases h : a = 10
    · subst h
      rw [if_pos rfl, List.dropWhile_cons_of_neg (by simp), sk.eq_def (10 :: r) 0]
      rfl
    · rw [if_neg h, List.dropWhile_cons_of_pos (by simpa using h), ih]

theorem idx_line : ∀ l : Bs, (indexByte l 10 = -1 ∧ l.dropWhile (· != 10) = []) ∨ ∃ k : Nat, indexByte l 10 = k ∧ k ≤ l.length ∧ l.dropWhile (· != 10) = l.drop k := by
  intro l
  induction l with
  | nil => exact .inl ⟨rfl, rfl⟩
  | cons a r ih =>
    rw [indexByte]
    by_cases h : a = 10
    · subst h
      right
      exact ⟨0, by simp, by simp, by rw [List.dropWhile_cons_of_neg (by simp)]; rfl⟩
    · rw [if_neg (by simpa using h), List.dropWhile_cons_of_pos (by simpa using h)]
      rcases ih with ⟨h1, h2⟩ | ⟨k, h1, h2, h3⟩
      · left; rw [h1]; exact ⟨rfl, h2⟩
      · right
        refine ⟨k + 1, ?_, by simp; omega, by rw [h3]; simp⟩
        rw [h1, if_neg (by first | (simp; done) | (simp; omega))]; simp

theorem blank_idx (n : Nat) : (0 ≤ indexByte [32, 9, 10, 13] (UInt8.ofNat n)) ↔ blank (UInt8.ofNat n) = true := by
  simp only [indexByte, blank, beq_iff_eq, Bool.or_eq_true]
  generalize UInt8.ofNat n = b
  by_cases h1 : b = 32
  · simp [h1]
  by_cases h2 : b = 9
  · simp [h2]
  by_cases h3 : b = 10
  · simp [h3]
  by_cases h4 : b = 13
  · simp [h4]
  have e : ∀ c : UInt8, ¬ b = c → ¬ c = b := fun c h e => h e.symm
  simp [h1, h2, h3, h4, e _ h1, e _ h2, e _ h3, e _ h4]

theorem ahead_two {l : Bs} {i : Nat} {a b : UInt8} (h : [a, b].isPrefixOf (l.drop i) = true) : l.drop i = a :: b :: l.drop (i + 2) ∧ i + 2 ≤ l.length := by
  match hl : l.drop i with
  | [] => rw [hl] at h; simp at h
  | [x] => rw [hl] at h; simp [List.isPrefixOf] at h
  | x :: y :: r =>
    rw [hl] at h
    simp [List.isPrefixOf] at h
    obtain ⟨rfl, rfl⟩ := h
    have h2 : l.drop (i + 2) = r := by rw [← List.drop_drop, hl]; rfl
    refine ⟨by rw [h2], ?_⟩
    have := congrArg List.length hl
    simp at this; omega

theorem not_two {x : UInt8} {r : Bs} {a b : UInt8} (h : [a, b].isPrefixOf (x :: r) = false) : ¬ (x = a ∧ r.head? = some b) := by
  rintro ⟨rfl, h2⟩
  cases r with
  | nil => simp at h2
  | cons y r => simp at h2; subst h2; simp [List.isPrefixOf] at h

theorem drop_cons {s : ByteArray} {i : Nat} (hi : i < s.size) : (bytes s).drop i = UInt8.ofNat (pb s i) :: (bytes s).drop (i + 1) := by
  rw [List.drop_eq_getElem_cons (by rw [bytes_len]; exact hi)]
  congr 1
  unfold pb
  rw [List.getD, List.getElem?_eq_getElem (by rw [← bytes]; rw [bytes_len]; exact hi)]
  simp

/-- The cursor has gone on to j. -/
def Moved (p : Nat) (s : ByteArray) (w : World) (j : Nat) (v : Value) (e : Ending) (w' : World) : Prop := e = .returned v ∧ Cur w' p s j ∧ w.grownBy w' (some p)
/-- It panics. -/
def Stuck (p : Nat) (s : ByteArray) (w : World) (e : Ending) (w' : World) : Prop := e = .panicked [{ v := .iface 28 (.int .i64 2), recovered := false }] ∧ (∃ j, Cur w' p s j) ∧ w.grownBy w' (some p)

theorem ahead_is (p i : Nat) (s t : ByteArray) (b : Bool) (w : World) (h : Cur w p s i) (hi : i ≤ s.size) (hb : t.data.toList.isPrefixOf ((bytes s).drop i) = b) :
    Calls Tryd.prog 79 #[.pointer (some ⟨p, 0, none⟩), .string t] w fun e w' => e = .returned (.bool b) ∧ ∃ n, w' = w.drewN n := by
  obtain ⟨c0, c1, _⟩ := h.cell
  have hi1 : (i : Int) ≤ s.size := by omega
  have hH := Lib.hid (fun W => Tryd.strings_HasPrefix (s.extract i s.size) t W)
  have hV : Lib.hasPrefix (s.extract i s.size).data.toList t.data.toList = b := by
    rw [← hb, Lib.extract_to_end, Lib.hasPrefix]
  rw [hV] at hH
  have hH := Lib.hid hH.out
  clear h hV hb
  go_enter Tryd.func79, Tryd.ntmps79
  go_wp2_with fail
  go_quiet ((go_at_call 107; exact Calls.quiet_of_same (hH.out _)))
  go_wp2_with fail
  go_ret
  exact ⟨rfl, nq, rfl⟩

theorem moved_set {p i j n : Nat} {s : ByteArray} {w : World} {z : Int} (h : Cur w p s i) (hz : z = (j : Int)) : Moved p s w j (.tuple #[]) (.returned (.tuple #[])) ((w.drewN n).setCell ⟨p, 1, none⟩ (.int .i64 z)) := by
  subst hz
  obtain ⟨h1, h2⟩ := (Cur.drewN h n).set j
  exact ⟨rfl, h1, grow_trans (grow_drewN _ _ _) h2⟩

theorem cur_step {p i j n : Nat} {s : ByteArray} {w wr : World} {z : Int} (h : Cur wr p s i) (hg : w.grownBy wr (some p)) (hz : z = (j : Int)) : Cur ((wr.drewN n).setCell ⟨p, 1, none⟩ (.int .i64 z)) p s j ∧ w.grownBy ((wr.drewN n).setCell ⟨p, 1, none⟩ (.int .i64 z)) (some p) := by
  subst hz
  obtain ⟨h1, h2⟩ := (Cur.drewN h n).set j
  exact ⟨h1, grow_trans hg (grow_trans (grow_drewN _ _ _) h2)⟩

theorem stuck_mk {p i n : Nat} {s : ByteArray} {w wr : World} (h : Cur wr p s i) (hg : w.grownBy wr (some p)) : Stuck p s w (.panicked [{ v := .iface 28 (.int .i64 2), recovered := false }]) (wr.drewN n) := ⟨rfl, ⟨i, h⟩, grow_trans hg (grow_drewN _ _ _)⟩

theorem line_any (p i : Nat) (s : ByteArray) (w : World) (h : Cur w p s i) (hi : i ≤ s.size) (hs : s.size ≤ 2000) :
    Calls Tryd.prog 80 #[.pointer (some ⟨p, 0, none⟩)] w (Moved p s w (s.size - (((bytes s).drop i).dropWhile (· != 10)).length) (.tuple #[])) := by
  obtain ⟨c0, c1, f1⟩ := h.cell
  have hi1 : (i : Int) ≤ s.size := by omega
  have hH := Lib.hid (fun W => Tryd.strings_IndexByte (s.extract i s.size) 10 W)
  rw [Lib.extract_to_end, show (10 : Int).toNat.toUInt8 = 10 from rfl] at hH
  have H := Lib.hid h
  have hll := bytes_len s
  rcases idx_line ((bytes s).drop i) with ⟨h1, h2⟩ | ⟨k, h1, h2, h3⟩
  · have h1 : indexByte (List.drop i s.data.toList) 10 = -1 := h1
    rw [h1] at hH
    have HH := Lib.hid hH.out
    have HJ := Lib.hid (show s.size - (((bytes s).drop i).dropWhile (· != 10)).length = s.size by rw [h2]; rfl)
    clear h h1 h2 hH hll
    go_enter Tryd.func80, Tryd.ntmps80
    go_wp2_with fail
    go_quiet ((go_at_call 56; exact Calls.quiet_of_same (HH.out _)))
    go_wp2_with fail
    go_quiet (fail)
    go_wp2_with fail
    go_end0
    rw [HJ.out]
    exact moved_set H.out (by omega)
  · have h1 : indexByte (List.drop i s.data.toList) 10 = k := h1
    rw [h1] at hH
    have HH := Lib.hid hH.out
    have hk : i + k ≤ s.size := by rw [List.length_drop, hll] at h2; omega
    have HJ := Lib.hid (show s.size - (((bytes s).drop i).dropWhile (· != 10)).length = i + k by rw [h3, List.length_drop, List.length_drop, hll]; omega)
    have hk' : (i : Int) + k ≤ s.size := by omega
    clear h h1 h2 h3 hH hll
    go_enter Tryd.func80, Tryd.ntmps80
    go_wp2_with fail
    go_quiet ((go_at_call 56; exact Calls.quiet_of_same (HH.out _)))
    go_wp2_with fail
    go_end0
    rw [HJ.out]
    exact moved_set H.out (by omega)

/-- The cursor has gone on to where r stands, or it panics. -/
def Opt (p : Nat) (s : ByteArray) (w : World) (R : Option Bs) (e : Ending) (w' : World) : Prop := (∀ r, R = some r → Moved p s w (s.size - r.length) (.tuple #[]) e w') ∧ (R = none → Stuck p s w e w')

theorem Opt.some {p : Nat} {s : ByteArray} {w w' : World} {r : Bs} {e : Ending} (h : Moved p s w (s.size - r.length) (.tuple #[]) e w') : Opt p s w (some r) e w' := ⟨fun _ hr => (by cases hr; exact h), fun hr => (by cases hr)⟩
theorem Opt.none {p : Nat} {s : ByteArray} {w w' : World} {e : Ending} (h : Stuck p s w e w') : Opt p s w .none e w' := ⟨fun r hr => (by cases hr), fun _ => h⟩

theorem bk_open {l : Bs} {i d : Nat} (h : l.drop i = 47 :: 42 :: l.drop (i + 2)) : bk (l.drop i) d = if d + 1 ≤ 8 then bk (l.drop (i + 2)) (d + 1) else none := by rw [h, bk]; rfl
theorem bk_shut {l : Bs} {i d : Nat} (h : l.drop i = 42 :: 47 :: l.drop (i + 2)) : bk (l.drop i) d = if d = 1 then some (l.drop (i + 2)) else bk (l.drop (i + 2)) (d - 1) := by rw [h, bk]; rfl
theorem bk_on {x : UInt8} {r : Bs} {d : Nat} (h1 : [47, 42].isPrefixOf (x :: r) = false) (h2 : [42, 47].isPrefixOf (x :: r) = false) : bk (x :: r) d = bk r d := by
  have h1 := not_two h1
  have h2 := not_two h2
  match r with
  | [] => rw [bk, bk]
  | y :: r =>
    rw [bk, if_neg (fun e => h1 ⟨e.1, by rw [e.2]; rfl⟩), if_neg (fun e => h2 ⟨e.1, by rw [e.2]; rfl⟩)]

set_option maxRecDepth 100000 in
set_option maxHeartbeats 2000000 in
theorem block_any (p i : Nat) (s : ByteArray) (w : World) (h : Cur w p s i) (hi : i ≤ s.size) (hs : s.size ≤ 2000) (h2 : [47, 42].isPrefixOf ((bytes s).drop i) = true) :
    Calls Tryd.prog 81 #[.pointer (some ⟨p, 0, none⟩)] w (Opt p s w (bk ((bytes s).drop i) 0)) := by
  obtain ⟨R, hR⟩ : ∃ R, R = bk ((bytes s).drop i) 0 := ⟨_, rfl⟩
  rw [← hR]
  have H := Lib.hid h; have H2 := Lib.hid h2; have HR := Lib.hid hR
  have HLL := Lib.hid (bytes_len s)
  clear h h2 hR
  go_enter Tryd.func81, Tryd.ntmps81
  go_wp2_with fail
  go_step3
  go_wp2_with fail
  go_step3
  go_wp2_with fail
  go_loopg [2] (s.size - i) (fun g v wr => ∃ j d : Nat, j ≤ s.size ∧ g = s.size - j ∧ v = .int .i64 d ∧ d ≤ 8 ∧ Cur wr p s j ∧ w.grownBy wr (some p) ∧ bk ((bytes s).drop j) d = R ∧ (d = 0 → [47, 42].isPrefixOf ((bytes s).drop j) = true))
  case atStart => exact ⟨i, 0, hi, rfl, rfl, by omega, H.out, grow_refl _ _, HR.out.symm, fun _ => H2.out⟩
  case round =>
    obtain ⟨j, d, hj, hg, rfl, hd, hC, hG, hB, hz⟩ := hrel
    obtain ⟨c0, c1, f1⟩ := hC.cell
    have HC := Lib.hid hC; have HG := Lib.hid hG; have HB := Lib.hid hB; have HZ := Lib.hid hz; have HGK := Lib.hid hg
    clear hC hG hB hz hg
    by_cases hlt : j < s.size
    · have HDC := Lib.hid (drop_cons hlt)
      go_wp2_with fail
      refine (more_yes p j s _ HC.out hlt).mono ?_; rintro e w' ⟨rfl, n1, rfl⟩
      go_wp2_with fail
      refine (demand_true _).mono ?_; rintro e w' ⟨rfl, rfl⟩
      cases h47 : [47, 42].isPrefixOf ((bytes s).drop j) with
      | true =>
        obtain ⟨e1, e2⟩ := ahead_two h47
        rw [HLL.out] at e2
        have H47 := Lib.hid h47; have HE := Lib.hid (bk_open (d := d) e1)
        have e3 : (j : Int) + 2 ≤ s.size := by omega
        clear h47 e1
        go_wp2_with fail
        refine (ahead_is p j s _ true _ (HC.out.drewN _) (by omega) H47.out).mono ?_; rintro e w' ⟨rfl, n2, rfl⟩
        by_cases hd8 : d + 1 ≤ 8
        · have hdd : decide ((d : Int) + 1 ≤ 8) = true := decide_eq_true (by omega)
          have HBB := Lib.hid (show bk ((bytes s).drop (j + 2)) (d + 1) = R by rw [← HB.out, HE.out, if_pos hd8])
          go_wp2_with fail
          refine (demand_true _).mono ?_; rintro e w' ⟨rfl, rfl⟩
          go_wp2_with fail
          go_roundg (s.size - (j + 2))
          case measure => have := HGK.out; omega
          case rel =>
            obtain ⟨a1, a2⟩ := cur_step (n := n1 + n2) (z := (j : Int) + 2) (j := j + 2) HC.out HG.out (by omega)
            exact ⟨j + 2, d + 1, e2, rfl, by go_num, hd8, a1, a2, HBB.out, fun h => by omega⟩
        · have hdd : decide ((d : Int) + 1 ≤ 8) = false := decide_eq_false (by omega)
          have HBB := Lib.hid (show R = none by rw [← HB.out, HE.out, if_neg hd8])
          go_wp2_with fail
          refine (demand_false _).mono ?_; rintro e w' ⟨rfl, rfl⟩
          go_wp2_with fail
          exact ⟨rfl, by rw [HBB.out]; exact Opt.none (stuck_mk HC.out HG.out)⟩
      | false => 
        have hd1 : 1 ≤ d := by
          rcases Nat.eq_zero_or_pos d with h0 | h0
          · rw [HZ.out h0] at h47; cases h47
          · exact h0
        have H47 := Lib.hid h47
        clear h47
        go_wp2_with fail
        refine (ahead_is p j s _ false _ (HC.out.drewN _) (by omega) H47.out).mono ?_; rintro e w' ⟨rfl, n2, rfl⟩
        cases h42 : [42, 47].isPrefixOf ((bytes s).drop j) with
        | true =>
          obtain ⟨e1, e2⟩ := ahead_two h42
          rw [HLL.out] at e2
          have H42 := Lib.hid h42; have HE := Lib.hid (bk_shut (d := d) e1)
          have e3 : (j : Int) + 2 ≤ s.size := by omega
          clear h42 e1
          go_wp2_with fail
          refine (ahead_is p j s _ true _ (HC.out.drewN _) (by omega) H42.out).mono ?_; rintro e w' ⟨rfl, n3, rfl⟩
          by_cases hd8 : d = 1
          · have HBB := Lib.hid (show R = some ((bytes s).drop (j + 2)) by rw [← HB.out, HE.out, if_pos hd8])
            have hde : ((d : Int) - 1 == 0) = true := by simp; omega
            clear hd8
            go_wp2_with fail
            rw [Exit.noGoto_normal]
            go_end0
            obtain ⟨a1, a2⟩ := cur_step (n := n1 + n2 + n3) (z := (j : Int) + 2) (j := j + 2) HC.out HG.out (by omega)
            rw [HBB.out]
            exact Opt.some ⟨rfl, by rw [List.length_drop, HLL.out, show s.size - (s.size - (j + 2)) = j + 2 by omega]; exact a1, a2⟩
          · have HBB := Lib.hid (show bk ((bytes s).drop (j + 2)) (d - 1) = R by rw [← HB.out, HE.out, if_neg hd8])
            have hde : ((d : Int) - 1 == 0) = false := by simp; omega
            have HD8 := Lib.hid hd8
            clear hd8
            go_wp2_with fail
            go_roundg (s.size - (j + 2))
            case measure => have := HGK.out; omega
            case rel =>
              obtain ⟨a1, a2⟩ := cur_step (n := n1 + n2 + n3) (z := (j : Int) + 2) (j := j + 2) HC.out HG.out (by omega)
              exact ⟨j + 2, d - 1, e2, rfl, by congr 1; omega, by omega, a1, a2, HBB.out, fun h => by have := HD8.out; omega⟩
        | false =>
          have HBB := Lib.hid (show bk ((bytes s).drop (j + 1)) d = R by rw [← HB.out, HDC.out]; exact (bk_on (by rw [← HDC.out]; exact H47.out) (by rw [← HDC.out]; exact h42)).symm)
          have H42 := Lib.hid h42
          have e3 : (j : Int) + 1 ≤ s.size := by omega
          clear h42
          go_wp2_with fail
          refine (ahead_is p j s _ false _ (HC.out.drewN _) (by omega) H42.out).mono ?_; rintro e w' ⟨rfl, n3, rfl⟩
          go_wp2_with fail
          go_roundg (s.size - (j + 1))
          case measure => have := HGK.out; omega
          case rel =>
            obtain ⟨a1, a2⟩ := cur_step (n := n1 + n2 + n3) (z := (j : Int) + 1) (j := j + 1) HC.out HG.out (by omega)
            exact ⟨j + 1, d, by omega, rfl, rfl, hd, a1, a2, HBB.out, fun h => by omega⟩
    · obtain rfl : j = s.size := by omega
      have HBB := Lib.hid (show R = none by rw [← HB.out, List.drop_eq_nil_of_le (by rw [HLL.out]; omega)]; rfl)
      go_wp2_with fail
      refine (more_no p _ s _ HC.out (by omega)).mono ?_; rintro e w' ⟨rfl, n1, rfl⟩
      go_wp2_with fail
      refine (demand_false _).mono ?_; rintro e w' ⟨rfl, rfl⟩
      go_wp2_with fail
      exact ⟨rfl, by rw [HBB.out]; exact Opt.none (stuck_mk HC.out HG.out)⟩

theorem quiet_more {P : Program} {f : FuncId} {args : Array Value} {w : World} {a n : Nat} {v : Value} (h : ∀ W : World, Calls P f args W fun e w' => e = .returned v ∧ w' = W) : Calls P f args (w.drewN (a + n)) fun e w'' => e = .returned v ∧ ∃ m, w'' = w.drewN (a + m) := (h _).mono fun _ _ ⟨he, hm⟩ => ⟨he, n, hm⟩

theorem sk_blank {a : UInt8} {r : Bs} (h : blank a = true) : sk (a :: r) 0 = sk r 0 := by
  rw [sk.eq_def (a :: r) 0]
  cases r <;> simp [h]
theorem sk_line_on {a : UInt8} {r : Bs} (h : ¬ a = 10) : sk (a :: r) 1 = sk r 1 := by
  show (if a = 10 then sk r 0 else sk r 1) = _
  rw [if_neg h]
theorem sk_dash {l : Bs} {i : Nat} (h : l.drop i = 45 :: 45 :: l.drop (i + 2)) : sk (l.drop i) 0 = sk ((l.drop i).dropWhile (· != 10)) 0 := by
  rw [← sk_line, h, sk_line_on (by decide), sk_line_on (by decide)]
  conv => lhs; rw [sk, if_neg (by decide)]
  show (if (45 : UInt8) = 45 ∧ (45 : UInt8) = 45 then _ else _) = _
  rw [if_pos ⟨rfl, rfl⟩]
theorem sk_open {l : Bs} {i : Nat} (h : l.drop i = 47 :: 42 :: l.drop (i + 2)) : sk (l.drop i) 0 = (bk (l.drop i) 0).bind (sk · 0) := by
  rw [bk_open h, if_pos (by decide), h, sk, if_neg (by decide)]
  show (if (47 : UInt8) = 45 ∧ (42 : UInt8) = 45 then _ else if (47 : UInt8) = 47 ∧ (42 : UInt8) = 42 then _ else _) = _
  rw [if_neg (by decide), if_pos ⟨rfl, rfl⟩]
  exact sk_bk _ _ 1 (Nat.le_refl _) (Nat.le_refl _)
theorem sk_here {x : UInt8} {r : Bs} (h0 : blank x = false) (h1 : [45, 45].isPrefixOf (x :: r) = false) (h2 : [47, 42].isPrefixOf (x :: r) = false) : sk (x :: r) 0 = some (x :: r) := by
  have h1 := not_two h1
  have h2 := not_two h2
  match r with
  | [] => rw [sk, if_neg (by rw [h0]; simp)]
  | y :: r =>
    rw [sk, if_neg (by rw [h0]; simp)]
    show (if x = 45 ∧ y = 45 then _ else if x = 47 ∧ y = 42 then _ else _) = _
    rw [if_neg (fun e => h1 ⟨e.1, by rw [e.2]; rfl⟩), if_neg (fun e => h2 ⟨e.1, by rw [e.2]; rfl⟩)]

theorem drop_back {s : ByteArray} {r : Bs} {k j : Nat} (hr : r = ((bytes s).drop j).drop k) (hk : k ≤ ((bytes s).drop j).length) (hj : j ≤ s.size) : s.size - r.length = j + k ∧ (bytes s).drop (s.size - r.length) = r ∧ j + k ≤ s.size := by
  have hl := bytes_len s
  rw [List.length_drop, hl] at hk
  have e : s.size - r.length = j + k := by rw [hr, List.length_drop, List.length_drop, hl]; omega
  exact ⟨e, by rw [e, hr, List.drop_drop], by omega⟩

theorem line_back (l : Bs) : ∃ k, l.dropWhile (· != 10) = l.drop k ∧ k ≤ l.length := by
  rcases idx_line l with ⟨_, h2⟩ | ⟨k, _, h2, h3⟩
  · exact ⟨l.length, by rw [h2, List.drop_length], Nat.le_refl _⟩
  · exact ⟨k, h3, h2⟩

set_option maxRecDepth 100000 in
set_option maxHeartbeats 4000000 in
theorem skip_any (p i : Nat) (s : ByteArray) (w : World) (h : Cur w p s i) (hi : i ≤ s.size) (hs : s.size ≤ 2000) :
    Calls Tryd.prog 57 #[.pointer (some ⟨p, 0, none⟩)] w (Opt p s w (sk ((bytes s).drop i) 0)) := by
  obtain ⟨R, hR⟩ : ∃ R, R = sk ((bytes s).drop i) 0 := ⟨_, rfl⟩
  rw [← hR]
  have H := Lib.hid h; have HR := Lib.hid hR
  have HLL := Lib.hid (bytes_len s)
  clear h hR
  go_enter Tryd.func57, Tryd.ntmps57
  go_wp2_with fail
  go_loopg [4] (s.size - i) (fun g v wr => ∃ j : Nat, j ≤ s.size ∧ g = s.size - j ∧ Cur wr p s j ∧ w.grownBy wr (some p) ∧ sk ((bytes s).drop j) 0 = R)
  case atStart => exact ⟨i, hi, rfl, H.out, grow_refl _ _, HR.out.symm⟩
  case round =>
    obtain ⟨j, hj, hg, hC, hG, hB⟩ := hrel
    obtain ⟨c0, c1, f1⟩ := hC.cell
    have HC := Lib.hid hC; have HG := Lib.hid hG; have HB := Lib.hid hB; have HGK := Lib.hid hg
    clear hC hG hB hg
    by_cases hlt : j < s.size
    · have HDC := Lib.hid (drop_cons hlt)
      have HPB := Lib.hid (pb_at s j hlt)
      have hlt' : (j : Int) < s.size := by omega
      go_wp2_with fail
      refine (more_yes p j s _ HC.out hlt).mono ?_; rintro e w' ⟨rfl, n1, rfl⟩
      obtain ⟨x, hx⟩ : ∃ x, x = indexByte [32, 9, 10, 13] (UInt8.ofNat (pb s j)) := ⟨_, rfl⟩
      have HI := Lib.hid (show ∀ W : World, Calls Tryd.prog 56 #[.string ⟨#[32, 9, 10, 13]⟩, .int .u8 ((s[j]'hlt).toNat : Nat)] W fun e w' => e = .returned (.int .i64 x) ∧ w' = W from by
        intro W; rw [pb_at s j hlt, hx]
        have := Tryd.strings_IndexByte ⟨#[32, 9, 10, 13]⟩ (pb s j : Nat) W
        rwa [Int.toNat_natCast] at this)
      have hbi := blank_idx (pb s j)
      rw [← hx] at hbi
      clear hx
      cases hbl : blank (UInt8.ofNat (pb s j)) with
      | true =>
        have hd : decide ((0 : Int) ≤ x) = true := decide_eq_true (hbi.2 hbl)
        have HBB := Lib.hid (show sk ((bytes s).drop (j + 1)) 0 = R by rw [← HB.out, HDC.out, sk_blank hbl])
        have hj1 : (j : Int) + 1 ≤ s.size := by omega
        clear hbi hbl
        go_wp2_with fail
        go_quiet ((go_at_call 56; exact quiet_more HI.out))
        go_wp2_with fail
        go_roundg (s.size - (j + 1))
        case measure => have := HGK.out; omega
        case rel =>
          obtain ⟨a1, a2⟩ := cur_step (n := n1 + nq) (z := (j : Int) + 1) (j := j + 1) HC.out HG.out (by omega)
          exact ⟨j + 1, by omega, rfl, a1, a2, HBB.out⟩
      | false =>
        have hd : decide ((0 : Int) ≤ x) = false := decide_eq_false (fun h => by rw [hbi.1 h] at hbl; cases hbl)
        have HBL := Lib.hid hbl
        clear hbi hbl
        go_wp2_with fail
        go_quiet ((go_at_call 56; exact quiet_more HI.out))
        go_wp2_with fail
        cases h45 : [45, 45].isPrefixOf ((bytes s).drop j) with
        | true =>
          obtain ⟨e1, e2⟩ := ahead_two h45
          have HE := Lib.hid (sk_dash e1)
          have H45 := Lib.hid h45
          obtain ⟨k, hk1, hk2⟩ := line_back ((bytes s).drop j)
          obtain ⟨r, hr⟩ : ∃ r, r = ((bytes s).drop j).dropWhile (· != 10) := ⟨_, rfl⟩
          rw [← hr] at hk1 HE
          obtain ⟨b1, b2, b3⟩ := drop_back hk1 hk2 hj
          have hk0 : 1 ≤ k := by
            rcases Nat.eq_zero_or_pos k with h0 | h0
            · subst h0
              rw [hk1, List.drop_zero, e1, List.dropWhile_cons_of_pos (by decide), List.dropWhile_cons_of_pos (by decide)] at hr
              have := congrArg List.length hr
              have h3 := (List.dropWhile_suffix (fun x : UInt8 => x != 10) (l := (bytes s).drop (j + 2))).length_le
              simp only [List.length_cons] at this
              omega
            · exact h0
          have HJ := Lib.hid b1
          have HBB := Lib.hid (show sk ((bytes s).drop (j + k)) 0 = R by rw [← HB.out, HE.out, ← b2, b1])
          have HLI := Lib.hid (fun W (hW : Cur W p s j) => line_any p j s W hW hj hs)
          rw [← hr, b1] at HLI
          clear h45 e1 e2 hk1 hk2 hr b1 b2
          refine (ahead_is p j s _ true _ (HC.out.drewN _) hj H45.out).mono ?_; rintro e w' ⟨rfl, n2, rfl⟩
          go_wp2_with fail
          refine (HLI.out _ (HC.out.drewN _)).mono ?_; rintro e w4 ⟨rfl, hC4, hG4⟩
          have HC4 := Lib.hid hC4; have HG4 := Lib.hid (grow_trans HG.out (grow_trans (grow_drewN _ _ _) hG4))
          clear hC4 hG4
          go_wp2_with fail
          go_roundg (s.size - (j + k))
          case measure => have := HGK.out; omega
          case rel => exact ⟨j + k, b3, rfl, HC4.out, HG4.out, HBB.out⟩
        | false =>
          have H45 := Lib.hid h45
          clear h45
          refine (ahead_is p j s _ false _ (HC.out.drewN _) hj H45.out).mono ?_; rintro e w' ⟨rfl, n2, rfl⟩
          go_wp2_with fail
          cases h47 : [47, 42].isPrefixOf ((bytes s).drop j) with
          | true =>
            obtain ⟨e1, _⟩ := ahead_two h47
            have HE := Lib.hid (sk_open e1)
            have H47 := Lib.hid h47
            clear h47 e1
            refine (ahead_is p j s _ true _ (HC.out.drewN _) hj H47.out).mono ?_; rintro e w' ⟨rfl, n3, rfl⟩
            go_wp2_with fail
            refine (block_any p j s _ (HC.out.drewN _) hj hs H47.out).mono ?_; rintro e w4 ⟨hS, hN⟩
            cases hb : bk ((bytes s).drop j) 0 with
            | none =>
              obtain ⟨rfl, ⟨j4, hC4⟩, hG4⟩ := hN hb
              have HBB := Lib.hid (show R = none by rw [← HB.out, HE.out, hb]; rfl)
              have HC4 := Lib.hid hC4; have HG4 := Lib.hid (grow_trans HG.out (grow_trans (grow_drewN _ _ _) hG4))
              clear hC4 hG4 hS hN hb
              go_wp2_with fail
              exact ⟨rfl, by rw [HBB.out]; exact Opt.none ⟨rfl, ⟨_, HC4.out⟩, HG4.out⟩⟩
            | some r =>
              obtain ⟨rfl, hC4, hG4⟩ := hS r hb
              obtain ⟨k, hk0, hk1, hk2⟩ := bk_sub _ _ _ _ (Nat.le_refl _) hb
              obtain ⟨b1, b2, b3⟩ := drop_back hk1 hk2 hj
              rw [b1] at hC4
              have HBB := Lib.hid (show sk ((bytes s).drop (j + k)) 0 = R by rw [← HB.out, HE.out, hb, ← b1, b2]; rfl)
              have HC4 := Lib.hid hC4; have HG4 := Lib.hid (grow_trans HG.out (grow_trans (grow_drewN _ _ _) hG4))
              clear hC4 hG4 hS hN hb hk1 hk2 b1 b2
              go_wp2_with fail
              go_roundg (s.size - (j + k))
              case measure => have := HGK.out; omega
              case rel => exact ⟨j + k, b3, rfl, HC4.out, HG4.out, HBB.out⟩
          | false =>
            have HBB := Lib.hid (show R = some ((bytes s).drop j) by rw [← HB.out, HDC.out]; exact sk_here HBL.out (by rw [← HDC.out]; exact H45.out) (by rw [← HDC.out]; exact h47))
            have H47 := Lib.hid h47
            clear h47
            refine (ahead_is p j s _ false _ (HC.out.drewN _) hj H47.out).mono ?_; rintro e w' ⟨rfl, n3, rfl⟩
            go_wp2_with fail
            go_end0
            rw [HBB.out]
            exact Opt.some ⟨rfl, by rw [List.length_drop, HLL.out, show s.size - (s.size - j) = j by omega]; exact HC.out, grow_trans HG.out (grow_drewN _ _ _)⟩
    · obtain rfl : j = s.size := by omega
      have HBB := Lib.hid (show R = some [] by rw [← HB.out, List.drop_eq_nil_of_le (by rw [HLL.out]; omega)]; rfl)
      go_wp2_with fail
      refine (more_no p _ s _ HC.out (by omega)).mono ?_; rintro e w' ⟨rfl, n1, rfl⟩
      go_wp2_with fail
      go_end0
      rw [HBB.out]
      exact Opt.some ⟨rfl, HC.out, grow_trans HG.out (grow_drewN _ _ _)⟩
end Go.Proofs.YtgopajddloeclaaDoor
