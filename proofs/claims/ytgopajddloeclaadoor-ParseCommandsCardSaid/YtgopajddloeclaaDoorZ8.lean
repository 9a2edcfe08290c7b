/- Contracts and mathematics: Tag. -/
import Derived.Test.YtgopajddloeclaaDoorZ5
import Derived.Test.YtgopajddloeclaaDoorZ7
namespace Go.Proofs.YtgopajddloeclaaDoor
open Go.RowKit Go.Lib Go.WideShapes

def wd (c : UInt8) : Bool := bw c || dg c

/-- How many of a tag's letters are still to come, behind the first k. -/
def rem (s : ByteArray) (i k : Nat) : Nat := if k = 0 then (tagBody ((bytes s).drop (i + 1))).length else (((bytes s).drop (i + 1 + k)).takeWhile wd).length

theorem wdN (s : ByteArray) (j : Nat) : wd (UInt8.ofNat (pb s j)) = (bwN (pb s j) || dgN (pb s j)) := rfl

theorem bwN_lt {s : ByteArray} {j : Nat} (h : bwN (pb s j) = true) : j < s.size := by
  by_cases hlt : j < s.size
  · exact hlt
  · rw [pb_out s j (by omega)] at h; exact absurd h (by decide)

theorem rem_zero_on {s : ByteArray} {i : Nat} (h : bwN (pb s (i + 1)) = true) : rem s i 0 = 1 + rem s i 1 := by
  have hlt := bwN_lt h
  unfold rem
  rw [if_pos rfl, if_neg (by decide), drop_cons hlt, tagBody, if_pos (show bw (UInt8.ofNat (pb s (i + 1))) = true from h), List.length_cons]
  show (List.takeWhile wd _).length + 1 = _
  omega
theorem rem_zero_off {s : ByteArray} {i : Nat} (h : bwN (pb s (i + 1)) = false) : rem s i 0 = 0 := by
  unfold rem
  rw [if_pos rfl]
  by_cases hlt : i + 1 < s.size
  · rw [drop_cons hlt, tagBody, if_neg (by show ¬ bwN _ = true; rw [h]; simp)]; rfl
  · rw [List.drop_eq_nil_of_le (by rw [bytes_len]; omega)]; rfl
theorem rem_on {s : ByteArray} {i k : Nat} (hk : 0 < k) (h : wd (UInt8.ofNat (pb s (i + 1 + k))) = true) (hlt : i + 1 + k < s.size) : rem s i k = 1 + rem s i (k + 1) := by
  unfold rem
  rw [if_neg (by omega), if_neg (by omega), drop_cons hlt, List.takeWhile_cons_of_pos h, List.length_cons]
  show _ = 1 + (List.takeWhile wd (List.drop (i + 1 + (k + 1)) (bytes s))).length
  rw [show i + 1 + (k + 1) = i + 1 + k + 1 by omega]; omega
theorem rem_off {s : ByteArray} {i k : Nat} (hk : 0 < k) (h : wd (UInt8.ofNat (pb s (i + 1 + k))) = false) : rem s i k = 0 := by
  unfold rem
  rw [if_neg (by omega)]
  by_cases hlt : i + 1 + k < s.size
  · rw [drop_cons hlt, List.takeWhile_cons_of_neg (by rw [h]; simp)]; rfl
  · rw [List.drop_eq_nil_of_le (by rw [bytes_len]; omega)]; rfl

theorem head_some {s : ByteArray} {j : Nat} (c : Nat) (hc : 0 < c ∧ c < 256) : ((bytes s).drop j).head? = some (UInt8.ofNat c) ↔ pb s j = c := by
  by_cases hlt : j < s.size
  · rw [drop_cons hlt, List.head?_cons, Option.some.injEq, ofNat_eq s j c hc.2]
  · rw [List.drop_eq_nil_of_le (by rw [bytes_len]; omega), pb_out s j (by omega)]
    constructor
    · intro h; cases h
    · intro h; omega

theorem tagOf_some {s : ByteArray} {i : Nat} (h0 : pb s i = 36) (h : pb s (i + 1 + rem s i 0) = 36) : ∃ t, tagOf ((bytes s).drop i) = some t ∧ t.length = rem s i 0 + 2 := by
  have hlt : i < s.size := by
    by_cases hlt : i < s.size
    · exact hlt
    · rw [pb_out s i (by omega)] at h0; omega
  refine ⟨36 :: (tagBody ((bytes s).drop (i + 1)) ++ [36]), ?_, by simp [rem]⟩
  rw [drop_cons hlt, tagOf, if_pos]
  refine ⟨(ofNat_eq s i 36 (by decide)).2 h0, ?_⟩
  rw [List.drop_drop]
  exact (head_some 36 (by decide)).2 h

theorem tagOf_none {s : ByteArray} {i : Nat} (h : ¬ (pb s i = 36 ∧ pb s (i + 1 + rem s i 0) = 36)) : tagOf ((bytes s).drop i) = none := by
  by_cases hlt : i < s.size
  · rw [drop_cons hlt, tagOf, if_neg]
    rintro ⟨e1, e2⟩
    refine h ⟨(ofNat_eq s i 36 (by decide)).1 e1, ?_⟩
    rw [List.drop_drop] at e2
    exact (head_some 36 (by decide)).1 e2
  · rw [List.drop_eq_nil_of_le (by rw [bytes_len]; omega)]; rfl

/-- The tag is told. -/
def OptT (p i : Nat) (s : ByteArray) (w : World) (R : Option Bs) (e : Ending) (w' : World) : Prop := (∀ t, R = some t → e = .returned (.string (s.extract i (i + t.length)))) ∧ (R = none → e = .returned (.string { data := #[] })) ∧ Cur w' p s i ∧ w.grownBy w' (some p)

theorem optT_none {p i : Nat} {s : ByteArray} {w w' : World} {R : Option Bs} (hR : R = none) (h : Cur w' p s i) (hg : w.grownBy w' (some p)) : OptT p i s w R (.returned (.string { data := #[] })) w' := ⟨fun t ht => (by rw [hR] at ht; cases ht), fun _ => rfl, h, hg⟩

theorem optT_some {p i m n : Nat} {s : ByteArray} {w w' : World} {R : Option Bs} {t : Bs} (hR : R = some t) (hm : m = i + t.length) (h : Cur w' p s i) (hg : w.grownBy w' (some p)) : OptT p i s w R (.returned (.string (s.extract i m))) (w'.drewN n) := by
  subst hm
  exact ⟨fun t' ht => (by rw [hR] at ht; cases ht; rfl), fun hn => (by rw [hR] at hn; cases hn), h, grow_trans hg (grow_drewN _ _ _)⟩

set_option maxRecDepth 100000 in
set_option maxHeartbeats 2000000 in
theorem tag_any (p i : Nat) (s : ByteArray) (w : World) (h : Cur w p s i) (hi : i ≤ s.size) (hs : s.size ≤ 2000) :
    Calls Tryd.prog 88 #[.pointer (some ⟨p, 0, none⟩)] w (OptT p i s w (tagOf ((bytes s).drop i))) := by
  have H := Lib.hid h
  have hx0 := pb_lt s i
  have HP0 := Lib.hid (peek_at p i 0 s w w h (grow_refl _ _) hs (by omega))
  rw [Nat.add_zero] at HP0
  obtain ⟨x0, hx⟩ : ∃ x, x = pb s i := ⟨_, rfl⟩
  rw [← hx] at hx0 HP0
  have HX0 := Lib.hid hx
  clear h hx
  go_enter Tryd.func88, Tryd.ntmps88
  by_cases h36 : x0 = 36
  · have hz : ((x0 : Int) != 36) = false := by simp; omega
    have H36 := Lib.hid (HX0.out.symm.trans h36)
    clear h36
    go_wp2_with fail
    refine HP0.out.mono ?_; rintro e w1 ⟨rfl, hC1, hG1⟩
    have HC1 := Lib.hid hC1; have HG1 := Lib.hid hG1
    clear hC1 hG1 HP0
    go_wp2_with fail
    go_loopg [3] (s.size - i) (fun g v wr => ∃ k : Nat, i + k ≤ s.size ∧ g = s.size - (i + k) ∧ v = .int .i64 (k + 1 : Nat) ∧ Cur wr p s i ∧ w.grownBy wr (some p) ∧ k + rem s i k = rem s i 0)
    case atStart => exact ⟨0, by omega, by omega, rfl, HC1.out, HG1.out, by omega⟩
    case round =>
      obtain ⟨k, hik, hg, rfl, hC, hG, hB⟩ := hrel
      have HC := Lib.hid hC; have HG := Lib.hid hG; have HGK := Lib.hid hg
      clear hC hG hg HC1 HG1
      have hx8 := pb_lt s (i + (k + 1))
      have hlt : ∀ c, pb s (i + (k + 1)) = c → 0 < c → i + (k + 1) < s.size := by
        intro c h h0
        by_cases hlt : i + (k + 1) < s.size
        · exact hlt
        · rw [pb_out s _ (by omega)] at h; omega
      have hon : (k = 0 ∧ bwN (pb s (i + (k + 1))) = true) ∨ (0 < k ∧ (bwN (pb s (i + (k + 1))) || dgN (pb s (i + (k + 1)))) = true) → i + (k + 1) < s.size ∧ (k + 1) + rem s i (k + 1) = rem s i 0 := by
        rintro (⟨rfl, h⟩ | ⟨h0, h⟩)
        · rw [Nat.zero_add] at h ⊢
          have := rem_zero_on h
          exact ⟨bwN_lt h, by omega⟩
        · have hl : i + (k + 1) < s.size := by
            by_cases hlt : i + (k + 1) < s.size
            · exact hlt
            · rw [pb_out s _ (by omega)] at h; exact absurd h (by decide)
          have := rem_on (s := s) (i := i) h0 (by rw [wdN, show i + 1 + k = i + (k + 1) by omega]; exact h) (by omega)
          exact ⟨hl, by omega⟩
      have hoff : (k = 0 ∧ bwN (pb s (i + (k + 1))) = false) ∨ (0 < k ∧ (bwN (pb s (i + (k + 1))) || dgN (pb s (i + (k + 1)))) = false) → k = rem s i 0 := by
        rintro (⟨rfl, h⟩ | ⟨h0, h⟩)
        · exact (rem_zero_off (by simpa using h)).symm
        · have := rem_off (s := s) (i := i) h0 (by rw [wdN, show i + 1 + k = i + (k + 1) by omega]; exact h)
          omega
      have hso : k = rem s i 0 → pb s (i + (k + 1)) = 36 → ∃ t, tagOf ((bytes s).drop i) = some t ∧ t.length = k + 2 := by
        intro h1 h2
        obtain ⟨t, a, b⟩ := tagOf_some H36.out (show pb s (i + 1 + rem s i 0) = 36 by rw [← h1, show i + 1 + k = i + (k + 1) by omega]; exact h2)
        exact ⟨t, a, by omega⟩
      have hno : k = rem s i 0 → ¬ pb s (i + (k + 1)) = 36 → tagOf ((bytes s).drop i) = none := by
        intro h1 h2
        refine tagOf_none fun e => h2 ?_
        rw [← e.2, ← h1, show i + 1 + k = i + (k + 1) by omega]
      have hpk := fun (W : World) (h1 : Cur W p s i) (h2 : w.grownBy W (some p)) => peek_at p i (k + 1) s w W h1 h2 hs (by omega)
      obtain ⟨x, hx⟩ : ∃ x, x = pb s (i + (k + 1)) := ⟨_, rfl⟩
      rw [← hx] at hx8 hlt hon hoff hso hno
      simp only [← hx] at hpk
      have HON := Lib.hid hon; have HOFF := Lib.hid hoff; have HSO0 := Lib.hid hso; have HNO0 := Lib.hid hno; have HP := Lib.hid hpk; have HLT := Lib.hid (fun h : 0 < x => hlt x rfl h)
      have HB := Lib.hid hB
      clear hx hon hoff hso hno hpk hlt hB
      go_wp2_with fail
      refine (HP.out _ HC.out HG.out).mono ?_; rintro e w2 ⟨rfl, hC2, hG2⟩
      have HC2 := Lib.hid hC2; have HG2 := Lib.hid hG2
      clear hC2 hG2 HC HG
      go_wp2_with fail
      refine (begins_any x _ hx8).mono ?_; rintro e w' ⟨rfl, rfl⟩
      cases hb : bwN x with
      | true =>
        have HOK := Lib.hid (show (k = 0 ∧ bwN x = true) ∨ (0 < k ∧ (bwN x || dgN x) = true) by
          rcases Nat.eq_zero_or_pos k with h | h
          · exact .inl ⟨h, hb⟩
          · exact .inr ⟨h, by rw [hb]; rfl⟩)
        clear hb
        go_wp2_with fail
        go_roundg (s.size - (i + (k + 1)))
        case measure => have := HGK.out; have := (HON.out (HOK.out)).1; omega
        case rel =>
          obtain ⟨b1, b2⟩ := HON.out (HOK.out)
          exact ⟨k + 1, by omega, rfl, by go_num, HC2.out, HG2.out, b2⟩
      | false =>
        rcases Nat.eq_zero_or_pos k with hk0 | hk0
        · subst hk0
          have HSO := Lib.hid (HSO0.out (HOFF.out (.inl ⟨rfl, hb⟩))); have HNO := Lib.hid (HNO0.out (HOFF.out (.inl ⟨rfl, hb⟩)))
          clear hb HSO0 HNO0
          go_wp2_with fail
          refine (HP.out _ HC2.out HG2.out).mono ?_; rintro e w9 ⟨rfl, hC9, hG9⟩
          have HC9 := Lib.hid hC9; have HG9 := Lib.hid hG9
          obtain ⟨c0, c1, _⟩ := hC9.cell
          clear hC9 hG9
          by_cases hx36 : x = 36
          · have hz : ((x : Int) != 36) = false := by simp; omega
            obtain ⟨t, ht1, ht2⟩ := HSO.out hx36
            have HT1 := Lib.hid ht1; have HT2 := Lib.hid ht2
            have hb : (i : Int) + (0 + 1 : Nat) + 1 ≤ s.size := by have := HLT.out (by omega); omega
            have q1 : (0 : Int) ≤ i := by omega
            have q2 : (i : Int) ≤ (i : Int) + (0 + 1 : Nat) + 1 := by omega
            clear ht1 ht2 hx36
            go_wp2_with fail
            go_quiet (fail)
            go_wp2_with fail
            go_ret
            exact optT_some HT1.out (by have := HT2.out; omega) HC9.out HG9.out
          · have hz : ((x : Int) != 36) = true := by simp; omega
            have HN := Lib.hid (HNO.out hx36)
            clear hx36
            go_wp2_with fail
            go_ret
            exact optT_none HN.out HC9.out HG9.out
        · have hk1 : (0 : Int) < k := by omega
          go_wp2_with fail
          refine (HP.out _ HC2.out HG2.out).mono ?_; rintro e w3 ⟨rfl, hC3, hG3⟩
          have HC3 := Lib.hid hC3; have HG3 := Lib.hid hG3
          clear hC3 hG3 HC2 HG2
          go_wp2_with fail
          refine (digit_any x _ hx8).mono ?_; rintro e w' ⟨rfl, rfl⟩
          cases hd : dgN x with
          | true =>
            have HOK := Lib.hid (show (k = 0 ∧ bwN x = true) ∨ (0 < k ∧ (bwN x || dgN x) = true) from .inr ⟨hk0, by rw [hb, hd]; rfl⟩)
            clear hb hd
            go_wp2_with fail
            go_roundg (s.size - (i + (k + 1)))
            case measure => have := HGK.out; have := (HON.out (HOK.out)).1; omega
            case rel =>
              obtain ⟨b1, b2⟩ := HON.out (HOK.out)
              exact ⟨k + 1, by omega, rfl, by go_num, HC3.out, HG3.out, b2⟩
          | false =>
            have HSO := Lib.hid (HSO0.out (HOFF.out (.inr ⟨hk0, by rw [hb, hd]; rfl⟩))); have HNO := Lib.hid (HNO0.out (HOFF.out (.inr ⟨hk0, by rw [hb, hd]; rfl⟩)))
            clear hb hd HSO0 HNO0
            go_wp2_with fail
            refine (HP.out _ HC3.out HG3.out).mono ?_; rintro e w9 ⟨rfl, hC9, hG9⟩
            have HC9 := Lib.hid hC9; have HG9 := Lib.hid hG9
            obtain ⟨c0, c1, _⟩ := hC9.cell
            clear hC9 hG9
            by_cases hx36 : x = 36
            · have hz : ((x : Int) != 36) = false := by simp; omega
              obtain ⟨t, ht1, ht2⟩ := HSO.out hx36
              have HT1 := Lib.hid ht1; have HT2 := Lib.hid ht2
              have hb : (i : Int) + (k + 1 : Nat) + 1 ≤ s.size := by have := HLT.out (by omega); omega
              have q1 : (0 : Int) ≤ i := by omega
              have q2 : (i : Int) ≤ (i : Int) + (k + 1 : Nat) + 1 := by omega
              clear ht1 ht2 hx36
              go_wp2_with fail
              go_quiet (fail)
              go_wp2_with fail
              go_ret
              exact optT_some HT1.out (by have := HT2.out; omega) HC9.out HG9.out
            · have hz : ((x : Int) != 36) = true := by simp; omega
              have HN := Lib.hid (HNO.out hx36)
              clear hx36
              go_wp2_with fail
              go_ret
              exact optT_none HN.out HC9.out HG9.out
  · have hz : ((x0 : Int) != 36) = true := by simp; omega
    have HN := Lib.hid (tagOf_none (s := s) (i := i) (by rw [← HX0.out]; exact fun e => h36 e.1))
    clear h36
    go_wp2_with fail
    refine HP0.out.mono ?_; rintro e w1 ⟨rfl, hC1, hG1⟩
    have HC1 := Lib.hid hC1; have HG1 := Lib.hid hG1
    clear hC1 hG1
    go_wp2_with fail
    go_ret
    exact optT_none HN.out HC1.out HG1.out

theorem find_index (t : Bs) : ∀ l : Bs, (find t l = none ∧ Lib.index l t = -1) ∨ ∃ n : Nat, find t l = some n ∧ Lib.index l t = n ∧ n + t.length ≤ l.length := by
  intro l
  induction l with
  | nil =>
    rw [find, Lib.index]
    by_cases h : t = []
    · subst h; exact .inr ⟨0, rfl, rfl, by simp⟩
    · rw [if_neg h, if_neg (by cases t <;> simp_all)]; exact .inl ⟨rfl, rfl⟩
  | cons a r ih =>
    rw [find, Lib.index]
    by_cases h : t.isPrefixOf (a :: r) = true
    · rw [if_pos h, if_pos h]
      exact .inr ⟨0, rfl, rfl, by rw [Nat.zero_add]; exact (List.isPrefixOf_iff_prefix.1 h).length_le⟩
    · rw [if_neg h, if_neg h]
      rcases ih with ⟨h1, h2⟩ | ⟨n, h1, h2, h3⟩
      · left; rw [h1, h2]; exact ⟨rfl, rfl⟩
      · right
        refine ⟨n + 1, by rw [h1]; rfl, ?_, by simp; omega⟩
        rw [h2, if_neg (by first | (simp; done) | (simp; omega))]; simp

theorem extract_eq (s : ByteArray) (a b : Nat) : s.extract a b = ⟨(((bytes s).drop a).take (b - a)).toArray⟩ := by
  apply ByteArray.ext
  apply Array.toList_inj.1
  rw [Lib.extract_data]

set_option maxRecDepth 100000 in
set_option maxHeartbeats 2000000 in
theorem tagged_any (p i : Nat) (m : Int) (s tg : ByteArray) (w : World) (h : Cur w p s i) (hi : i + tg.size ≤ s.size) (hs : s.size ≤ 2000) (hm : w.cell? ⟨2, 0, none⟩ = some (.int .i64 m)) :
    Calls Tryd.prog 89 #[.pointer (some ⟨p, 0, none⟩), .string tg] w (OptQ p s w ((find (bytes tg) ((bytes s).drop (i + tg.size))).map fun n => (((bytes s).drop (i + tg.size)).take n, ((bytes s).drop (i + tg.size)).drop (n + tg.size)))) := by
  obtain ⟨c0, c1, f1⟩ := h.cell
  have H := Lib.hid h
  have hll := bytes_len s
  have htl := bytes_len tg
  have hxs : (s.extract (i + tg.size) s.size).size < 4294967281 := by
    rw [ByteArray.size_extract]; omega
  have hI := Tryd.strings_Index (s.extract (i + tg.size) s.size) tg m w hxs hm
  rw [Lib.extract_to_end] at hI
  have hi' : (i : Int) + tg.size ≤ s.size := by omega
  have q1 : (0 : Int) ≤ (i : Int) + tg.size := by omega
  have q2 : ((i : Int) + tg.size).toNat = i + tg.size := by omega
  rcases find_index (bytes tg) ((bytes s).drop (i + tg.size)) with ⟨h1, h2⟩ | ⟨n, h1, h2, h3⟩
  · have h2 : Lib.index (List.drop (i + tg.size) s.data.toList) tg.data.toList = -1 := h2
    rw [h2] at hI
    have HI := Lib.hid hI
    have HF := Lib.hid h1
    clear h h1 h2 hI hll htl hxs hm
    go_enter Tryd.func89, Tryd.ntmps89
    go_wp2_with fail
    refine HI.out.mono ?_; rintro e w' ⟨rfl, rfl⟩
    go_wp2_with fail
    refine (demand_false _).mono ?_; rintro e w' ⟨rfl, rfl⟩
    go_wp2_with fail
    exact ⟨rfl, by rw [HF.out]; exact OptQ.none ⟨rfl, ⟨_, H.out⟩, grow_refl _ _⟩⟩
  · have h2 : Lib.index (List.drop (i + tg.size) s.data.toList) tg.data.toList = n := h2
    rw [h2] at hI
    have HI := Lib.hid hI
    have HF := Lib.hid h1
    have hn : i + tg.size + n + tg.size ≤ s.size := by rw [List.length_drop, hll, htl] at h3; omega
    have HV := Lib.hid (extract_eq s (i + tg.size) (i + tg.size + n))
    have HJ := Lib.hid (show s.size - (((bytes s).drop (i + tg.size)).drop (n + tg.size)).length = i + tg.size + n + tg.size by rw [List.length_drop, List.length_drop, hll]; omega)
    have q3 : (i : Int) + tg.size + n + tg.size ≤ s.size := by omega
    have q4 : (0 : Int) ≤ (i : Int) + tg.size + n := by omega
    have q5 : ((i : Int) + tg.size + n).toNat = i + tg.size + n := by omega
    clear h h1 h2 h3 hI hll htl hxs hm
    go_enter Tryd.func89, Tryd.ntmps89
    go_wp2_with fail
    refine HI.out.mono ?_; rintro e w' ⟨rfl, rfl⟩
    go_wp2_with fail
    refine (demand_true _).mono ?_; rintro e w' ⟨rfl, rfl⟩
    go_wp2_with fail
    go_ret
    obtain ⟨a1, a2⟩ := cur_step (n := 0) (w := w') (z := (i : Int) + tg.size + n + tg.size) (j := i + tg.size + n + tg.size) H.out (grow_refl _ _) (by omega)
    have hv := HV.out
    rw [show i + tg.size + n - (i + tg.size) = n by omega] at hv
    rw [HF.out]
    exact OptQ.some (t := ((bytes s).drop (i + tg.size)).take n) (r := ((bytes s).drop (i + tg.size)).drop (n + tg.size)) ⟨by rw [← hv]; rfl, by rw [HJ.out]; exact a1, a2⟩
end Go.Proofs.YtgopajddloeclaaDoor
