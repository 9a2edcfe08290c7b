/- The document's own writer: how many; a field of one number, of one text. -/
import Derived.Test.YtfdffiphlpeegaaEN
namespace Go.Proofs.Ytfdffiphlpeegaa
open Go.RowKit Go.Lib Go.WideShapes

theorem count_range {m : Int} (hm : 0 ≤ m) (s : XS) : 0 ≤ (xCount m s).1 ∧ (xCount m s).1 ≤ m := by
  unfold xCount
  split
  · assumption
  · exact ⟨Int.le_refl _, hm⟩
theorem xr_len (s : XS) : s.B.length ≤ xr s := by rw [xr_eq]; omega

set_option maxHeartbeats 4000000 in
theorem rcount_any (w0 w : World) (s : XS) (m : Int) (h : IsR w0 w s) :
    Calls Try.prog 32 #[.pointer (some ⟨w0.heap.size, 0, none⟩), .int .i64 m] w fun e w' => e = .returned (.int .i64 (xCount m s).1) ∧ IsR w0 w' (xCount m s).2 := by
  have HN := Lib.hid (rnum_any w0 w s h)
  unfold xCount
  clear h
  generalize xNum s = p at HN ⊢
  obtain ⟨n, s1⟩ := p
  by_cases hc : 0 ≤ n ∧ n ≤ m
  · have q1 : ¬ n < 0 := by omega
    have q2 : ¬ m < n := by omega
    have q2' : n ≤ m := hc.2
    simp only [if_pos hc]
    clear hc
    go_enter Try.func32, Try.ntmps32
    go_wp2_with fail
    refine HN.out.mono ?_; rintro e w1 ⟨rfl, hI⟩
    have HI := Lib.hid hI
    clear hI
    go_wp2_with fail
    go_ret
    exact ⟨rfl, HI.out⟩
  · simp only [if_neg hc]
    by_cases h1 : n < 0
    · clear hc
      go_enter Try.func32, Try.ntmps32
      go_wp2_with fail
      refine HN.out.mono ?_; rintro e w1 ⟨rfl, tv, nv, hW⟩
      have c3 := hW.c3
      have f3 := hW.f3
      have HP := Lib.hid (hW.put3 true)
      clear hW
      go_wp2_with fail
      go_ret
      exact ⟨rfl, _, _, HP.out⟩
    · have h2 : m < n := by omega
      clear hc
      go_enter Try.func32, Try.ntmps32
      go_wp2_with fail
      refine HN.out.mono ?_; rintro e w1 ⟨rfl, tv, nv, hW⟩
      have c3 := hW.c3
      have f3 := hW.f3
      have HP := Lib.hid (hW.put3 true)
      clear hW
      go_wp2_with fail
      go_ret
      exact ⟨rfl, _, _, HP.out⟩

set_option maxHeartbeats 4000000 in
theorem rfield_byte (w0 w : World) (s : XS) (hr : xr s ≤ 900000) (h : IsR w0 w s) :
    Calls Try.prog 19 #[.pointer (some ⟨w0.heap.size, 0, none⟩), .int .u8 98] w (ROut w0 (xNumF 0 255 1 s)) := by
  have HN := Lib.hid (rnum_any w0 w s h)
  have hx : (xNum s).2.B.length ≤ 1000000 := by
    have : (xNum s).2.B = s.B := by unfold xNum; split <;> rfl
    rw [this]
    have := xr_len s
    omega
  unfold xNumF
  clear h hr
  generalize xNum s = p at HN hx ⊢
  obtain ⟨n, s1⟩ := p
  have HL := Lib.hid hx
  clear hx
  go_enter Try.func19, Try.ntmps19
  go_wp2_with fail
  refine HN.out.mono ?_; rintro e w1 ⟨rfl, hI⟩
  have HI := Lib.hid hI
  clear hI
  go_wp2_with fail
  refine (rnumber_any w0 w1 s1 n 0 255 1 (by decide) (by decide) (by decide) HL.out HI.out).mono ?_; rintro e w2 ⟨rfl, hI⟩
  have HI2 := Lib.hid hI
  clear hI
  go_wp2_with fail
  go_end0
  exact ⟨rfl, HI2.out⟩

set_option maxHeartbeats 4000000 in
theorem rfield_short (w0 w : World) (s : XS) (hr : xr s ≤ 900000) (h : IsR w0 w s) :
    Calls Try.prog 19 #[.pointer (some ⟨w0.heap.size, 0, none⟩), .int .u8 104] w (ROut w0 (xNumF (-32768) 32767 2 s)) := by
  have HN := Lib.hid (rnum_any w0 w s h)
  have hx : (xNum s).2.B.length ≤ 1000000 := by
    have : (xNum s).2.B = s.B := by unfold xNum; split <;> rfl
    rw [this]
    have := xr_len s
    omega
  unfold xNumF
  clear h hr
  generalize xNum s = p at HN hx ⊢
  obtain ⟨n, s1⟩ := p
  have HL := Lib.hid hx
  clear hx
  go_enter Try.func19, Try.ntmps19
  go_wp2_with fail
  refine HN.out.mono ?_; rintro e w1 ⟨rfl, hI⟩
  have HI := Lib.hid hI
  clear hI
  go_wp2_with fail
  refine (rnumber_any w0 w1 s1 n (-32768) 32767 2 (by decide) (by decide) (by decide) HL.out HI.out).mono ?_; rintro e w2 ⟨rfl, hI⟩
  have HI2 := Lib.hid hI
  clear hI
  go_wp2_with fail
  go_end0
  exact ⟨rfl, HI2.out⟩

set_option maxHeartbeats 4000000 in
theorem rfield_long (w0 w : World) (s : XS) (hr : xr s ≤ 900000) (h : IsR w0 w s) :
    Calls Try.prog 19 #[.pointer (some ⟨w0.heap.size, 0, none⟩), .int .u8 105] w (ROut w0 (xNumF (-2147483648) 2147483647 4 s)) := by
  have HN := Lib.hid (rnum_any w0 w s h)
  have hx : (xNum s).2.B.length ≤ 1000000 := by
    have : (xNum s).2.B = s.B := by unfold xNum; split <;> rfl
    rw [this]
    have := xr_len s
    omega
  unfold xNumF
  clear h hr
  generalize xNum s = p at HN hx ⊢
  obtain ⟨n, s1⟩ := p
  have HL := Lib.hid hx
  clear hx
  go_enter Try.func19, Try.ntmps19
  go_wp2_with fail
  refine HN.out.mono ?_; rintro e w1 ⟨rfl, hI⟩
  have HI := Lib.hid hI
  clear hI
  go_wp2_with fail
  refine (rnumber_any w0 w1 s1 n (-2147483648) 2147483647 4 (by decide) (by decide) (by decide) HL.out HI.out).mono ?_; rintro e w2 ⟨rfl, hI⟩
  have HI2 := Lib.hid hI
  clear hI
  go_wp2_with fail
  go_end0
  exact ⟨rfl, HI2.out⟩

theorem xtext_size {s : XS} {R : Nat} (hr : xr s ≤ R) : (xText s).1.length ≤ R ∧ (xText s).2.B.length ≤ R := by
  rcases text_ways s with ⟨_, e⟩ | ⟨t, ts, _, e, h⟩
  · rw [e]
    have := xr_len s
    exact ⟨Nat.zero_le _, by show s.B.length ≤ _; omega⟩
  · rw [e]
    have := xr_len s
    exact ⟨by show t.length ≤ _; omega, by show s.B.length ≤ _; omega⟩

set_option maxHeartbeats 4000000 in
theorem rfield_text (w0 w : World) (s : XS) (hr : xr s ≤ 900000) (h : IsR w0 w s) :
    Calls Try.prog 19 #[.pointer (some ⟨w0.heap.size, 0, none⟩), .int .u8 115] w (ROut w0 (xEndText s)) := by
  have HN := Lib.hid (rtext_any w0 w s h)
  have hx := xtext_size hr
  unfold xEndText
  clear h hr
  generalize xText s = p at HN hx ⊢
  obtain ⟨t, s1⟩ := p
  have hts : (⟨t.toArray⟩ : ByteArray).size ≤ 900000 := by rw [bsize]; exact hx.1
  have HL := Lib.hid hx.2
  have HE := Lib.hid (fun w (h : IsR w0 w s1) => rended_any w0 w s1 ⟨t.toArray⟩ (by omega) (Nat.le_trans hx.2 (by decide)) h)
  have HB := Lib.hid (show bytes (⟨t.toArray⟩ : ByteArray) = t by simp [bytes])
  rw [HB.out] at HE
  clear hx
  go_enter Try.func19, Try.ntmps19
  go_wp2_with fail
  refine HN.out.mono ?_; rintro e w1 ⟨rfl, hI⟩
  have HI := Lib.hid hI
  clear hI
  go_wp2_with fail
  refine (HE.out w1 HI.out).mono ?_; rintro e w2 ⟨rfl, hI⟩
  have HI2 := Lib.hid hI
  clear hI
  go_wp2_with fail
  go_end0
  exact ⟨rfl, HI2.out⟩
end Go.Proofs.Ytfdffiphlpeegaa
