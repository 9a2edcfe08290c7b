/- strconv.ParseFloat, at digits with or without a point. -/
import Derived.Test.YtaalopiegabghaaGreatDoorFTab
import Derived.Test.YtaalopiegabghaaGreatDoorFReadAll
namespace Go.Proofs.YtaalopiegabghaaGreatDoor
open Go.RowKit Go.Lib Go.WideShapes

/-- How many millionths. -/
def Dcm.mil (d : Dcm) : Nat := d.man * 10 ^ (6 - d.p.length)
theorem Dcm.ok.mil_lt {d : Dcm} (h : d.ok) : d.mil < 1000000000000000 := by
  have h1 := val_lt _ _ rfl h.all
  unfold Dcm.mil Dcm.man
  have h2 := Nat.mul_lt_mul_of_pos_right h1 (Nat.pow_pos (n := 6 - d.p.length) (show 0 < 10 by decide))
  refine Nat.lt_of_lt_of_le h2 ?_
  rw [← Nat.pow_add, List.length_append]
  have := h.w9; have := h.p6
  exact Nat.le_trans (Nat.pow_le_pow_right (by decide) (show d.w.length + d.p.length + (6 - d.p.length) ≤ 15 by omega)) (by decide)

/-- A text that begins with a digit, or the point, has nothing of a word. -/
theorem common_no (s : ByteArray) (c : Nat) (w : World) (h : 0 < s.size) (hc : (s[0]'h).toNat = c) (hcd : 48 ≤ c ∧ c ≤ 57 ∨ c = 46) :
    Calls Tryz.prog 118 #[.string s, .string { data := #[105, 110, 102, 105, 110, 105, 116, 121] }] w fun e w' => e = .returned (.int .i64 0) ∧ w = w' := by
  have hne : ¬ s = ByteArray.empty := fun e => by subst e; exact absurd h (by decide)
  have h' : (0 : Int) < s.size := by omega
  have h1 : (c : Int) < 65 := by omega
  have h2 : ((c : Int) == 105) = false := by rw [beq_eq_false_iff_ne]; omega
  have h3 : ((c : Int) != ((({ data := #[105, 110, 102, 105, 110, 105, 116, 121] } : ByteArray)[0]'(by decide)).toNat : Nat)) = true := by
    rw [show (({ data := #[105, 110, 102, 105, 110, 105, 116, 121] } : ByteArray)[0]'(by decide)).toNat = 105 from rfl, bne_iff_ne]; omega
  have hmin : (0 : Int) < min 8 s.size := by omega
  have h0 : (48 : Int) ≤ c ∨ (c : Int) = 46 := by omega
  go_enter Tryz.func118, Tryz.ntmps118
  go_wp2_with fail
  go_loop [6, 6] (fun i _ => i = .int .i64 0) (fun _ _ => 0)
  case atStart => exact rfl
  case round =>
    subst hrel
    go_wp2_with fail
    go_ret
    exact ⟨rfl, rfl⟩

set_option maxHeartbeats 4000000 in
theorem special_no (s : ByteArray) (sg : Bs) (d : Dcm) (w : World) (hsg : Sgn sg) (hd : d.ok) (hs : bytes s = sg ++ d.text) :
    Calls Tryz.prog 78 #[.string s] w fun e w' => e = .returned (.tuple #[.float .f64 0, .int .i64 0, .bool false]) ∧ w = w' := by
  have hlen : s.size = sg.length + d.text.length := by rw [← bytes_len, hs, List.length_append]
  have hpos := hd.pos
  have hb := hd.byte (List.getElem_mem hpos)
  have h0 : 0 < s.size := by omega
  have hne : ¬ s = ByteArray.empty := fun e => by subst e; exact absurd h0 (by decide)
  have h0' : (0 : Int) < s.size := by omega
  obtain ⟨c, hc⟩ : ∃ c, c = d.text[0].toNat := ⟨_, rfl⟩
  rw [← hc] at hb
  rcases hsg with rfl | rfl | rfl
  · obtain ⟨_, hcx⟩ := text_at (k := 0) (c := d.text[0]) hs (by rw [List.nil_append, List.getElem?_eq_getElem hpos])
    rw [← hc] at hcx
    have n1 : ((c : Int) == 43) = false := by rw [beq_eq_false_iff_ne]; omega
    have n2 : ((c : Int) == 45) = false := by rw [beq_eq_false_iff_ne]; omega
    have n3 : ((c : Int) == 105) = false := by rw [beq_eq_false_iff_ne]; omega
    have n4 : ((c : Int) == 73) = false := by rw [beq_eq_false_iff_ne]; omega
    have n5 : ((c : Int) == 110) = false := by rw [beq_eq_false_iff_ne]; omega
    have n6 : ((c : Int) == 78) = false := by rw [beq_eq_false_iff_ne]; omega
    clear hs hlen hpos hd hc hb
    go_enter Tryz.func78, Tryz.ntmps78
    go_wp2_with fail
    exact bodyPost_ret (v := .tuple #[.float .f64 0, .int .i64 0, .bool false]) (by simp [results, Tryz.results78, go_sem]) rfl ⟨rfl, rfl⟩
  · have hcx : (s[0]'h0).toNat = 43 := (text_at (k := 0) (c := 43) hs rfl).2
    obtain ⟨t, ht⟩ : ∃ t, t = s.extract 1 s.size := ⟨_, rfl⟩
    have hbt : bytes t = d.text := by rw [ht]; show (s.extract 1 s.size).data.toList = _; rw [ByteArray.data_extract, Array.toList_extract]; simp [List.extract, bytes] at hs ⊢; rw [hs]; simp; rw [List.take_of_length_le (by simp at hlen; omega)]
    have htl : 0 < t.size := by rw [← bytes_len, hbt]; exact hpos
    have hct := (text_at (k := 0) (c := d.text[0]) hbt (List.getElem?_eq_getElem hpos)).2
    rw [← hc] at hct
    have HCM := Lib.hid (fun W => common_no t c W htl hct hb)
    have h1' : (1 : Int) ≤ s.size := by omega
    rw [ht] at HCM
    clear hs hlen hpos hd hc hb hbt htl hct ht
    go_enter Tryz.func78, Tryz.ntmps78
    go_wp2_with fail
    refine (HCM.out _).mono ?_; rintro e w' ⟨rfl, rfl⟩
    go_wp2_with fail
    exact bodyPost_ret (v := .tuple #[.float .f64 0, .int .i64 0, .bool false]) (by simp [results, Tryz.results78, go_sem]) rfl ⟨rfl, rfl⟩
  · have hcx : (s[0]'h0).toNat = 45 := (text_at (k := 0) (c := 45) hs rfl).2
    obtain ⟨t, ht⟩ : ∃ t, t = s.extract 1 s.size := ⟨_, rfl⟩
    have hbt : bytes t = d.text := by rw [ht]; show (s.extract 1 s.size).data.toList = _; rw [ByteArray.data_extract, Array.toList_extract]; simp [List.extract, bytes] at hs ⊢; rw [hs]; simp; rw [List.take_of_length_le (by simp at hlen; omega)]
    have htl : 0 < t.size := by rw [← bytes_len, hbt]; exact hpos
    have hct := (text_at (k := 0) (c := d.text[0]) hbt (List.getElem?_eq_getElem hpos)).2
    rw [← hc] at hct
    have HCM := Lib.hid (fun W => common_no t c W htl hct hb)
    have h1' : (1 : Int) ≤ s.size := by omega
    rw [ht] at HCM
    clear hs hlen hpos hd hc hb hbt htl hct ht
    go_enter Tryz.func78, Tryz.ntmps78
    go_wp2_with fail
    refine (HCM.out _).mono ?_; rintro e w' ⟨rfl, rfl⟩
    go_wp2_with fail
    exact bodyPost_ret (v := .tuple #[.float .f64 0, .int .i64 0, .bool false]) (by simp [results, Tryz.results78, go_sem]) rfl ⟨rfl, rfl⟩

def AtofOut (neg : Bool) (X n : Nat) (w : World) (e : Ending) (w' : World) : Prop := ∃ r, FltOf neg X r ∧ e = .returned (.tuple #[.float .f64 r, .int .i64 n, .nilIface]) ∧ w = w'
set_option maxRecDepth 100000 in
set_option maxHeartbeats 8000000 in
theorem atof_any (s : ByteArray) (sg : Bs) (d : Dcm) (w : World) (hT : Tabs w) (hsg : Sgn sg) (hd : d.ok) (hs : bytes s = sg ++ d.text) :
    Calls Tryz.prog 51 #[.string s] w (AtofOut (sgB sg) d.mil s.size w) := by
  have HSP := Lib.hid (special_no s sg d w hsg hd hs)
  have hrf := readfloat_any s sg d w hsg hd hs
  have hopt := hT.opt
  have hF := frombits_run
  have h6 := hd.p6
  by_cases hm : d.man = 0
  · have hX : FltOf (sgB sg) d.mil (Ieee.double.word (sgB sg) 0) := .inl ⟨by unfold Dcm.mil; rw [hm, Nat.zero_mul], rfl⟩
    rw [hm, if_pos rfl] at hrf
    have HRF := Lib.hid hrf
    have HX := Lib.hid hX
    clear hrf hX hm hs hd hsg hT
    cases hn : sgB sg with
    | false =>
      rw [hn] at HRF HX
      rw [show Ieee.double.word false 0 = 0 by decide] at HX
      have hor : bits BinOp.or .u64 0 0 = 0 := by decide
      clear hn
      go_enter Tryz.func51, Tryz.ntmps51
      go_wp2_with fail
      refine HSP.out.mono ?_; rintro e w' ⟨rfl, rfl⟩
      go_wp2_with fail
      refine HRF.out.mono ?_; rintro e w' ⟨rfl, rfl⟩
      go_wp2_with fail
      refine (bool2_u64 _ _).mono ?_; rintro e w' ⟨rfl, rfl⟩
      go_wp2_with fail
      exact bodyPost_ret (v := .tuple #[.float .f64 0, .int .i64 s.size, .nilIface]) (by simp [results, Tryz.results51, go_sem]) rfl ⟨_, HX.out, rfl, rfl⟩
    | true =>
      rw [hn] at HRF HX
      rw [show Ieee.double.word true 0 = 9223372036854775808 by decide] at HX
      have hor : bits BinOp.or .u64 9223372036854775808 0 = 9223372036854775808 := by decide
      clear hn
      go_enter Tryz.func51, Tryz.ntmps51
      go_wp2_with fail
      refine HSP.out.mono ?_; rintro e w' ⟨rfl, rfl⟩
      go_wp2_with fail
      refine HRF.out.mono ?_; rintro e w' ⟨rfl, rfl⟩
      go_wp2_with fail
      refine (bool2_u64 _ _).mono ?_; rintro e w' ⟨rfl, rfl⟩
      go_wp2_with fail
      exact bodyPost_ret (v := .tuple #[.float .f64 9223372036854775808, .int .i64 s.size, .nilIface]) (by simp [results, Tryz.results51, go_sem]) rfl ⟨_, HX.out, rfl, rfl⟩
  · have HEX := Lib.hid (exact_any d.man d.p.length (sgB sg) w hT (by omega) hd.mil_lt h6)
    rw [if_neg hm] at hrf
    have HRF := Lib.hid hrf
    have h6' : (d.p.length : Int) ≤ 6 := by omega
    have hm0 : ((d.man : Int) == 0) = false := by rw [beq_eq_false_iff_ne]; omega
    have HML := Lib.hid (show d.mil = d.man * 10 ^ (6 - d.p.length) from rfl)
    rw [HML.out]
    obtain ⟨M, hM⟩ : ∃ M, M = d.man := ⟨_, rfl⟩
    obtain ⟨p, hp⟩ : ∃ p, p = d.p.length := ⟨_, rfl⟩
    obtain ⟨X, hX⟩ : ∃ X, X = M * 10 ^ (6 - p) := ⟨_, rfl⟩
    rw [← hM, ← hp] at HEX HRF
    rw [← hX] at HEX
    rw [← hM] at hm0
    rw [← hp] at h6'
    rw [← hM, ← hp, ← hX]
    obtain ⟨neg, hng⟩ : ∃ neg, neg = sgB sg := ⟨_, rfl⟩
    rw [← hng] at HEX HRF ⊢
    clear hrf hm hs hd hsg hT h6 HML hM hp hX hng
    cases neg with
    | false =>
      go_enter Tryz.func51, Tryz.ntmps51
      go_wp2_with fail
      refine HSP.out.mono ?_; rintro e w' ⟨rfl, rfl⟩
      go_wp2_with fail
      refine HRF.out.mono ?_; rintro e w' ⟨rfl, rfl⟩
      go_wp2_with fail
      refine (bool2_u64 _ _).mono ?_; rintro e w' ⟨rfl, rfl⟩
      go_wp2_with fail
      refine HEX.out.mono ?_; rintro e w' ⟨r, hr, rfl, rfl⟩
      have HR := Lib.hid hr
      clear hr
      go_wp2_with fail
      exact bodyPost_ret (v := .tuple #[.float .f64 r, .int .i64 s.size, .nilIface]) (by simp [results, Tryz.results51, go_sem]) rfl ⟨_, HR.out, rfl, rfl⟩
    | true =>
      go_enter Tryz.func51, Tryz.ntmps51
      go_wp2_with fail
      refine HSP.out.mono ?_; rintro e w' ⟨rfl, rfl⟩
      go_wp2_with fail
      refine HRF.out.mono ?_; rintro e w' ⟨rfl, rfl⟩
      go_wp2_with fail
      refine (bool2_u64 _ _).mono ?_; rintro e w' ⟨rfl, rfl⟩
      go_wp2_with fail
      refine HEX.out.mono ?_; rintro e w' ⟨r, hr, rfl, rfl⟩
      have HR := Lib.hid hr
      clear hr
      go_wp2_with fail
      exact bodyPost_ret (v := .tuple #[.float .f64 r, .int .i64 s.size, .nilIface]) (by simp [results, Tryz.results51, go_sem]) rfl ⟨_, HR.out, rfl, rfl⟩

set_option maxHeartbeats 4000000 in
theorem prefix_any (s : ByteArray) (sg : Bs) (d : Dcm) (w : World) (hT : Tabs w) (hsg : Sgn sg) (hd : d.ok) (hs : bytes s = sg ++ d.text) :
    Calls Tryz.prog 34 #[.string s, .int .i64 64] w (AtofOut (sgB sg) d.mil s.size w) := by
  have HA := Lib.hid (atof_any s sg d w hT hsg hd hs)
  clear hT hsg hd hs
  go_enter Tryz.func34, Tryz.ntmps34
  go_wp2_with fail
  refine HA.out.mono ?_; rintro e w' ⟨r, hr, rfl, rfl⟩
  have HR := Lib.hid hr
  clear hr
  go_wp2_with fail
  exact bodyPost_ret (v := .tuple #[.float .f64 r, .int .i64 s.size, .nilIface]) (by simp [results, Tryz.results34, go_sem]) rfl ⟨_, HR.out, rfl, rfl⟩

def ParseOut (neg : Bool) (X : Nat) (w : World) (e : Ending) (w' : World) : Prop := ∃ r, FltOf neg X r ∧ e = .returned (.tuple #[.float .f64 r, .nilIface]) ∧ w = w'
set_option maxHeartbeats 4000000 in
theorem inparse_any (s : ByteArray) (sg : Bs) (d : Dcm) (w : World) (hT : Tabs w) (hsg : Sgn sg) (hd : d.ok) (hs : bytes s = sg ++ d.text) :
    Calls Tryz.prog 28 #[.string s, .int .i64 64] w (ParseOut (sgB sg) d.mil w) := by
  have HA := Lib.hid (prefix_any s sg d w hT hsg hd hs)
  clear hT hsg hd hs
  go_enter Tryz.func28, Tryz.ntmps28
  go_wp2_with fail
  refine HA.out.mono ?_; rintro e w' ⟨r, hr, rfl, rfl⟩
  have HR := Lib.hid hr
  clear hr
  go_wp2_with fail
  go_ret2
  exact ⟨_, HR.out, rfl, rfl⟩
set_option maxHeartbeats 4000000 in
theorem parsefloat_any (s : ByteArray) (sg : Bs) (d : Dcm) (w : World) (hT : Tabs w) (hsg : Sgn sg) (hd : d.ok) (hs : bytes s = sg ++ d.text) :
    Calls Tryz.prog 21 #[.string s, .int .i64 64] w (ParseOut (sgB sg) d.mil w) := by
  have HA := Lib.hid (inparse_any s sg d w hT hsg hd hs)
  clear hT hsg hd hs
  go_enter Tryz.func21, Tryz.ntmps21
  go_wp2_with fail
  refine HA.out.mono ?_; rintro e w' ⟨r, hr, rfl, rfl⟩
  have HR := Lib.hid hr
  clear hr
  go_wp2_with fail
  go_ret2
  exact ⟨_, HR.out, rfl, rfl⟩
end Go.Proofs.YtaalopiegabghaaGreatDoor
