/- Package real: what number a text says. -/
import Derived.Test.YtaalopiegabghaaGreatDoorRText
import Derived.Test.YtaalopiegabghaaGreatDoorFold
import Derived.Test.YtaalopiegabghaaGreatDoorFFtoa
import Derived.BigQuiet
import Derived.Test.YtaalopiegabghaaGreatDoorShelf
import Derived.Shelf.Strings.SlTrimAscii
namespace Go.Proofs.YtaalopiegabghaaGreatDoor
open Go.RowKit Go.Lib Go.WideShapes

theorem str_eq {s t : ByteArray} (h : bytes s = bytes t) : s = t := ByteArray.ext (Array.toList_inj.1 h)
theorem str_bytes (s : ByteArray) : (⟨(bytes s).toArray⟩ : ByteArray) = s := str_eq (by simp [bytes])
theorem bytes_mk (l : Bs) : bytes (⟨l.toArray⟩ : ByteArray) = l := by simp [bytes]
theorem bytes_extract (s : ByteArray) (i : Nat) : bytes (s.extract i s.size) = (bytes s).drop i := by
  show (s.extract i s.size).data.toList = _
  rw [ByteArray.data_extract, Array.toList_extract, List.extract_eq_take_drop]
  rw [List.take_of_length_le (by rw [List.length_drop, bytes_len]; exact Nat.le_refl _)]

/-- The first byte of a text that is none empty. -/
theorem head_of {s : ByteArray} {c : UInt8} {l : Bs} (h : bytes s = c :: l) : ∃ h0 : 0 < s.size, (s[0]'h0).toNat = c.toNat := text_at h rfl
theorem nil_of {s : ByteArray} (h : bytes s = []) : s = ByteArray.empty := str_eq h

set_option maxHeartbeats 4000000 in
theorem unsigned_any (s : ByteArray) (w : World) (hs : s.size ≤ 1000000) :
    Calls Tryz.prog 17 #[.string s] w fun e w' => e = .returned (.tuple #[.string ⟨(restOf (bytes s)).toArray⟩, .bool (!(sgnOf (bytes s)).isEmpty)]) ∧ w = w' := by
  cases hl : bytes s with
  | nil =>
    obtain rfl := nil_of hl
    go_enter Tryz.func17, Tryz.ntmps17
    go_wp2
    go_ret2
    exact ⟨rfl, rfl⟩
  | cons c l =>
    obtain ⟨h0, hc⟩ := head_of hl
    have hne : ¬ s = ByteArray.empty := fun e => by subst e; exact absurd h0 (by decide)
    have hemp : s.toList.isEmpty = false := by rw [Lib.toList_data]; show (bytes s).isEmpty = false; rw [hl]; rfl
    have h0' : (0 : Int) < s.size := by omega
    have h1' : (1 : Int) ≤ s.size := by omega
    have hex : s.extract 1 s.size = ⟨l.toArray⟩ := str_eq ((bytes_extract s 1).trans (by show List.drop 1 (bytes s) = l; rw [hl]; rfl))
    have hsm : s = ⟨(c :: l).toArray⟩ := by rw [← hl, str_bytes]
    by_cases h43 : c = 43
    · subst h43
      have hR : restOf (43 :: l) = l := rfl
      have hS : sgnOf (43 :: l) = [43] := rfl
      rw [hR, hS]
      have hcx : (s[0]'h0).toNat = 43 := hc
      have HE := Lib.hid hex
      clear hl hc hsm hex hR hS
      go_enter Tryz.func17, Tryz.ntmps17
      go_wp2_with fail
      go_ret2
      exact ⟨by rw [← HE.out]; rfl, rfl⟩
    · by_cases h45 : c = 45
      · subst h45
        have hR : restOf (45 :: l) = l := rfl
        have hS : sgnOf (45 :: l) = [45] := rfl
        rw [hR, hS]
        have hcx : (s[0]'h0).toNat = 45 := hc
        have HE := Lib.hid hex
        clear hl hc hsm hex hR hS
        go_enter Tryz.func17, Tryz.ntmps17
        go_wp2_with fail
        go_ret2
        exact ⟨by rw [← HE.out]; rfl, rfl⟩
      · have hS : sgnOf (c :: l) = [] := by rw [sgn_cons, if_neg (by simp [h43, h45])]
        have hR : restOf (c :: l) = c :: l := by unfold restOf; rw [hS]; rfl
        have n1 : (((s[0]'h0).toNat : Int) == 43) = false := by
          rw [beq_eq_false_iff_ne, hc]
          intro e
          have e2 : c.toNat = (43 : UInt8).toNat := by rw [show (43 : UInt8).toNat = 43 from rfl]; omega
          exact h43 (UInt8.toNat_inj.1 e2)
        have n2 : (((s[0]'h0).toNat : Int) == 45) = false := by
          rw [beq_eq_false_iff_ne, hc]
          intro e
          have e2 : c.toNat = (45 : UInt8).toNat := by rw [show (45 : UInt8).toNat = 45 from rfl]; omega
          exact h45 (UInt8.toNat_inj.1 e2)
        rw [hR, hS]
        have HE := Lib.hid hsm
        clear hl hc hsm hex hR hS h43 h45
        go_enter Tryz.func17, Tryz.ntmps17
        go_wp2_with fail
        go_ret2
        exact ⟨by rw [← HE.out]; rfl, rfl⟩

theorem iff_bool {a b : Bool} (h : a = true ↔ b = true) : a = b := by cases a <;> cases b <;> simp_all
set_option maxHeartbeats 4000000 in
theorem digits_any (s : ByteArray) (n : Nat) (z : Int) (hz : z = (n : Int)) (w : World) (hs : s.size ≤ 1000000) :
    Calls Tryz.prog 27 #[.string s, .int .i64 z] w fun e w' => e = .returned (.bool (dgs (bytes s) n)) ∧ Below w.heap.size w w' := by
  subst hz
  by_cases hle : s.size ≤ n
  · have HT := Lib.hid (Any.strings_Trim_laid { Tryz.lays160 with } (by kernel_rfl) s ⟨#[48, 49, 50, 51, 52, 53, 54, 55, 56, 57]⟩ w (by omega) (by decide) (ascii_of_all (by decide)))
    have hle' : (s.size : Int) ≤ n := by omega
    have hv : (⟨(trimS (bytes s) tenB).toArray⟩ : ByteArray).toList.isEmpty = dgs (bytes s) n := by
      rw [Lib.toList_data]
      show (trimS (bytes s) tenB).isEmpty = _
      refine iff_bool ?_
      rw [List.isEmpty_iff]
      unfold dgs
      rw [decide_eq_true (by rw [bytes_len]; exact hle), Bool.true_and, ← trim_ten]
    obtain ⟨R, hR⟩ : ∃ R, R = dgs (bytes s) n := ⟨_, rfl⟩
    rw [← hR] at hv ⊢
    obtain ⟨T, hTT⟩ : ∃ T, T = (⟨(trimS (bytes s) tenB).toArray⟩ : ByteArray) := ⟨_, rfl⟩
    rw [← hTT] at hv
    have HTT := Lib.hid hTT
    clear hR hTT
    go_enter Tryz.func27, Tryz.ntmps27
    go_wp2_with fail
    refine HT.out.mono ?_; rintro e w1 ⟨he, hb⟩
    have he2 : e = .returned (.string T) := by rw [he, HTT.out]
    subst he2
    clear he
    go_wp2_with fail
    go_ret
    exact ⟨rfl, hb⟩
  · have hgt : (n : Int) < s.size := by omega
    have hv : dgs (bytes s) n = false := by
      unfold dgs
      rw [decide_eq_false (by rw [bytes_len]; exact hle)]; rfl
    rw [hv]
    clear hv hle
    go_enter Tryz.func27, Tryz.ntmps27
    go_wp2_with fail
    go_ret
    exact ⟨rfl, Below.refl _ _⟩
theorem _root_.Go.RowKit.Below.on {w w1 w2 : World} (h : Below w.heap.size w w1) (h' : Below w1.heap.size w1 w2) : Below w.heap.size w w2 := h.trans (h'.mono h.size)

set_option maxHeartbeats 4000000 in
theorem decimal_any (s : ByteArray) (w : World) (hT : Tabs w) (hs : s.size ≤ 1000000) :
    Calls Tryz.prog 20 #[.string s] w fun e w' => e = .returned (.bool (decB (bytes s))) ∧ Below w.heap.size w w' := by
  obtain ⟨m, hm⟩ := hT.len
  have hdt := dot_text (bytes s)
  have hC := Tryz.strings_Cut s ⟨#[46]⟩ m w (by omega) hm
  rw [show (⟨#[46]⟩ : ByteArray).data.toList = [46] from rfl, show s.data.toList = bytes s from rfl, cut_dot] at hC
  have hlen : (dotOf (bytes s)).w.length ≤ s.size ∧ (dotOf (bytes s)).p.length ≤ s.size := by
    have h1 : (dotOf (bytes s)).w.length ≤ (bytes s).length := (List.takeWhile_sublist _).length_le
    have h2 : (dotOf (bytes s)).p.length ≤ (bytes s).length := ((List.drop_sublist _ _).trans (List.dropWhile_sublist _)).length_le
    rw [bytes_len] at h1 h2
    exact ⟨h1, h2⟩
  unfold decB
  generalize dotOf (bytes s) = d at hC hlen ⊢
  obtain ⟨x, dot, y⟩ := d
  simp only at hC hlen ⊢
  have HC := Lib.hid hC
  have hxs : (⟨x.toArray⟩ : ByteArray).size = x.length := by rw [← bytes_len, bytes_mk]
  have hys : (⟨y.toArray⟩ : ByteArray).size = y.length := by rw [← bytes_len, bytes_mk]
  have HX := Lib.hid (fun W => digits_any ⟨x.toArray⟩ 9 9 rfl W (by omega))
  have HY := Lib.hid (fun W => digits_any ⟨y.toArray⟩ 6 6 rfl W (by omega))
  rw [bytes_mk] at HX HY
  obtain ⟨dx, hdx⟩ : ∃ b, b = dgs x 9 := ⟨_, rfl⟩
  obtain ⟨dy, hdy⟩ : ∃ b, b = dgs y 6 := ⟨_, rfl⟩
  rw [← hdx] at HX ⊢
  rw [← hdy] at HY ⊢
  have ex : x.isEmpty = (((⟨x.toArray⟩ : ByteArray).size : Int) == 0) := by rw [hxs]; cases x <;> simp; omega
  have ey : y.isEmpty = (((⟨y.toArray⟩ : ByteArray).size : Int) == 0) := by rw [hys]; cases y <;> simp; omega
  rw [ex, ey]
  generalize (⟨x.toArray⟩ : ByteArray) = X at HC HX hxs hlen ⊢
  generalize (⟨y.toArray⟩ : ByteArray) = Y at HC HY hys hlen ⊢
  have hX1 : X.size ≤ 1000000 := by omega
  have hY1 : Y.size ≤ 1000000 := by omega
  clear hC hlen hxs hys ex ey hdx hdy hdt hT hm
  have B1 : ∀ n, Below w.heap.size w (w.drewN n) := fun n => below_drewN (Below.refl _ _) n
  have HB1 := Lib.hid B1
  clear B1
  obtain ⟨z1, hz1⟩ : ∃ b, b = ((X.size : Int) == 0) := ⟨_, rfl⟩
  obtain ⟨z2, hz2⟩ : ∃ b, b = ((Y.size : Int) == 0) := ⟨_, rfl⟩
  rw [← hz1, ← hz2]
  have hz1' := hz1.symm
  have hz2' := hz2.symm
  clear hz1 hz2
  by_cases hb : z1 = true ∧ z2 = true
  · obtain ⟨rfl, rfl⟩ := hb
    go_enter Tryz.func20, Tryz.ntmps20
    go_wp2_with fail
    refine HC.out.mono ?_; rintro e w1 ⟨rfl, n, rfl⟩
    go_wp2_with fail
    go_ret
    exact ⟨rfl, HB1.out _⟩
  · have hg : (z1 && z2) = false := by cases z1 <;> cases z2 <;> simp_all
    have hR : (!(z1 && z2) && (dx && dy)) = (dx && dy) := by rw [hg]; rfl
    rw [hR]
    clear hR
    go_enter Tryz.func20, Tryz.ntmps20
    go_wp2_with fail
    refine HC.out.mono ?_; rintro e w1 ⟨rfl, n, rfl⟩
    go_wp2_with fail
    all_goals first
      | (exfalso; refine hb ⟨?_, ?_⟩ <;> assumption)
      | (refine (HX.out _).mono ?_; rintro e w2 ⟨rfl, hb2⟩
         have H2 := Lib.hid ((HB1.out n).on hb2)
         clear hb2
         cases dx with
         | false =>
           go_wp2_with fail
           go_ret
           exact ⟨rfl, H2.out⟩
         | true =>
           go_wp2_with fail
           refine (HY.out _).mono ?_; rintro e w3 ⟨rfl, hb3⟩
           have H3 := Lib.hid (H2.out.on hb3)
           clear hb3
           go_wp2_with fail
           go_ret
           exact ⟨rfl, H3.out⟩)

/-- The body-less function of package math that reads a word as a float. -/
theorem mfrombits_run (n : Int) (w : World) : (callFunc 25 #[.int .u64 n]).run Tryz.prog w = .ok (.value (.float .f64 n.toNat)) w := by
  rw [run_callFunc_extern Tryz.func25 (by kernel_rfl) (by kernel_rfl) (by kernel_rfl) (e := Go.Extern.MathFloatBits.float64frombits) (by kernel_rfl)]; rfl
theorem nan_any (w : World) : Calls Tryz.prog 18 #[] w fun e w' => e = .returned (.float .f64 9221120237041090561) ∧ w = w' := by
  have hF := mfrombits_run
  go_enter Tryz.func18, Tryz.ntmps18
  go_wp2_with fail
  go_ret
  exact ⟨rfl, rfl⟩
theorem infp_any (w : World) : Calls Tryz.prog 19 #[.int .i64 1] w fun e w' => e = .returned (.float .f64 9218868437227405312) ∧ w = w' := by
  have hF := mfrombits_run
  go_enter Tryz.func19, Tryz.ntmps19
  go_wp2_with fail
  go_ret
  exact ⟨rfl, rfl⟩
theorem infn_any (w : World) : Calls Tryz.prog 19 #[.int .i64 (-1)] w fun e w' => e = .returned (.float .f64 18442240474082181120) ∧ w = w' := by
  have hF := mfrombits_run
  go_enter Tryz.func19, Tryz.ntmps19
  go_wp2_with fail
  go_ret
  exact ⟨rfl, rfl⟩

/-- What number gives. -/
def NumOut (n : Option Num) (w : World) (e : Ending) (w' : World) : Prop := ∃ b, (∀ m, n = some m → FloatIs m b) ∧ e = .returned (.tuple #[.float .f64 b, .bool n.isSome]) ∧ Below w.heap.size w w'
theorem NumOut.mk {n : Option Num} {w w' : World} {b : Nat} {ok : Bool} (hs : n.isSome = ok) (hb : Below w.heap.size w w') (hf : ∀ m, n = some m → FloatIs m b) : NumOut n w (.returned (.tuple #[.float .f64 b, .bool ok])) w' := ⟨b, hf, by rw [hs], hb⟩
theorem mk_data (l : Bs) : (⟨l.toArray⟩ : ByteArray).toList = l := by rw [Lib.toList_data]
theorem size_mk (l : Bs) : (⟨l.toArray⟩ : ByteArray).size = l.length := by rw [← bytes_len, bytes_mk]
theorem rest_len (l : Bs) : (restOf l).length ≤ l.length := by unfold restOf; rw [List.length_drop]; omega

set_option maxRecDepth 100000 in
set_option maxHeartbeats 8000000 in
theorem number_any (s : ByteArray) (w : World) (hT : Tabs w) (hs : s.size ≤ 1000000) :
    Calls Tryz.prog 13 #[.string s] w (NumOut (numB (bytes s)) w) := by
  have HFo := Lib.hid (fold_wide s w hs)
  unfold numB
  obtain ⟨l, hl⟩ : ∃ l, l = (bytes s).map low := ⟨_, rfl⟩
  have hll : l.length = s.size := by rw [hl, List.length_map, bytes_len]
  rw [← hl] at HFo ⊢
  clear hl
  have hrl := rest_len l
  have HU := Lib.hid (fun W => unsigned_any ⟨l.toArray⟩ W (by rw [size_mk]; omega))
  rw [bytes_mk] at HU
  have HTT := Lib.hid hT
  have hsr := sgn_rest l
  have hsg := sgn_of l
  unfold numOf
  by_cases h1 : restOf l = nanB
  · rw [h1] at HU
    rw [if_pos h1]
    obtain ⟨g, hg⟩ : ∃ g, g = (sgnOf l).isEmpty := ⟨_, rfl⟩
    obtain ⟨O, hO⟩ : ∃ O, O = (if sgnOf l = [] then some Num.nan else none) := ⟨_, rfl⟩
    have hOs : O.isSome = g := by rw [hO, hg]; cases sgnOf l <;> rfl
    have hOm : ∀ m, O = some m → FloatIs m 9221120237041090561 := by
      intro m h
      rw [hO] at h
      split at h
      · cases h; rfl
      · cases h
    rw [← hg] at HU
    rw [← hO]
    have HOS := Lib.hid hOs
    have HOM := Lib.hid hOm
    clear hsr hsg hO hg h1 hrl hll hT hOs hOm
    go_enter Tryz.func13, Tryz.ntmps13
    go_wp2_with fail
    refine HFo.out.mono ?_; rintro e w1 ⟨rfl, hb1⟩
    have H1 := Lib.hid hb1
    clear hb1
    go_wp2_with fail
    refine (HU.out _).mono ?_; rintro e w2 ⟨rfl, rfl⟩
    go_wp2_with fail
    refine (nan_any _).mono ?_; rintro e w2 ⟨rfl, rfl⟩
    cases g with
    | false =>
      go_wp2_with fail
      go_ret2
      exact NumOut.mk HOS.out H1.out HOM.out
    | true =>
      go_wp2_with fail
      go_ret2
      exact NumOut.mk HOS.out H1.out HOM.out
  · rw [if_neg h1]
    by_cases h2 : restOf l = infB ∨ restOf l = longB
    · rw [if_pos h2]
      obtain ⟨c, hl0, hcs⟩ : ∃ c : UInt8, (∃ t, l = c :: t) ∧ (c = 45 ∧ sgB (sgnOf l) = true ∨ c ≠ 45 ∧ sgB (sgnOf l) = false) := by
        rcases hsg with e | e | e
        · rw [e] at hsr ⊢
          rcases h2 with h2 | h2
          · rw [h2] at hsr; exact ⟨105, ⟨_, hsr.symm⟩, .inr ⟨by decide, by decide⟩⟩
          · rw [h2] at hsr; exact ⟨105, ⟨_, hsr.symm⟩, .inr ⟨by decide, by decide⟩⟩
        · rw [e] at hsr ⊢
          exact ⟨43, ⟨_, hsr.symm⟩, .inr ⟨by decide, by decide⟩⟩
        · rw [e] at hsr ⊢
          exact ⟨45, ⟨_, hsr.symm⟩, .inl ⟨rfl, by decide⟩⟩
      obtain ⟨t, hct⟩ := hl0
      obtain ⟨S, hS⟩ : ∃ S : ByteArray, S = ⟨l.toArray⟩ := ⟨_, rfl⟩
      have hbS : bytes S = c :: t := by rw [hS, bytes_mk, hct]
      obtain ⟨h0, hc0⟩ := head_of hbS
      rw [← hS] at HFo HU
      have h0' : (0 : Int) < S.size := by omega
      generalize (!(sgnOf l).isEmpty) = sg at HU
      generalize sgB (sgnOf l) = neg at hcs ⊢
      have HN := Lib.hid (show FloatIs (.inf neg) (if neg = true then 18442240474082181120 else 9218868437227405312) by cases neg <;> rfl)
      obtain ⟨R, hR⟩ : ∃ R, R = restOf l := ⟨_, rfl⟩
      rw [← hR] at h2 HU
      obtain ⟨cn, hcn⟩ : ∃ cn, cn = c.toNat := ⟨_, rfl⟩
      rw [← hcn] at hc0
      have hcs' : (((cn : Int) == 45) = true ∧ neg = true) ∨ (((cn : Int) == 45) = false ∧ neg = false) := by
        rcases hcs with ⟨e, h⟩ | ⟨e, h⟩
        · left; rw [hcn, e]; exact ⟨by decide, h⟩
        · right
          refine ⟨?_, h⟩
          rw [beq_eq_false_iff_ne, hcn]
          intro e2
          exact e (UInt8.toNat_inj.1 (by rw [show (45 : UInt8).toNat = 45 from rfl]; omega))
      clear hsr hsg hrl hll hT hS hbS hct hcs hR hcn h1
      rcases h2 with rfl | rfl <;> rcases hcs' with ⟨hc45, rfl⟩ | ⟨hc45, rfl⟩
      all_goals
        go_enter Tryz.func13, Tryz.ntmps13
        go_wp2_with fail
        refine HFo.out.mono ?_; rintro e w1 ⟨rfl, hb1⟩
        have H1 := Lib.hid hb1
        clear hb1
        go_wp2_with fail
        refine (HU.out _).mono ?_; rintro e w2 ⟨rfl, rfl⟩
        go_wp2_with fail
        first
          | (refine (infp_any _).mono ?_; rintro e w2 ⟨rfl, rfl⟩)
          | (refine (infn_any _).mono ?_; rintro e w2 ⟨rfl, rfl⟩)
        go_wp2_with fail
        go_ret2
        exact NumOut.mk rfl H1.out (fun m h => by cases h; exact HN.out)
    · rw [if_neg h2]
      obtain ⟨S, hS⟩ : ∃ S : ByteArray, S = ⟨l.toArray⟩ := ⟨_, rfl⟩
      rw [← hS] at HFo HU
      obtain ⟨R, hR⟩ : ∃ R : ByteArray, R = ⟨(restOf l).toArray⟩ := ⟨_, rfl⟩
      rw [← hR] at HU
      have hbR : bytes R = restOf l := by rw [hR, bytes_mk]
      have rb : ∀ k : Bs, restOf l ≠ k → (R.toList == k) = false := fun k hk => by
        rw [Lib.toList_data]
        show (bytes R == k) = false
        rw [hbR, beq_eq_false_iff_ne]; exact hk
      have n1 := rb [110, 97, 110] h1
      have n2 := rb [105, 110, 102] (fun e => h2 (.inl e))
      have n3 := rb [105, 110, 102, 105, 110, 105, 116, 121] (fun e => h2 (.inr e))
      clear rb
      have HD := Lib.hid (fun W hW => decimal_any R W hW (by rw [← bytes_len, hbR]; omega))
      rw [hbR] at HD
      generalize (!(sgnOf l).isEmpty) = sg at HU
      by_cases hd : decB (restOf l) = true
      · rw [if_pos hd]
        rw [hd] at HD
        have HP := Lib.hid (fun W hW => parsefloat_any S (sgnOf l) (dotOf (restOf l)) W hW hsg (dec_ok hd) (by rw [hS, bytes_mk, dot_text]; exact hsr.symm))
        generalize sgB (sgnOf l) = neg at HP ⊢
        generalize (dotOf (restOf l)).mil = X at HP ⊢
        clear hsr hsg hrl hll hT hS hR hbR h1 h2 hd
        go_enter Tryz.func13, Tryz.ntmps13
        go_wp2_with fail
        refine HFo.out.mono ?_; rintro e w1 ⟨rfl, hb1⟩
        have H1 := Lib.hid hb1
        clear hb1
        go_wp2_with fail
        refine (HU.out _).mono ?_; rintro e w2 ⟨rfl, rfl⟩
        go_wp2_with fail
        refine (HD.out _ (HTT.out.step H1.out)).mono ?_; rintro e w2 ⟨rfl, hb2⟩
        have H2 := Lib.hid (H1.out.on hb2)
        clear hb2
        go_wp2_with fail
        refine (HP.out _ (HTT.out.step H2.out)).mono ?_; rintro e w3 ⟨r, hr, rfl, rfl⟩
        have HR := Lib.hid hr
        clear hr
        go_wp2_with fail
        go_quiet (fail)
        go_wp2_with fail
        go_ret2
        exact NumOut.mk rfl (below_drewN H2.out _) (fun m h => by cases h; exact HR.out)
      · rw [if_neg hd]
        have hd' : decB (restOf l) = false := by simpa using hd
        rw [hd'] at HD
        clear hsr hsg hrl hll hT hS hR hbR h1 h2 hd hd'
        go_enter Tryz.func13, Tryz.ntmps13
        go_wp2_with fail
        refine HFo.out.mono ?_; rintro e w1 ⟨rfl, hb1⟩
        have H1 := Lib.hid hb1
        clear hb1
        go_wp2_with fail
        refine (HU.out _).mono ?_; rintro e w2 ⟨rfl, rfl⟩
        go_wp2_with fail
        refine (HD.out _ (HTT.out.step H1.out)).mono ?_; rintro e w2 ⟨rfl, hb2⟩
        have H2 := Lib.hid (H1.out.on hb2)
        clear hb2
        go_wp2_with fail
        go_ret2
        exact NumOut.mk rfl H2.out (fun m h => by cases h)
end Go.Proofs.YtaalopiegabghaaGreatDoor
