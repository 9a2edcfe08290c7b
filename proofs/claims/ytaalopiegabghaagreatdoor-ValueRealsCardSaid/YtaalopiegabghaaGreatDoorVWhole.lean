/- Package value: ints, names, forms. -/
import Derived.Test.YtaalopiegabghaaGreatDoorVTexts
import Derived.Test.YtaalopiegabghaaGreatDoorRNumber
import Derived.Test.YtaalopiegabghaaGreatDoorShelf
import Derived.Shelf.Strings.SlTrimAscii
import Derived.Deep.DeepCutAuto
import Derived.BigQuiet
namespace Go.Proofs.YtaalopiegabghaaGreatDoor
open Go.RowKit Go.Lib Go.WideShapes

/-- What whole gives. -/
def IntOut (n : Option Int) (w : World) (e : Ending) (w' : World) : Prop := e = .returned (.tuple #[.int .i64 (n.getD 0), .bool n.isSome]) ∧ Below w.heap.size w w'
set_option maxRecDepth 100000 in
set_option maxHeartbeats 8000000 in
theorem vwhole_any (s : ByteArray) (w : World) (hs : s.size ≤ 1000000) :
    Calls Tryz.prog 159 #[.string s] w (IntOut (intB (bytes s)) w) := by
  have hrl := rest_len (bytes s)
  rw [bytes_len] at hrl
  obtain ⟨T, hT⟩ : ∃ T : ByteArray, T = ⟨(restOf (bytes s)).toArray⟩ := ⟨_, rfl⟩
  have hbT : bytes T = restOf (bytes s) := by rw [hT, bytes_mk]
  have hTs : T.size ≤ s.size := by rw [← bytes_len, hbT]; exact hrl
  obtain ⟨sb, hsb⟩ : ∃ sb, sb = !(sgnOf (bytes s)).isEmpty := ⟨_, rfl⟩
  have HSB := Lib.hid hsb
  have HTr := Lib.hid (fun W => Any.strings_Trim_laid { Tryz.lays160 with } (by kernel_rfl) T ⟨#[48, 49, 50, 51, 52, 53, 54, 55, 56, 57]⟩ W (by omega) (by decide) (ascii_of_all (by decide)))
  obtain ⟨R, hR⟩ : ∃ R, R = intB (bytes s) := ⟨_, rfl⟩
  rw [← hR]
  have HR := Lib.hid hR
  clear hsb hR
  go_enter Tryz.func159, Tryz.ntmps159
  go_upto_region 2 with (fail)
  go_cut [19] (fun x wx => x = .bool sb ∧ wx = w)
  case first =>
    clear hrl hT hbT hTs HTr HR
    cases hl : bytes s with
    | nil =>
      have hemp : s.toList.isEmpty = true := by rw [Lib.toList_data]; show (bytes s).isEmpty = true; rw [hl]; rfl
      have HSV := Lib.hid (show false = sb by rw [HSB.out, hl]; rfl)
      clear hl
      go_wp2_with fail
      go_meet
      exact ⟨by rw [HSV.out], rfl⟩
    | cons c l =>
      obtain ⟨h0, hc⟩ := head_of hl
      have hemp : s.toList.isEmpty = false := by rw [Lib.toList_data]; show (bytes s).isEmpty = false; rw [hl]; rfl
      have h0' : (0 : Int) < s.size := by omega
      by_cases h43 : c = 43
      · subst h43
        have HSV := Lib.hid (show true = sb by rw [HSB.out, hl]; rfl)
        have hcx : (s[0]'h0).toNat = 43 := hc
        clear hl hc
        go_wp2_with fail
        go_meet
        exact ⟨by rw [HSV.out], rfl⟩
      · by_cases h45 : c = 45
        · subst h45
          have HSV := Lib.hid (show true = sb by rw [HSB.out, hl]; rfl)
          have hcx : (s[0]'h0).toNat = 45 := hc
          clear hl hc
          go_wp2_with fail
          go_meet
          exact ⟨by rw [HSV.out], rfl⟩
        · have HSV := Lib.hid (show false = sb by rw [HSB.out, hl, sgn_cons, if_neg (by simp [h43, h45])]; rfl)
          have n1 : (((s[0]'h0).toNat : Int) == 43) = false := by
            rw [beq_eq_false_iff_ne, hc]
            intro e
            have e2 : c.toNat = (43 : UInt8).toNat := by rw [show (43 : UInt8).toNat = 43 from rfl]; omega
            exact h43 (UInt8.toNat_inj.1 e2)
          have n2 : (((s[0]'h0).toNat : Int) == 45) = false := by
            rw [beq_eq_false_iff_ne, hc]
            intro e
            have e2 : c.toNat = (45 : UInt8).toNat := by rw [show (45 : UInt8).toNat = 45 from rfl]; omega
            exact h45 (UInt8.toNat_inj.1 e2)
          clear hl hc h43 h45
          go_wp2_with fail
          go_meet
          exact ⟨by rw [HSV.out], rfl⟩
  case rest =>
    obtain ⟨rfl, rfl⟩ := hcut
    go_upto_if 19 with (fail)
    go_cut [4] (fun y wx => y = .string T ∧ wx = wc)
    case first =>
      have hse := sgn_rest (bytes s)
      have hsg := sgn_of (bytes s)
      clear HTr HR hrl
      rcases hsg with e | e | e
      · rw [e] at hse
        have hsv : sb = false := by rw [HSB.out, e]; rfl
        subst hsv
        clear HSB
        have hTe : T = s := str_eq (by rw [hbT]; exact hse)
        subst hTe
        clear hse e hT hbT
        go_wp2_with fail
        go_meet
        exact ⟨rfl, rfl⟩
      · rw [e] at hse
        have hsv : sb = true := by rw [HSB.out, e]; rfl
        subst hsv
        clear HSB
        obtain ⟨h0, hc⟩ := head_of hse.symm
        have h1' : (1 : Int) ≤ s.size := by omega
        have hTe : T = s.extract 1 s.size := str_eq (by rw [hbT, bytes_extract]; unfold restOf; rw [e]; rfl)
        subst hTe
        clear hse e hT hbT hc
        go_wp2_with fail
        go_meet
        exact ⟨rfl, rfl⟩
      · rw [e] at hse
        have hsv : sb = true := by rw [HSB.out, e]; rfl
        subst hsv
        clear HSB
        obtain ⟨h0, hc⟩ := head_of hse.symm
        have h1' : (1 : Int) ≤ s.size := by omega
        have hTe : T = s.extract 1 s.size := str_eq (by rw [hbT, bytes_extract]; unfold restOf; rw [e]; rfl)
        subst hTe
        clear hse e hT hbT hc
        go_wp2_with fail
        go_meet
        exact ⟨rfl, rfl⟩
    case rest =>
      obtain ⟨rfl, rfl⟩ := hcut
      have hTl : (restOf (bytes s)).length = T.size := by rw [← bytes_len, hbT]
      have hall : allD (restOf (bytes s)) = (trimS (bytes T) tenB).isEmpty := by rw [all_ten, hbT]
      clear HSB
      by_cases h1 : T.size < 1
      · have h1' : (T.size : Int) < 1 := by omega
        have HN := Lib.hid (show R = none by rw [HR.out]; exact intB_none_of (fun h => by omega))
        clear hTl hall h1 hT hbT
        go_wp2_with fail
        go_ret2
        exact ⟨by rw [HN.out]; rfl, Below.refl _ _⟩
      by_cases h9 : 9 < T.size
      · have h1' : (1 : Int) ≤ T.size := by omega
        have h9' : (9 : Int) < T.size := by omega
        have HN := Lib.hid (show R = none by rw [HR.out]; exact intB_none_of (fun h => by omega))
        clear hTl hall h1 h9 hT hbT
        go_wp2_with fail
        go_ret2
        exact ⟨by rw [HN.out]; rfl, Below.refl _ _⟩
      have h1' : (1 : Int) ≤ T.size := by omega
      have h9' : (T.size : Int) ≤ 9 := by omega
      obtain ⟨Q, hQ⟩ : ∃ Q : ByteArray, Q = ⟨(trimS (bytes T) tenB).toArray⟩ := ⟨_, rfl⟩
      have hQe : Q.toList.isEmpty = allD (restOf (bytes s)) := by rw [hall, hQ, mk_data]
      have HQ := Lib.hid hQ
      clear hQ hall
      cases hd : allD (restOf (bytes s)) with
      | false =>
        rw [hd] at hQe
        have HN := Lib.hid (show R = none by rw [HR.out]; exact intB_none_of (fun h => by rw [hd] at h; exact absurd h.2.2 (by decide)))
        clear hTl h1 h9 hT hbT hd
        go_wp2_with fail
        refine (HTr.out _).mono ?_; rintro e w1 ⟨he, hb⟩
        have he2 : e = .returned (.string Q) := by rw [he, HQ.out]
        subst he2
        have H1 := Lib.hid hb
        clear he hb
        go_wp2_with fail
        go_ret2
        exact ⟨by rw [HN.out]; rfl, H1.out⟩
      | true =>
        rw [hd] at hQe
        have hi := intB_some_of (l := bytes s) ⟨by omega, by omega, hd⟩
        generalize (if sgB (sgnOf (bytes s)) = true then -(val (restOf (bytes s)) : Int) else val (restOf (bytes s))) = n at hi
        have hsz : s.size ≤ 18 := by
          have := sgn_rest (bytes s)
          have h2 := congrArg List.length this
          rw [List.length_append, bytes_len, hTl] at h2
          have h3 := (sgn_of (bytes s)).one
          omega
        have HN := Lib.hid (show R = some n by rw [HR.out, hi])
        have HA := Lib.hid (fun W => Tryz.strconv_Atoi s n hsz (atoi_intB hi) W)
        clear hTl h1 h9 hT hbT hd hi
        go_wp2_with fail
        refine (HTr.out _).mono ?_; rintro e w1 ⟨he, hb⟩
        have he2 : e = .returned (.string Q) := by rw [he, HQ.out]
        subst he2
        have H1 := Lib.hid hb
        clear he hb
        go_wp2_with fail
        refine (HA.out _).mono ?_; rintro e w2 ⟨rfl, t, rfl⟩
        have H2 := Lib.hid (H1.out.on (Go.Joins.below_bytesWorld _ w1 5 t (Nat.le_refl _)))
        go_wp2_with fail
        go_quiet (fail)
        go_wp2_with fail
        go_ret2
        exact ⟨by rw [HN.out]; rfl, below_drewN H2.out _⟩
end Go.Proofs.YtaalopiegabghaaGreatDoor
