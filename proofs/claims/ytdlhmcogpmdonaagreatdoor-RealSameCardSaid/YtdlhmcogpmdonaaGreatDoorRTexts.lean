/- The laws' own texts of numbers. -/
import Derived.Test.YtdlhmcogpmdonaaGreatDoorRShown
namespace Go.Proofs.YtdlhmcogpmdonaaGreatDoor
open Go.RowKit Go.Lib Go.WideShapes

theorem pad_cons : ∀ k n, pad (k + 1) n = UInt8.ofNat (48 + n / 10 ^ k % 10) :: pad k n
  | 0, n => by rw [pad, pad, pad, Nat.pow_zero, Nat.div_one]; rfl
  | k + 1, n => by
    rw [pad, pad_cons k (n / 10), pad, Nat.div_div_eq_div_mul, Nat.pow_succ, Nat.mul_comm 10]; rfl
theorem val_pad_mod : ∀ k n, val (pad k n) = n % 10 ^ k
  | 0, n => by rw [Nat.pow_zero, Nat.mod_one]; rfl
  | k + 1, n => by
    rw [pad, val_snoc, val_pad_mod k (n / 10), (dg_one (Nat.mod_lt n (by decide : 10 > 0))).2, Nat.pow_succ, Nat.mul_comm (10 ^ k) 10, Nat.mod_mul]; omega
/-- A number of millionths, nine digits and six. -/
def dm (v : Nat) : Dcm := ⟨pad 9 (v / 1000000), true, pad 6 v⟩
theorem dm_ok (v : Nat) : (dm v).ok :=
  ⟨fun c hc => pad_dg _ _ c hc, fun c hc => pad_dg _ _ c hc, (fun h => by cases h), by show 1 ≤ (pad 9 _).length + (pad 6 _).length; rw [pad_length, pad_length]; decide, by show (pad 9 _).length ≤ 9; rw [pad_length]; exact Nat.le_refl _, by show (pad 6 _).length ≤ 6; rw [pad_length]; exact Nat.le_refl _⟩
theorem dm_mil {v : Nat} (h : v < 1000000000000000) : (dm v).mil = v := by
  unfold Dcm.mil Dcm.man dm
  simp only
  rw [pad_length, val_append, pad_length, val_pad_mod, val_pad_mod]
  rw [Nat.sub_self, Nat.pow_zero, Nat.mul_one]
  rw [Nat.mod_eq_of_lt (by omega : v / 1000000 < 10 ^ 9)]
  omega
def txt (neg : Bool) (v : Nat) : Bs := (if neg = true then [45] else []) ++ (dm v).text
theorem txt_len (neg : Bool) (v : Nat) : (txt neg v).length ≤ 17 := by
  unfold txt
  rw [List.length_append]
  have := (dm_ok v).short
  cases neg <;> simp <;> omega
theorem txt_num (neg : Bool) {v : Nat} (h : v < 1000000000000000) : numB (txt neg v) = some (.fin neg v) := by
  unfold txt
  rw [num_of _ (by cases neg; exact .inl rfl; exact .inr (.inr rfl)) (dm_ok v), dm_mil h]
  cases neg <;> rfl
/-- Which number is meant. -/
def negI (n : Int) : Bool := decide (n < 0)
def magI (n : Int) : Nat := (if n < 0 then -(n + 1) else n).toNat % 1000000000000000
theorem magI_lt (n : Int) : magI n < 1000000000000000 := Nat.mod_lt _ (by decide)
/-- How the text of a number grows. -/
def grow (v i : Nat) : Bs := if i ≤ 6 then pad i v else pad (i - 6) (v / 1000000) ++ 46 :: pad 6 v
theorem grow_len (v i : Nat) (h : i ≤ 15) : (grow v i).length ≤ 16 := by
  unfold grow
  split
  · rw [pad_length]; omega
  · rw [List.length_append, List.length_cons, pad_length, pad_length]; omega
theorem grow_next {v i : Nat} (h : i ≠ 6) : grow v (i + 1) = UInt8.ofNat (48 + v / 10 ^ i % 10) :: grow v i := by
  unfold grow
  by_cases h6 : i ≤ 6
  · rw [if_pos h6, if_pos (by omega), pad_cons]
  · rw [if_neg h6, if_neg (by omega), show i + 1 - 6 = (i - 6) + 1 by omega, pad_cons, Nat.div_div_eq_div_mul]
    rw [show 1000000 * 10 ^ (i - 6) = 10 ^ i by rw [show (1000000 : Nat) = 10 ^ 6 from rfl, ← Nat.pow_add]; congr 1; omega]
    rfl
theorem grow_dot (v : Nat) : grow v 7 = UInt8.ofNat (48 + v / 10 ^ 6 % 10) :: 46 :: grow v 6 := by
  unfold grow
  rw [if_neg (by decide), if_pos (by decide), show 7 - 6 = 0 + 1 from rfl, pad_cons, Nat.pow_zero, Nat.div_one]; rfl
theorem grow_all (v : Nat) : grow v 15 = (dm v).text := by
  unfold grow Dcm.text dm
  rw [if_neg (by decide), if_pos rfl]

abbrev tenS : ByteArray := { data := #[48, 49, 50, 51, 52, 53, 54, 55, 56, 57] }
theorem ten_cut (d : Nat) (h : d < 10) : bytes (tenS.extract d (d + 1)) = [UInt8.ofNat (48 + d)] := by
  have H : ∀ d, d < 10 → bytes (tenS.extract d (d + 1)) = [UInt8.ofNat (48 + d)] := by decide
  exact H d h
set_option maxRecDepth 100000 in
set_option maxHeartbeats 8000000 in
theorem text_any (n : Int) (w : World) (hn : -9223372036854775808 ≤ n ∧ n ≤ 9223372036854775807) :
    Calls Tryz.prog 17 #[.int .i64 n] w fun e w' => e = .returned (.string ⟨(txt (negI n) (magI n)).toArray⟩) ∧ w = w' := by
  obtain ⟨n1, n2⟩ := hn
  obtain ⟨u, hu⟩ : ∃ u : Nat, (u : Int) = if n < 0 then -(n + 1) else n := ⟨(if n < 0 then -(n + 1) else n).toNat, by split <;> omega⟩
  obtain ⟨v, hv⟩ : ∃ v, v = magI n := ⟨_, rfl⟩
  have hvu : v = u % 1000000000000000 := by rw [hv]; unfold magI; rw [← hu, Int.toNat_natCast]
  have hvl : v < 1000000000000000 := by omega
  have hul : (u : Int) ≤ 9223372036854775807 := by split at hu <;> omega
  rw [← hv]
  clear hv
  rw [show txt (negI n) v = (if negI n = true then [45] else []) ++ grow v 15 by rw [grow_all]; rfl]
  obtain ⟨sg, hsg⟩ : ∃ sg, sg = (if negI n = true then [(45 : UInt8)] else []) := ⟨_, rfl⟩
  obtain ⟨S, hS⟩ : ∃ S : ByteArray, S = ⟨sg.toArray⟩ := ⟨_, rfl⟩
  have hsl : sg.length ≤ 1 := by rw [hsg]; split <;> decide
  have hSs : S.size ≤ 1 := by rw [hS, size_mk]; exact hsl
  obtain ⟨R, hR⟩ : ∃ R : ByteArray, R = ⟨(sg ++ grow v 15).toArray⟩ := ⟨_, rfl⟩
  rw [← hsg, ← hR]
  have HSG := Lib.hid hsg; have HS := Lib.hid hS; have HR := Lib.hid hR
  clear hsg hS hR hsl
  go_enter Tryz.func17, Tryz.ntmps17
  go_upto_if 7 with (fail)
  go_cut [0, 3] (fun x y wx => x = .int .i64 u ∧ y = .string S ∧ wx = w)
  case first =>
    have HU := Lib.hid hu
    clear hu hvu
    by_cases h : n < 0
    · have hng : negI n = true := decide_eq_true h
      have HX := Lib.hid (show -(n + 1) = (u : Int) by rw [HU.out, if_pos h])
      have HG := Lib.hid (show ({ data := #[45] } : ByteArray) = S by rw [HS.out, HSG.out, hng]; rfl)
      clear hng
      go_wp2_with fail
      go_meet
      exact ⟨by rw [HX.out], by rw [HG.out], rfl⟩
    · have hng : negI n = false := decide_eq_false h
      have HX := Lib.hid (show n = (u : Int) by rw [HU.out, if_neg h])
      have HG := Lib.hid (show ({ data := #[] } : ByteArray) = S by rw [HS.out, HSG.out, hng]; rfl)
      have h' : 0 ≤ n := by omega
      clear hng h
      go_wp2_with fail
      go_meet
      exact ⟨by rw [HX.out], by rw [HG.out], rfl⟩
  case rest =>
    obtain ⟨rfl, rfl, rfl⟩ := hcut
    have hmod : (u : Int) % 1000000000000000 = (v : Nat) := by omega
    clear hu hvu n1 n2
    have HMOD := Lib.hid hmod
    clear hmod
    go_wp2_with fail
    go_loopg [0, 4, 5] 15 (fun g x y z wr => ∃ (i : Nat) (G : ByteArray), x = .int .i64 (v / 10 ^ i : Nat) ∧ y = .string G ∧ z = .int .i64 i ∧ i ≤ 15 ∧ g = 15 - i ∧ wr = wc ∧ bytes G = grow v i)
    case atStart => exact ⟨0, _, by rw [Nat.pow_zero, Nat.div_one, HMOD.out], rfl, rfl, by decide, rfl, rfl, rfl⟩
    case round =>
      obtain ⟨i, G, rfl, rfl, rfl, hi, hg, rfl, hG⟩ := hrel
      have HGG := Lib.hid hg
      have hGs : G.size ≤ 16 := by rw [← bytes_len, hG]; exact grow_len v i hi
      have HGB := Lib.hid hG
      clear hg hG
      by_cases h15 : i < 15
      · have h15' : (i : Int) < 15 := by omega
        obtain ⟨q, hq⟩ : ∃ q, q = v / 10 ^ i := ⟨_, rfl⟩
        have hq1 : q ≤ v := by rw [hq]; exact Nat.div_le_self _ _
        have HQ := Lib.hid (show q / 10 = v / 10 ^ (i + 1) by rw [hq, Nat.div_div_eq_div_mul, Nat.pow_succ])
        obtain ⟨d, hd⟩ : ∃ d, d = q % 10 := ⟨_, rfl⟩
        have hdl : d < 10 := by omega
        have hm : (q : Int) % 10 = (d : Nat) := by omega
        have hm0 : (d : Int) + 1 ≤ 10 := by omega
        have HC := Lib.hid (ten_cut d hdl)
        have HD := Lib.hid (show d = v / 10 ^ i % 10 by rw [hd, hq])
        rw [← hq]
        clear hq hd
        by_cases h6 : i = 6
        · have h6' : ((i : Int) == 6) = true := by rw [h6]; rfl
          have HN := Lib.hid (show bytes (tenS.extract d (d + 1) ++ ({ data := #[46] } ++ G)) = grow v (i + 1) by
            rw [bytes_cat, bytes_cat, HC.out, HGB.out, HD.out, h6, grow_dot]; rfl)
          clear h6
          go_wp2_with fail
          go_roundg (15 - (i + 1))
          case measure => have := HGG.out; omega
          case rel => exact ⟨i + 1, _, by rw [← HQ.out]; go_num, rfl, by go_num, by omega, rfl, rfl, HN.out⟩
        · have h6' : ((i : Int) == 6) = false := by rw [beq_eq_false_iff_ne]; omega
          have HN := Lib.hid (show bytes (tenS.extract d (d + 1) ++ G) = grow v (i + 1) by
            rw [bytes_cat, HC.out, HGB.out, HD.out, grow_next h6]; rfl)
          clear h6
          go_wp2_with fail
          go_roundg (15 - (i + 1))
          case measure => have := HGG.out; omega
          case rel => exact ⟨i + 1, _, by rw [← HQ.out]; go_num, rfl, by go_num, by omega, rfl, rfl, HN.out⟩
      · obtain rfl : i = 15 := by omega
        have HN := Lib.hid (show S ++ G = R from str_eq (by rw [bytes_cat, HGB.out, HR.out, bytes_mk, HS.out, bytes_mk]))
        clear h15 hi
        go_wp2_with fail
        go_ret
        exact ⟨by rw [← HN.out]; rfl, rfl⟩

set_option maxHeartbeats 4000000 in
theorem minus_any (s : ByteArray) (neg : Bool) (v : Nat) (w : World) (hs : bytes s = txt neg v) :
    Calls Tryz.prog 18 #[.string s] w fun e w' => e = .returned (.string ⟨(txt (!neg) v).toArray⟩) ∧ w = w' := by
  have hlen : s.size ≤ 17 := by rw [← bytes_len, hs]; exact txt_len neg v
  cases neg with
  | true =>
    have hl : bytes s = 45 :: (dm v).text := hs
    obtain ⟨h0, hc⟩ := head_of hl
    have hcx : (s[0]'h0).toNat = 45 := hc
    have hemp : s.toList.isEmpty = false := by rw [Lib.toList_data]; show (bytes s).isEmpty = false; rw [hl]; rfl
    have h0' : (0 : Int) < s.size := by omega
    have h1' : (1 : Int) ≤ s.size := by omega
    have HE := Lib.hid (show s.extract 1 s.size = ⟨(txt (!true) v).toArray⟩ from str_eq ((bytes_extract s 1).trans (by rw [hl, bytes_mk]; rfl)))
    obtain ⟨R, hR⟩ : ∃ R : ByteArray, R = ⟨(txt (!true) v).toArray⟩ := ⟨_, rfl⟩
    rw [← hR] at HE ⊢
    clear hl hs hc hR
    go_enter Tryz.func18, Tryz.ntmps18
    go_wp2_with fail
    go_ret
    exact ⟨by rw [← HE.out]; rfl, rfl⟩
  | false =>
    have ho := (dm_ok v).pos
    obtain ⟨c, l, hct⟩ : ∃ c l, (dm v).text = c :: l := by
      cases he : (dm v).text with
      | nil => rw [he] at ho; cases ho
      | cons c t => exact ⟨c, t, rfl⟩
    have hb := (dm_ok v).byte (c := c) (by rw [hct]; exact List.mem_cons_self)
    have hl : bytes s = c :: l := hs.trans hct
    obtain ⟨h0, hc⟩ := head_of hl
    have n1 : (((s[0]'h0).toNat : Int) == 45) = false := by rw [beq_eq_false_iff_ne, hc]; omega
    have hemp : s.toList.isEmpty = false := by rw [Lib.toList_data]; show (bytes s).isEmpty = false; rw [hl]; rfl
    have h0' : (0 : Int) < s.size := by omega
    have HE := Lib.hid (show { data := #[45] } ++ s = (⟨(txt (!false) v).toArray⟩ : ByteArray) from str_eq (by rw [bytes_cat, bytes_mk, hs]; rfl))
    obtain ⟨R, hR⟩ : ∃ R : ByteArray, R = ⟨(txt (!false) v).toArray⟩ := ⟨_, rfl⟩
    rw [← hR] at HE ⊢
    clear hl hs hc hR hct ho hb
    go_enter Tryz.func18, Tryz.ntmps18
    go_wp2_with fail
    go_ret
    exact ⟨by rw [← HE.out]; rfl, rfl⟩
end Go.Proofs.YtdlhmcogpmdonaaGreatDoor
