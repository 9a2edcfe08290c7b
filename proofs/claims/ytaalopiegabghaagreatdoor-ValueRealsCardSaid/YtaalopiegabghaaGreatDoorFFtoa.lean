/- Go's formatting of a float, its shortest digits with a point. -/
import Derived.Test.YtaalopiegabghaaGreatDoorFBits
import Derived.Test.YtaalopiegabghaaGreatDoorFFmt
import Derived.RegionTactic
namespace Go.Proofs.YtaalopiegabghaaGreatDoor
open Go.RowKit Go.Lib Go.WideShapes

theorem Tabs.step {w w' : World} (h : Tabs w) (hb : Below w.heap.size w w') : Tabs w' := by
  have k : ∀ {g i v}, w.cell? ⟨g, i, none⟩ = some v → w'.cell? ⟨g, i, none⟩ = some v := fun {g i v} hc => (hb.cell (p := ⟨g, i, none⟩) (World.block_lt_of_cell? w ⟨g, i, none⟩ hc)).trans hc
  obtain ⟨b, o, c, h1, h2⟩ := h.ten
  obtain ⟨m, hm⟩ := h.len
  refine ⟨k h.opt, k h.mant, ⟨b, o, c, k h1, fun p hp => k (h2 p hp)⟩, ?_, fun p h0 h1 => ⟨k (h.p10 p h0 h1).1, k (h.p10 p h0 h1).2⟩, m, k hm⟩
  have hu := h.u10
  unfold Lib.TabIs World.var? at hu ⊢
  cases hg : Tryz.prog.globalNamed "internal/strconv.uint64pow10" with
  | none => simp [hg] at hu
  | some g =>
    simp only [hg, Option.bind_some] at hu ⊢
    have hlt : g < w.heap.size := by
      rcases Nat.lt_or_ge g w.heap.size with h' | h'
      · exact h'
      · rw [Array.getElem?_eq_none h'] at hu; simp at hu
    rw [hb.block g hlt]
    exact hu

/-- The text of a number of millionths, its sign ahead. -/
def milText (neg : Bool) (X : Nat) : Bs := (if neg = true then [45] else []) ++ (if X = 0 then [48] else fixed X)

set_option maxRecDepth 100000 in
set_option maxHeartbeats 8000000 in
theorem ftoa_zero (w : World) (B : Nat) (v : Value) (neg : Bool) (hB : 1 ≤ B) (hBw : B ≤ w.heap.size) (hv : w.ownsRow B 5 1 v 0 []) :
    Calls Tryz.prog 41 #[v, .float .f64 (Ieee.double.word neg 0), .int .u8 102, .int .i64 (-1)] w (FmtOut w B ((if neg = true then [45] else []) ++ [48])) := by
  have hF := bits_run
  have HD := Lib.hid (show DstAt w B 0 w v [] [] from ⟨hv, Below.refl _ _, fun e => by have := (hv.lt 0 e).1; omega, fun j c h => by simp at h, by omega, hBw⟩)
  have HZ := Lib.hid (fun W (h : DstAt w B 0 W v [] []) => fmt_zero w W B 0 v neg h)
  obtain ⟨b, hb⟩ : ∃ b, b = Ieee.double.word neg 0 := ⟨_, rfl⟩
  rw [← hb]
  have f1 : ((b : Int) / 9223372036854775808 != 0) = neg := by rw [hb]; cases neg <;> decide
  have f2 : bits BinOp.and .i64 ((b : Int) / 4503599627370496) 2047 = 0 := by rw [hb]; cases neg <;> decide
  have f3 : bits BinOp.and .u64 (b : Int) 4503599627370495 = 0 := by rw [hb]; cases neg <;> decide
  have f4 : (b : Int) < 18446744073709551616 := by rw [hb]; cases neg <;> decide
  obtain ⟨R, hR⟩ : ∃ R, R = (if neg = true then [45] else [] : Bs) ++ [48] := ⟨_, rfl⟩
  rw [← hR] at HZ ⊢
  clear hb hR
  go_enter Tryz.func41, Tryz.ntmps41
  go_wp2_with fail
  go_quiet (fail)
  have HD2 := Lib.hid (HD.out.drewN nq)
  go_wp2_with fail
  refine (HZ.out _ HD2.out).mono ?_; rintro e w' ⟨v', rfl, hO, hbl⟩
  have HO := Lib.hid hO; have HBL := Lib.hid hbl
  clear hO hbl
  go_wp2_with fail
  go_ret
  exact ⟨_, rfl, HO.out, HBL.out⟩

theorem fmt_some (w0 w : World) (B gb : Nat) (v : Value) (neg : Bool) (T : Bs) (H : DstAt w0 B gb w v [] T) (hT : T.length ≤ 30) (hT0 : 0 < T.length) (dp q : Int) (h1 : -30 ≤ dp) (h2 : dp ≤ 30) (hq : q = max ((T.length : Int) - dp) 0) :
    Calls Tryz.prog 59 #[v, .bool neg, .slice (some ⟨gb, 0, none⟩) 32 32, .int .i64 dp, .int .i64 T.length, .int .i64 q, .int .u8 102, .bool true] w (FmtOut w0 B ((if neg = true then [45] else []) ++ fText T dp)) := by
  obtain ⟨qn, rfl⟩ : ∃ qn : Nat, q = qn := ⟨q.toNat, by omega⟩
  by_cases h : 1 ≤ dp
  · obtain ⟨P, rfl⟩ : ∃ P : Nat, dp = P := ⟨dp.toNat, by omega⟩
    exact fmt_pos w0 w B gb v neg T H hT P qn (by omega) (by omega) (by omega)
  · obtain ⟨z, rfl⟩ : ∃ z : Nat, dp = -(z : Int) := ⟨(-dp).toNat, by omega⟩
    exact fmt_neg w0 w B gb v neg T H hT z qn (by omega) hT0 (by omega)

theorem dst_of {w w2 w4 : World} {B : Nat} {v : Value} {T : Bs} (hBw : B ≤ w.heap.size) (hv : w.ownsRow B 5 1 v 0 []) (hb : Below w.heap.size w w2) (hg : w2.drew.grownBy w4 (some w.heap.size)) (hs : w.heap.size < w2.heap.size) (hT : ∀ (j : Nat) (c : UInt8), T[j]? = some c → w4.cell? ⟨w.heap.size, j, none⟩ = some (.int .u8 (c.toNat : Nat))) : DstAt w B w.heap.size w4 v [] T := by
  have hne : v.ownBlock ≠ some w.heap.size := fun e => by have := (hv.lt _ e).2; omega
  have hg' : w2.drew.heap.size ≤ w4.heap.size := hg.size
  have hd : w2.drew.heap.size = w2.heap.size := rfl
  refine ⟨?_, ?_, hne, hT, by omega, by omega⟩
  · have h2 : w2.ownsRow B 5 1 v 0 [] := hv.kept (row := none) ⟨hb.os, hb.tape, hb.output, hb.size, fun k hk _ => hb.block k hk⟩ (by cases hv : v.ownBlock <;> simp)
    exact h2.drew.kept hg (.inr hne)
  · exact below_grown ((hb.mono hBw).drew) (by omega) hg (fun q hq => by cases hq; exact hBw)

def Zeros (w : World) (gb : Nat) : Prop := ∀ j, j < 32 → w.cell? ⟨gb, j, none⟩ = some (.int .u8 0) ∧ w.frozen? ⟨gb, j, none⟩ = false
theorem zeros_of (w W : World) (t : TypeId) (h : W = w.alloc (.cells #[.int .u8 0, .int .u8 0, .int .u8 0, .int .u8 0, .int .u8 0, .int .u8 0, .int .u8 0, .int .u8 0, .int .u8 0, .int .u8 0, .int .u8 0, .int .u8 0, .int .u8 0, .int .u8 0, .int .u8 0, .int .u8 0, .int .u8 0, .int .u8 0, .int .u8 0, .int .u8 0, .int .u8 0, .int .u8 0, .int .u8 0, .int .u8 0, .int .u8 0, .int .u8 0, .int .u8 0, .int .u8 0, .int .u8 0, .int .u8 0, .int .u8 0, .int .u8 0] t)) : Zeros W w.heap.size := by
  intro j hj
  rw [h]
  refine ⟨?_, World.frozen?_alloc_new w _ _ _⟩
  rw [World.cell?_alloc_new]
  rw [show (#[.int .u8 0, .int .u8 0, .int .u8 0, .int .u8 0, .int .u8 0, .int .u8 0, .int .u8 0, .int .u8 0, .int .u8 0, .int .u8 0, .int .u8 0, .int .u8 0, .int .u8 0, .int .u8 0, .int .u8 0, .int .u8 0, .int .u8 0, .int .u8 0, .int .u8 0, .int .u8 0, .int .u8 0, .int .u8 0, .int .u8 0, .int .u8 0, .int .u8 0, .int .u8 0, .int .u8 0, .int .u8 0, .int .u8 0, .int .u8 0, .int .u8 0, .int .u8 0] : Array Value) = Array.replicate 32 (.int .u8 0) from rfl, Array.getElem?_replicate, if_pos hj]
theorem zeros_on {w w' : World} {gb : Nat} (h : Zeros w gb) (hb : Below w.heap.size w w') (hg : gb < w.heap.size) : Zeros w' gb := by
  intro j hj
  obtain ⟨a, b⟩ := h j hj
  exact ⟨(World.cell?_of_block (a := ⟨gb, j, none⟩) (hb.block gb hg)).trans a, (World.frozen?_of_block (a := ⟨gb, j, none⟩) (hb.block gb hg)).trans b⟩

/-- What the digits are. -/
theorem digits_of {m k X : Nat} (hm : 4503599627370496 ≤ m) (hm2 : m < 9007199254740992) (hk0 : 23 ≤ k) (hk : k ≤ 72) (hN : Near m k X) (hX : 0 < X) :
    ∃ D L T : _, ∃ nT : Nat, D = X * 10 ^ (shortP m k - 7) ∧ 0 < D ∧ D < 18446744073709551616 ∧ nDigits D ≤ 20 ∧ L = decDigits D ∧ T = trimZ L ∧ nT = T.length ∧ 0 < nT ∧ nT ≤ 20 ∧ (∀ (j : Nat) (c : UInt8), T[j]? = some c → L[j]? = some c) ∧ fText T ((L.length : Int) + -((shortP m k : Int) - 1)) = fixed X ∧ -6 ≤ (L.length : Int) + -((shortP m k : Int) - 1) ∧ (L.length : Int) + -((shortP m k : Int) - 1) ≤ 20 := by
  obtain ⟨r1, r2, r3, r4⟩ := shortP_range (m := m) hk0 hk
  obtain ⟨s, A1, A2, hS⟩ := scaled_of (odd := 0) (lo := if m = 4503599627370496 then (4 * m - 1) * 512 else (2 * m - 1) * 1024) (hi := (2 * m + 1) * 1024) hm hm2 hk0 hk hN (by decide) rfl rfl
  have hD0 : 0 < X * 10 ^ (shortP m k - 7) := Nat.mul_pos hX (Nat.pow_pos (by decide))
  have hD : X * 10 ^ (shortP m k - 7) < 18446744073709551616 := by
    have a := hS.div; have b := hS.a2; have c := hS.u2
    omega
  have hn : nDigits (X * 10 ^ (shortP m k - 7)) ≤ 20 := by have := Lib.numDigits_eq _ hD0 hD; split at this <;> omega
  have hlen : (decDigits (X * 10 ^ (shortP m k - 7))).length = (decDigits X).length + (shortP m k - 7) := by rw [decDigits_pow hX, List.length_append, List.length_replicate]
  have hpos := decDigits_pos X
  have hTl := trimZ_length (decDigits (X * 10 ^ (shortP m k - 7)))
  have hLl := decDigits_length (X * 10 ^ (shortP m k - 7))
  have hX15 : (decDigits X).length ≤ 20 := by omega
  refine ⟨_, _, _, _, rfl, hD0, hD, hn, rfl, rfl, rfl, trimZ_pos hD0, by omega, ?_, fixed_of hX r1, by omega, by omega⟩
  intro j c hj
  rw [← trimZ_take] at hj
  rw [List.getElem?_take] at hj
  split at hj
  · exact hj
  · cases hj

set_option maxRecDepth 100000 in
set_option maxHeartbeats 16000000 in
theorem ftoa_some (w : World) (B : Nat) (v : Value) (neg : Bool) (m k X : Nat) (hT : Tabs w) (hBw : B ≤ w.heap.size) (hv : w.ownsRow B 5 1 v 0 []) (hm : 4503599627370496 ≤ m) (hm2 : m < 9007199254740992) (hk0 : 23 ≤ k) (hk : k ≤ 72) (hN : Near m k X) (hX : 0 < X) :
    Calls Tryz.prog 41 #[v, .float .f64 (fword neg (1074 - k) m), .int .u8 102, .int .i64 (-1)] w (FmtOut w B ((if neg = true then [45] else []) ++ fixed X)) := by
  have hF := bits_run
  obtain ⟨R, hR⟩ : ∃ R, R = (if neg = true then [45] else [] : Bs) ++ fixed X := ⟨_, rfl⟩
  rw [← hR]
  have HR := Lib.hid hR
  clear hR
  obtain ⟨D, L, T, nT, hD, hD0, hD1, hD2, hL, hTr, hnT, hnT0, hnT1, hTL, hfx, hdp0, hdp1⟩ := digits_of hm hm2 hk0 hk hN hX
  have hBO := bits_of (neg := neg) hm hm2 hk0 hk
  obtain ⟨b, hb⟩ : ∃ b, b = fword neg (1074 - k) m := ⟨_, rfl⟩
  rw [← hb] at hBO ⊢
  obtain ⟨f1, f2, f3, f4, f5⟩ := hBO
  obtain ⟨E, hE⟩ : ∃ E : Int, E = 52 - k := ⟨_, rfl⟩
  obtain ⟨e0, he0⟩ : ∃ e0, e0 = 1075 - k := ⟨_, rfl⟩
  obtain ⟨m0, hm0⟩ : ∃ m0, m0 = m - 4503599627370496 := ⟨_, rfl⟩
  rw [← he0] at f2
  rw [← hm0] at f3 f4
  have g1 : ((e0 : Int) == 2047) = false := by rw [beq_eq_false_iff_ne]; omega
  have g2 : ((e0 : Int) == 0) = false := by rw [beq_eq_false_iff_ne]; omega
  have g3 : (e0 : Int) + -1023 = E := by omega
  have g4 : ((m : Int) == 0) = false := by rw [beq_eq_false_iff_ne]; omega
  obtain ⟨M64, hM⟩ : ∃ M64, M64 = m * 2048 := ⟨_, rfl⟩
  have g5 : (m : Int) * 2048 = M64 := by omega
  have g6 : (M64 : Int) < 18446744073709551616 := by omega
  have g7 : -30 ≤ E + 50 ∧ E ≤ 30 := by omega
  have g8 : (m : Int) < 9007199254740992 := by omega
  have HLEN := Lib.hid (fun W => Tryz.bits_Len64 (m : Int) W (by omega) (by omega))
  rw [Int.toNat_natCast, bitLen_53 hm hm2] at HLEN
  have f5' : (b : Int) < 18446744073709551616 := by omega
  have HSH := Lib.hid (fun W hTW => short_any m k X M64 (E - 11 - 52) W hTW hM (by omega) hm hm2 hk0 hk hN)
  rw [← hD] at HSH
  obtain ⟨r1, r2, r3, r4⟩ := shortP_range (m := m) hk0 hk
  obtain ⟨p, hp⟩ : ∃ p, p = shortP m k := ⟨_, rfl⟩
  rw [← hp] at HSH hfx hdp0 hdp1
  have hp1 : p ≤ 60 := by omega
  have HT := Lib.hid hT; have HV := Lib.hid hv
  have HDD := Lib.hid (And.intro hD0 (And.intro hD1 hD2)); have HG6 := Lib.hid g6; have HF4 := Lib.hid f4; have HG5 := Lib.hid g5
  have HLD := Lib.hid hL; have HTR := Lib.hid hTr; have HNT := Lib.hid hnT; have HTL := Lib.hid hTL; have HFX := Lib.hid hfx
  clear r1 r2 r3 r4 hb hE he0 hm0 hM hp hm hm2 hk0 hk hN hX f5 hT hv hD hD0 hD1 hD2 g6 f4 g5 hL hTr hnT hTL hfx
  go_enter Tryz.func41, Tryz.ntmps41
  go_wp2_with fail
  go_quiet (fail)
  have f4 := HF4.out
  have g5 := HG5.out
  have g6 := HG6.out
  go_wp2_with fail
  refine (HLEN.out _).mono ?_; rintro e w2 ⟨rfl, rfl⟩
  clear f1 f2 f3 f4 f5'
  go_wp2_with fail
  generalize hW1 : World.alloc (w.drewN nq) (Obj.cells #[.int .u8 0, .int .u8 0, .int .u8 0, .int .u8 0, .int .u8 0, .int .u8 0, .int .u8 0, .int .u8 0, .int .u8 0, .int .u8 0, .int .u8 0, .int .u8 0, .int .u8 0, .int .u8 0, .int .u8 0, .int .u8 0, .int .u8 0, .int .u8 0, .int .u8 0, .int .u8 0, .int .u8 0, .int .u8 0, .int .u8 0, .int .u8 0, .int .u8 0, .int .u8 0, .int .u8 0, .int .u8 0, .int .u8 0, .int .u8 0, .int .u8 0, .int .u8 0] 105) = W1
  have HC1 := Lib.hid (zeros_of (w.drewN nq) W1 105 hW1.symm)
  have hb1 : Below w.heap.size w W1 := hW1 ▸ (below_drewN (Below.refl w.heap.size w) nq).alloc (Nat.le_refl _) _
  have HW1 := Lib.hid hb1
  have HT1 := Lib.hid (HT.out.step hb1)
  have HS1 := Lib.hid (show w.heap.size < W1.heap.size by rw [← hW1, World.size_alloc]; exact Nat.lt_succ_self _)
  clear hW1 hb1 g5 g6
  refine (HSH.out W1 HT1.out).mono ?_; rintro e w2 ⟨rfl, hb2⟩
  have HB2 := Lib.hid (HW1.out.trans (hb2.mono (Nat.le_of_lt HS1.out)))
  have HC2 := Lib.hid (zeros_on HC1.out hb2 HS1.out)
  have HS2 := Lib.hid (Nat.lt_of_lt_of_le HS1.out hb2.size)
  have HT2 := Lib.hid (HT1.out.step hb2)
  have HND := Lib.hid (Tryz.internal_strconv_numDigits D HDD.out.1 HDD.out.2.1)
  have HSD := Lib.hid (fun W (hc : Zeros W w.heap.size) => setdigits_any W w.heap.size D (-((p : Int) - 1)) hc HDD.out.2.1 (by have := HDD.out.2.2; omega) (by omega))
  unfold SetOut at HSD
  rw [← HLD.out, ← HTR.out, ← HNT.out] at HSD
  obtain ⟨dp, hdp⟩ : ∃ dp : Int, dp = (L.length : Int) + -((p : Int) - 1) := ⟨_, rfl⟩
  rw [← hdp] at HSD hdp0 hdp1
  have HFX2 := Lib.hid (show fText T dp = fixed X by rw [hdp]; exact HFX.out)
  clear hb2 hdp HFX
  go_wp2_with fail
  go_region_with (first | (go_at_call 63; refine (HND.out _ (by first | exact HT2.out.u10 | exact (HT2.out.step (Below.refl _ _).drew).u10)).mono ?_; rintro e w3 ⟨rfl, rfl⟩) | (go_at_call 62; refine (HSD.out _ (by exact HC2.out)).mono ?_; rintro e w4 ⟨rfl, hg4, hc4⟩; have HG4 := Lib.hid hg4; have HC4 := Lib.hid hc4; clear hg4 hc4))
  have HD4 := Lib.hid (dst_of hBw HV.out HB2.out HG4.out HS2.out (fun j c hj => HC4.out j c (HTL.out j c hj)))
  have HFM := Lib.hid (fun W (h : DstAt w B w.heap.size W v [] T) => fmt_some w W B w.heap.size v neg T h (by rw [← HNT.out]; omega) (by rw [← HNT.out]; exact hnT0) dp (max ((nT : Int) - dp) 0) (by omega) (by omega) (by rw [← HNT.out]))
  rw [← HNT.out, HFX2.out, ← HR.out] at HFM
  clear HSD HND HSH HT HT1 HT2 HC1 HC2 HC4 HG4 HB2 HS2 HS1 HW1
  simp [Act.put]
  go_wp2_with fail
  refine (HFM.out w4 HD4.out).mono ?_; rintro e w5 ⟨v', rfl, hO, hbl⟩
  have HO := Lib.hid hO; have HBL := Lib.hid hbl
  clear hO hbl
  go_wp2_with fail
  go_ret
  exact ⟨_, rfl, HO.out, HBL.out⟩

theorem ftoa_any (w : World) (B : Nat) (v : Value) (neg : Bool) (X b : Nat) (hT : Tabs w) (hB : 1 ≤ B) (hBw : B ≤ w.heap.size) (hv : w.ownsRow B 5 1 v 0 []) (hX : FltOf neg X b) :
    Calls Tryz.prog 41 #[v, .float .f64 b, .int .u8 102, .int .i64 (-1)] w (FmtOut w B (milText neg X)) := by
  unfold milText
  rcases hX with ⟨rfl, rfl⟩ | ⟨h0, h1, m, k, hm, hm2, hk0, hk, hN, rfl⟩
  · rw [if_pos rfl]; exact ftoa_zero w B v neg hB hBw hv
  · rw [if_neg (show ¬ X = 0 by omega)]; exact ftoa_some w B v neg m k X hT hBw hv hm hm2 hk0 hk hN h0
end Go.Proofs.YtaalopiegabghaaGreatDoor
