/- Contracts and mathematics: GFault, MTextsM, First. -/
import Derived.Test.YtpijolcklmdjbaaGreatDoorZ28
import Derived.Test.YtpijolcklmdjbaaGreatDoorZ29
import Derived.Test.YtpijolcklmdjbaaGreatDoorRows
import Derived.Test.YtpijolcklmdjbaaGreatDoorZ27
import Derived.BigQuiet
import Derived.Deep.QuietTactic
import Derived.RegionTactic
import Derived.Defers
import Derived.Recover
import Derived.WalkLawsBesides
import Derived.WalkSpells
namespace Go.Proofs.YtpijolcklmdjbaaGreatDoor
open Go.RowKit Go.Lib Go.WideShapes

set_option maxRecDepth 100000 in
set_option maxHeartbeats 8000000 in
theorem together_any (w : World) (p : Option Addr) (L : List Mg) (n c : Nat) (hn : L.length = n) (hc : n ≤ c) (hn2 : n ≤ 9000) (hA : MsgsAt w p L) (hr : ∀ x ∈ L, room ⟨x.T, x.N, []⟩ ≤ 800000) :
    Calls Tryz.prog 25 #[.slice p n c] w fun e w' => e = .returned (.tuple #[.string (togS L), .int .i64 (togE L)]) ∧ Below w.heap.size w w' := by
  have HA := Lib.hid hA
  have HN := Lib.hid hn
  have HR := Lib.hid hr
  have HG0 := Lib.hid (gB_new w)
  have hnc : (n : Int) ≤ c := by omega
  clear hA hn hr hc
  go_enter Tryz.func25, Tryz.ntmps25
  go_wp2_with fail
  go_loopg [12] n (fun g v wr => ∃ k : Nat, v = .int .i64 k ∧ k ≤ n ∧ g = n - k ∧ togE L = togE (L.drop k) ∧ (togB (L.take k)).length ≤ 10005 * k ∧ GB w.heap.size w.heap.size (togB (L.take k)) wr ∧ Below w.heap.size w wr ∧ w.heap.size < wr.heap.size)
  case atStart => exact ⟨0, rfl, Nat.zero_le _, rfl, rfl, by simp [togB], HG0.out, (Below.refl _ _).alloc (Nat.le_refl _) _, by simp⟩
  case round =>
    obtain ⟨k, rfl, hk, hg, hE, hlen, hG, hb, hz⟩ := hrel
    have HE := Lib.hid hE; have HG := Lib.hid hG; have HB := Lib.hid hb; have HGG := Lib.hid hg; have HL := Lib.hid hlen; have HZ := Lib.hid hz
    clear hE hG hb hg hlen hz
    by_cases hlt : k < n
    · have hlt' : (k : Int) < n := by omega
      have HK := Lib.hid (show k < L.length by rw [HN.out]; exact hlt)
      have HA1 := Lib.hid (HA.out.step HB.out)
      have htd := tog_drop HK.out
      have htt := tog_take HK.out
      have hx := List.getElem?_eq_getElem HK.out
      have hmem := List.getElem_mem HK.out
      generalize L[k]'HK.out = x at htd htt hx hmem
      have HTD := Lib.hid htd; have HTT := Lib.hid htt
      have HRX := Lib.hid (HR.out x hmem)
      obtain ⟨g, off, rfl, hgl, hcl⟩ : ∃ g off, p = some ⟨g, off, none⟩ ∧ g < wr.heap.size ∧ ∀ (i : Nat) x, L[i]? = some x → ∃ a n c b m d, wr.cell? ⟨g, off + i * 3, none⟩ = some (.int .u8 (x.c.toNat : Nat)) ∧ wr.cell? ⟨g, off + i * 3 + 1, none⟩ = some (.slice a n c) ∧ wr.cell? ⟨g, off + i * 3 + 2, none⟩ = some (.slice b m d) ∧ TextsIn wr (.slice a n c) x.T ∧ NumsIn wr (.slice b m d) x.N := by
        rcases HA1.out with h | h
        · exfalso; have h2 := HK.out; rw [h] at h2; exact Nat.not_lt_zero _ h2
        · exact h
      obtain ⟨a1, n1, d1, a2, n2, d2, c0, c1, c2, hT, hN⟩ := hcl k x hx
      have HT := Lib.hid hT; have HNN := Lib.hid hN
      have HGL := Lib.hid hgl
      clear hcl hx hmem htd htt hT hN hgl
      obtain ⟨W1, hW1⟩ : ∃ W1, W1 = wr.alloc (.cells #[.int .u8 (x.c.toNat : Nat), .slice a1 n1 d1, .slice a2 n2 d2] 39) := ⟨_, rfl⟩
      have HB1 := Lib.hid (show Below wr.heap.size wr W1 by rw [hW1]; exact (Below.refl _ _).alloc (Nat.le_refl _) _)
      have HEN := Lib.hid (encode_any W1 true x.c x.T x.N _ _ (HT.out.mono HB1.out) (HNN.out.mono HB1.out) HRX.out)
      have HW1 := Lib.hid hW1
      clear hW1
      go_wp2_with fail
      rw [← HW1.out]
      refine HEN.out.mono ?_; rintro e w2 ⟨rfl, hb2⟩
      have HB2 := Lib.hid (HB1.out.step hb2 HB1.out.size)
      have HC2 := Lib.hid (HB.out.step HB2.out (Nat.le_of_lt HZ.out))
      clear hb2
      unfold encV
      have hxw : written true x.c x.T x.N = x.w := rfl
      rw [hxw]
      clear hxw
      by_cases he : encE x.w = 0
      · rw [if_pos he, he]
        have HTD := Lib.hid (show togE (L.drop k) = togE (L.drop (k + 1)) by rw [HTD.out, if_pos he])
        have HSZ := Lib.hid (s_size he)
        have HPK := Lib.hid (fun W => pack_small x.c ⟨((x.w).getD []).toArray⟩ W (by rw [bsize]; exact encE_len he))
        rw [show packB (x.c.toNat : Nat) ⟨((x.w).getD []).toArray⟩ = x.s from rfl] at HPK
        clear he
        go_wp2_with fail
        refine (HPK.out _).mono ?_; rintro e w3 ⟨rfl, hb3⟩
        have HB3 := Lib.hid (((HB2.out.alloc HB2.out.size (.cells #[.int .u8 (x.c.toNat : Nat), .string ⟨((x.w).getD []).toArray⟩] 33))).step hb3 (by rw [World.size_alloc]; exact Nat.le_succ_of_le HB2.out.size))
        clear hb3
        go_wp2_with fail
        have HG3 := Lib.hid (HG.out.below HB3.out)
        refine (g_wr_string _ _ _ _ w3 HG3.out (by have := HL.out; have := HSZ.out; omega) (Nat.le_trans (Nat.le_of_lt HZ.out) HB3.out.size)).mono ?_; rintro e w4 ⟨rfl, hG4, hb4⟩
        have HG4 := Lib.hid hG4
        have HB4 := Lib.hid ((HB.out.step HB3.out (Nat.le_of_lt HZ.out)).trans hb4)
        have HZ4 := Lib.hid (Nat.lt_of_lt_of_le HZ.out (Nat.le_trans HB3.out.size hb4.size))
        clear hG4 hb4
        go_wp2_with fail
        go_roundg (n - (k + 1))
        case measure => have := HGG.out; omega
        case rel => exact ⟨k + 1, by go_num, by omega, rfl, HE.out.trans HTD.out, by rw [HTT.out, List.length_append, bytes_len]; have := HL.out; have := HSZ.out; omega, by rw [HTT.out]; exact HG4.out, HB4.out, HZ4.out⟩
      · rw [if_neg he]
        have hne : (encE x.w != 0) = true := by simpa using he
        have HFE := Lib.hid (show togE L = encE x.w by rw [HE.out, HTD.out, if_neg he])
        have HFS := Lib.hid (show togS L = { data := #[] } by unfold togS; rw [HFE.out, if_neg he])
        generalize encE x.w = ex at he hne HFE HFS ⊢
        clear he
        go_wp2_with fail
        go_ret2
        exact ⟨by rw [HFE.out, HFS.out]; rfl, HC2.out.alloc HC2.out.size _⟩
    · obtain rfl : k = n := by omega
      have HFE := Lib.hid (show togE L = 0 by rw [HE.out, ← HN.out, List.drop_length]; rfl)
      have HFS := Lib.hid (show togS L = ⟨(togB (L.take k)).toArray⟩ by unfold togS; rw [HFE.out, if_pos rfl, ← HN.out, List.take_length])
      go_wp2_with fail
      refine (g_str_of _ _ _ wr HG.out (Nat.le_of_lt HZ.out)).mono ?_; rintro e w4 ⟨rfl, hb4⟩
      have HB4 := Lib.hid (HB.out.trans hb4)
      clear hb4
      go_wp2_with fail
      go_ret2
      exact ⟨by rw [HFE.out, HFS.out]; rfl, HB4.out⟩

set_option maxRecDepth 100000 in
set_option maxHeartbeats 4000000 in
theorem faultM_any (code : ByteArray) (w : World) :
    Calls Tryz.prog 26 #[.string code] w fun e w' => ∃ a b, e = .returned (.agg #[.int .u8 69, .slice (some ⟨a, 0, none⟩) 2 2, .slice (some ⟨b, 0, none⟩) 3 3]) ∧ TextsIn w' (.slice (some ⟨a, 0, none⟩) 2 2) [g_error, bytes code] ∧ NumsIn w' (.slice (some ⟨b, 0, none⟩) 3 3) [2, 83, 67] ∧ Below w.heap.size w w' := by
  go_enter Tryz.func26, Tryz.ntmps26
  go_wp2_with fail
  simp [bodyPost, results, Tryz.results26, go_sem]
  refine ⟨_, _, ⟨rfl, rfl⟩, ⟨_, 2, 2, rfl, rfl, Nat.le_refl _, by omega, .inr ⟨_, 0, rfl, by simp [World.size_alloc], fun i t ht => ?_⟩⟩, ⟨_, 3, 3, rfl, rfl, Nat.le_refl _, by omega, .inr ⟨_, 0, rfl, by simp [World.size_alloc], fun i t ht => ?_⟩⟩, (((Below.refl _ _).alloc (Nat.le_refl _) _).alloc (by simp [World.size_alloc]) _).alloc (by simp [World.size_alloc]; omega) _⟩
  · match i, ht with
    | 0, ht => obtain rfl := Option.some.inj ht; simp [go_sem]
    | 1, ht => obtain rfl := Option.some.inj ht; simp [go_sem, bytes]
  · match i, ht with
    | 0, ht => obtain rfl := Option.some.inj ht; simp [go_sem]
    | 1, ht => obtain rfl := Option.some.inj ht; simp [go_sem]
    | 2, ht => obtain rfl := Option.some.inj ht; simp [go_sem]

/-- An error as it stands on the wire. -/
def faultS (s : ByteArray) : ByteArray := if (0 : UInt8) ∈ bytes s then { data := #[] } else packB 69 ⟨(faultB (bytes s)).toArray⟩
theorem fault_togs (s : ByteArray) (hs : s.size ≤ 3000) : togS [⟨69, [g_error, bytes s], [2, 83, 67]⟩] = faultS s := by
  have hw : (Mg.mk 69 [g_error, bytes s] [2, 83, 67]).w = if (0 : UInt8) ∈ bytes s then none else some (faultB (bytes s)) := fault_written (bytes s)
  unfold togS faultS
  by_cases h : (0 : UInt8) ∈ bytes s
  · rw [if_pos h] at hw
    have hE : togE [⟨69, [g_error, bytes s], [2, 83, 67]⟩] = 1 := by
      show (if encE (Mg.mk 69 [g_error, bytes s] [2, 83, 67]).w = 0 then togE [] else encE (Mg.mk 69 [g_error, bytes s] [2, 83, 67]).w) = 1
      rw [hw]; rfl
    rw [hE, if_pos h, if_neg (by decide)]
  · rw [if_neg h] at hw
    have hE0 : encE (some (faultB (bytes s))) = 0 := if_neg (by rw [faultB_length, bytes_len]; omega)
    have hE : togE [⟨69, [g_error, bytes s], [2, 83, 67]⟩] = 0 := by
      show (if encE (Mg.mk 69 [g_error, bytes s] [2, 83, 67]).w = 0 then togE [] else encE (Mg.mk 69 [g_error, bytes s] [2, 83, 67]).w) = 0
      rw [hw, hE0]; rfl
    rw [hE, if_neg h, if_pos rfl]
    unfold togB
    rw [List.flatMap_cons, List.flatMap_nil, List.append_nil]
    show (⟨(bytes (Mg.s _)).toArray⟩ : ByteArray) = _
    unfold Mg.s
    rw [hw]
    rfl
set_option maxRecDepth 100000 in
set_option maxHeartbeats 4000000 in
theorem fault_any (code : ByteArray) (w : World) (hs : code.size ≤ 3000) :
    Calls Tryz.prog 15 #[.string code] w fun e w' => e = .returned (.string (faultS code)) ∧ Below w.heap.size w w' := by
  have HF := Lib.hid (faultM_any code w)
  have HS := Lib.hid (fault_togs code hs)
  have hbl : (bytes code).length ≤ 3000 := by rw [bytes_len]; exact hs
  clear hs
  go_enter Tryz.func15, Tryz.ntmps15
  go_wp2_with fail
  refine HF.out.mono ?_; rintro e w1 ⟨a, b, rfl, hT, hN, hb⟩
  obtain ⟨W2, hW2⟩ : ∃ W2, W2 = w1.alloc (.cells #[.int .u8 69, .slice (some ⟨a, 0, none⟩) 2 2, .slice (some ⟨b, 0, none⟩) 3 3] 39) := ⟨_, rfl⟩
  have hb2 : Below w1.heap.size w1 W2 := by rw [hW2]; exact (Below.refl _ _).alloc (Nat.le_refl _) _
  have HTG := Lib.hid (together_any W2 (some ⟨w1.heap.size, 0, none⟩) [⟨69, [g_error, bytes code], [2, 83, 67]⟩] 1 1 rfl (Nat.le_refl _) (by omega) (.inr ⟨_, 0, rfl, by rw [hW2, World.size_alloc]; omega, fun i x hx => by
    match i, hx with
    | 0, hx =>
      obtain rfl := Option.some.inj hx
      refine ⟨_, 2, 2, _, 3, 3, ?_, ?_, ?_, hT.mono hb2, hN.mono hb2⟩ <;> (rw [hW2]; simp [go_sem])⟩) (fun x hx => by
    rw [List.mem_singleton.1 hx]
    unfold room
    simp only [List.map_cons, List.map_nil, List.sum_cons, List.sum_nil, List.length_nil, List.length_cons]
    omega))
  have HB2 := Lib.hid (hb.trans (hb2.mono hb.size))
  have HZ := Lib.hid (Nat.le_trans hb.size hb2.size)
  have HW2 := Lib.hid hW2
  clear hb hb2 hW2 hT hN
  go_wp2_with fail
  rw [← HW2.out]
  refine HTG.out.mono ?_; rintro e w3 ⟨rfl, hb⟩
  have HB3 := Lib.hid (HB2.out.step hb HZ.out)
  rw [HS.out]
  clear hb
  go_wp2_with fail
  go_ret
  exact ⟨rfl, HB3.out⟩
end Go.Proofs.YtpijolcklmdjbaaGreatDoor

namespace Go.Proofs.YtpijolcklmdjbaaGreatDoor
open Go.RowKit Go.Lib Go.WideShapes

theorem text_step (t : Bs) (T : List Bs) (N : List Int) (B : Bs) : wText ⟨t :: T, N, B⟩ = if (0 : UInt8) ∈ t then none else some ⟨T, N, B ++ (t ++ [0])⟩ := rfl
theorem written_one (s : Bs) : written false 81 [s] [] = if (0 : UInt8) ∈ s then none else some (s ++ [0]) := by
  show ((wText ⟨[s], [], []⟩).bind (wAll [])).bind wDone = _
  rw [text_step]
  by_cases h : (0 : UInt8) ∈ s
  · rw [if_pos h, if_pos h]; rfl
  · rw [if_neg h, if_neg h]; rfl
theorem written_two (s t : Bs) : written true 83 [s, t] [] = if (0 : UInt8) ∈ s then none else if (0 : UInt8) ∈ t then none else some (s ++ [0] ++ (t ++ [0])) := by
  show ((wText ⟨[s, t], [], []⟩).bind (wAll [115])).bind wDone = _
  rw [text_step]
  by_cases h : (0 : UInt8) ∈ s
  · rw [if_pos h, if_pos h]; rfl
  · rw [if_neg h, if_neg h]
    show ((wText ⟨[t], [], [] ++ (s ++ [0])⟩).bind (wAll [])).bind wDone = _
    rw [text_step]
    by_cases h2 : (0 : UInt8) ∈ t
    · rw [if_pos h2, if_pos h2]; rfl
    · rw [if_neg h2, if_neg h2]; rfl
end Go.Proofs.YtpijolcklmdjbaaGreatDoor

namespace Go.Proofs.YtpijolcklmdjbaaGreatDoor
open Go.RowKit Go.Lib

theorem ahead_ok (s : ByteArray) (n : Int) (w : World) (h0 : 0 ≤ n) (h : n ≤ s.size) :
    Calls Tryz.prog 41 #[.string s, .int .i64 n] w fun e w' => e = .returned (.string (s.extract 0 n.toNat)) ∧ w = w' := by
  obtain ⟨m, rfl⟩ := Int.eq_ofNat_of_zero_le h0
  have h1 : ¬ (s.size : Int) < m := by omega
  go_enter Tryz.func41, Tryz.ntmps41
  go_wp2
  go_ret
  exact ⟨rfl, rfl⟩

theorem ahead_few (s : ByteArray) (n : Int) (w : World) (h : (s.size : Int) < n) :
    Calls Tryz.prog 41 #[.string s, .int .i64 n] w fun e w' => e = .panicked [{ v := .iface 26 (.int .i64 4), recovered := false }] ∧ w = w' := by
  go_enter Tryz.func41, Tryz.ntmps41
  go_wp2
  exact ⟨rfl, rfl, rfl⟩

theorem big_any (s : ByteArray) (w : World) (h : 4 ≤ s.size) :
    Calls Tryz.prog 42 #[.string s] w fun e w' => e = .returned (.int .u32 (big4 s.data.toList : Nat)) ∧ ∃ k, w' = w.drewN k := by
  have a0 : 0 < s.size := by omega
  have a1 : (1 : Int) < s.size := by omega
  have a2 : (2 : Int) < s.size := by omega
  have a3 : (3 : Int) < s.size := by omega
  have hv := four_or s[0] s[1] s[2] s[3]
  have hb : big4 s.data.toList = s[0].toNat * 16777216 + s[1].toNat * 65536 + s[2].toNat * 256 + s[3].toNat := by rw [bytes_four s h]; rfl
  rw [← hb] at hv
  have HV := Lib.hid hv
  clear hv hb
  go_enter Tryz.func42, Tryz.ntmps42
  go_wp2
  go_quiet (fail)
  go_wp2
  go_ret
  exact ⟨congrArg (fun n => Ending.returned (.int .u32 n)) HV.out, _, rfl⟩

theorem number_at (s : ByteArray) (i j : Nat) (w : World) (h : j ≤ s.size) (hi : i + 4 = j) :
    Calls Tryz.prog 42 #[.string ((s.extract 0 j).extract i j)] w fun e w' => e = .returned (.int .u32 (num s i : Nat)) ∧ ∃ k, w' = w.drewN k := by
  have := big_any ((s.extract 0 j).extract i j) w (by rw [size_cut s i j h hi]; omega)
  rw [num_cut s i j hi] at this
  exact this

theorem catch_panickingM (b : Nat) (x0 x1 x2 x3 : Value) (u : TypeId) (pv : Value) (older : List PanicEntry) (w : World)
    (c0 : w.cell? ⟨b, 0, none⟩ = some x0) (c1 : w.cell? ⟨b, 1, none⟩ = some x1) (c2 : w.cell? ⟨b + 1, 0, none⟩ = some x2) (c3 : w.cell? ⟨b + 1 + 1, 0, none⟩ = some x3)
    (f0 : w.frozen? ⟨b, 0, none⟩ = false) (f1 : w.frozen? ⟨b, 1, none⟩ = false) (f2 : w.frozen? ⟨b + 1, 0, none⟩ = false) (f3 : w.frozen? ⟨b + 1 + 1, 0, none⟩ = false) :
    CallsD Tryz.prog 40 #[.pointer (some ⟨b, 0, none⟩), .pointer (some ⟨b + 1, 0, none⟩), .pointer (some ⟨b + 1 + 1, 0, none⟩)] (.panicking ({ v := .iface u pv, recovered := false } :: older)) w fun e u' w' =>
      e = .returned (.tuple #[]) ∧ u' = .panicking ({ v := .iface u pv, recovered := true } :: older) ∧
        w' = (((w.setCell ⟨b, 0, none⟩ (.int .u8 0)).setCell ⟨b, 1, none⟩ (.string { data := #[] })).setCell ⟨b + 1, 0, none⟩ (.int .i64 0)).setCell ⟨b + 1 + 1, 0, none⟩ (.int .i64 4) := by
  refine callsD_of_wpS Tryz.func40 rfl fun c₀ cs hu => ?_
  apply wpS_seq
  apply wpS_region
  simp [wpOpsS, go_sem, recoverD, hu, Tryz.ntmps40, Exit.thenS]
  refine wpS_cond (t := true) (by simp [Act.eval, Array.replicate]) ?_
  simp only [if_true]
  apply wpS_region
  simp [wpOpsS, go_sem, c0, c1, c2, c3, f0, f1, f2, f3, bodyPostS, results, Tryz.results40]

theorem catch_idle1 (b : Nat) (w : World) :
    CallsD Tryz.prog 40 #[.pointer (some ⟨b, 0, none⟩), .pointer (some ⟨b + 1, 0, none⟩), .pointer (some ⟨b + 1 + 1, 0, none⟩)] .returning w fun e u' w' => e = .returned (.tuple #[]) ∧ u' = .returning ∧ w' = w := by
  refine callsD_of_wpS Tryz.func40 rfl fun c₀ cs hu => ?_
  apply wpS_seq
  apply wpS_region
  simp [wpOpsS, go_sem, recoverD, hu, Tryz.ntmps40, Exit.thenS]
  refine wpS_cond (t := false) (by simp [Act.eval, Array.replicate]) ?_
  simp only [Bool.false_eq_true, if_false]
  refine wpS_of_wp (wp_skip ?_)
  cases c₀
  simp_all [bodyPostS, results, Tryz.results40]

@[go_sem, simp] theorem setCell_drewNM (w : World) (k : Nat) (a : Addr) (v : Value) : (w.drewN k).setCell a v = (w.setCell a v).drewN k := rfl

/-- The three blocks that the results lie in. -/
def three (w : World) (t : Int) (s : ByteArray) (n e : Int) : World :=
  ((w.alloc (.cells #[.int .u8 t, .string s] 33)).alloc (.cells #[.int .i64 n] 3)).alloc (.cells #[.int .i64 e] 26)

theorem three_below (w : World) (t : Int) (s : ByteArray) (n e : Int) : Below w.heap.size w (three w t s n e) :=
  (((Below.refl _ _).alloc (Nat.le_refl _) _).alloc (by simp) _).alloc (by simp; omega) _

theorem catch_three (w : World) (t : Int) (s : ByteArray) (n e : Int) (k : Nat) (u : TypeId) (pv : Value) (older : List PanicEntry) :
    CallsD Tryz.prog 40 #[.pointer (some ⟨w.heap.size, 0, none⟩), .pointer (some ⟨w.heap.size + 1, 0, none⟩), .pointer (some ⟨w.heap.size + 1 + 1, 0, none⟩)] (.panicking ({ v := .iface u pv, recovered := false } :: older)) ((three w t s n e).drewN k) fun e u' w' =>
      e = .returned (.tuple #[]) ∧ u' = .panicking ({ v := .iface u pv, recovered := true } :: older) ∧ w' = (three w 0 { data := #[] } 0 4).drewN k := by
  refine (catch_panickingM w.heap.size (.int .u8 t) (.string s) (.int .i64 n) (.int .i64 e) u pv older _ ?_ ?_ ?_ ?_ ?_ ?_ ?_ ?_).mono ?_
  all_goals try simp [three, go_sem]

set_option maxRecDepth 100000 in
set_option maxHeartbeats 1000000 in
theorem first_few_bare (s : ByteArray) (w : World) (h : (s.size : Int) < 4) :
    Calls Tryz.prog 22 #[.string s, .bool true] w fun e w' => e = .returned (.tuple #[.agg #[.int .u8 0, .string { data := #[] }], .int .i64 0, .int .i64 4]) ∧ Below w.heap.size w w' := by
  have hmf : ∀ (fn : Fn) (first cap : Array Value) (w : World), (Instr.makeFunc fn first cap).run Tryz.prog w = .ok (.func fn first cap) w := fun _ _ _ _ => rfl
  go_enter_defers Tryz.func22, Tryz.ntmps22
  go_wp2_with ((go_at_call 41; refine (ahead_few s 4 _ h).mono ?_; rintro e w' ⟨rfl, rfl⟩))
  refine leaves_cons (f := 40) (args := #[.pointer (some ⟨w.heap.size, 0, none⟩), .pointer (some ⟨w.heap.size + 1, 0, none⟩), .pointer (some ⟨w.heap.size + 1 + 1, 0, none⟩)]) (by simp) (by simp [go_sem]) ?_
  refine (catch_three w 0 { data := #[] } 0 0 0 _ _ _).mono ?_
  rintro e u' w'' ⟨rfl, rfl, rfl⟩
  simp [Leaves, settle, results, Tryz.results22, go_sem, three]
  exact below_drewN (three_below w 0 { data := #[] } 0 4) _

set_option maxRecDepth 100000 in
set_option maxHeartbeats 1000000 in
theorem first_form_bare (s : ByteArray) (w : World) (h : 4 ≤ s.size) (hn : num s 0 < 4) :
    Calls Tryz.prog 22 #[.string s, .bool true] w fun e w' => e = .returned (.tuple #[.agg #[.int .u8 0, .string { data := #[] }], .int .i64 0, .int .i64 2]) ∧ Below w.heap.size w w' := by
  have hmf : ∀ (fn : Fn) (first cap : Array Value) (w : World), (Instr.makeFunc fn first cap).run Tryz.prog w = .ok (.func fn first cap) w := fun _ _ _ _ => rfl
  go_enter_defers Tryz.func22, Tryz.ntmps22
  go_wp2_with (first | (go_at_call 41; refine (ahead_ok s 4 _ (by omega) (by omega)).mono ?_; rintro e w' ⟨rfl, rfl⟩) | (go_at_call 42; refine (number_at s 0 4 _ h rfl).mono ?_; rintro e w' ⟨rfl, k, rfl⟩))
  refine leaves_cons (f := 40) (args := #[.pointer (some ⟨w.heap.size, 0, none⟩), .pointer (some ⟨w.heap.size + 1, 0, none⟩), .pointer (some ⟨w.heap.size + 1 + 1, 0, none⟩)]) (by simp) (by simp [go_sem]) ?_
  refine (catch_idle1 w.heap.size _).mono ?_
  rintro e u' w'' ⟨rfl, rfl, rfl⟩
  simp [Leaves, settle, results, Tryz.results22, go_sem]
  exact below_drewN (three_below w 0 { data := #[] } 0 2) _

set_option maxRecDepth 100000 in
set_option maxHeartbeats 1000000 in
theorem first_long_bare (s : ByteArray) (w : World) (h : 4 ≤ s.size) (hn : 10004 < num s 0) :
    Calls Tryz.prog 22 #[.string s, .bool true] w fun e w' => e = .returned (.tuple #[.agg #[.int .u8 0, .string { data := #[] }], .int .i64 0, .int .i64 3]) ∧ Below w.heap.size w w' := by
  have hmf : ∀ (fn : Fn) (first cap : Array Value) (w : World), (Instr.makeFunc fn first cap).run Tryz.prog w = .ok (.func fn first cap) w := fun _ _ _ _ => rfl
  go_enter_defers Tryz.func22, Tryz.ntmps22
  go_wp2_with (first | (go_at_call 41; refine (ahead_ok s 4 _ (by omega) (by omega)).mono ?_; rintro e w' ⟨rfl, rfl⟩) | (go_at_call 42; refine (number_at s 0 4 _ h rfl).mono ?_; rintro e w' ⟨rfl, k, rfl⟩))
  refine leaves_cons (f := 40) (args := #[.pointer (some ⟨w.heap.size, 0, none⟩), .pointer (some ⟨w.heap.size + 1, 0, none⟩), .pointer (some ⟨w.heap.size + 1 + 1, 0, none⟩)]) (by simp) (by simp [go_sem]) ?_
  refine (catch_idle1 w.heap.size _).mono ?_
  rintro e u' w'' ⟨rfl, rfl, rfl⟩
  simp [Leaves, settle, results, Tryz.results22, go_sem]
  exact below_drewN (three_below w 0 { data := #[] } 0 3) _

set_option maxRecDepth 100000 in
set_option maxHeartbeats 1000000 in
theorem first_more_bare (s : ByteArray) (w : World) (h : 4 ≤ s.size) (hn : 4 ≤ num s 0) (hn2 : num s 0 ≤ 10004) (hm : s.size < num s 0) :
    Calls Tryz.prog 22 #[.string s, .bool true] w fun e w' => e = .returned (.tuple #[.agg #[.int .u8 0, .string { data := #[] }], .int .i64 0, .int .i64 4]) ∧ Below w.heap.size w w' := by
  have hmf : ∀ (fn : Fn) (first cap : Array Value) (w : World), (Instr.makeFunc fn first cap).run Tryz.prog w = .ok (.func fn first cap) w := fun _ _ _ _ => rfl
  go_enter_defers Tryz.func22, Tryz.ntmps22
  go_wp2_with fail
  refine (ahead_ok s 4 _ (by omega) (by omega)).mono ?_; rintro e w' ⟨rfl, rfl⟩
  go_wp2_with (go_at_call 42; refine (number_at s 0 4 _ (by omega) rfl).mono ?_; rintro e w' ⟨rfl, k, rfl⟩)
  refine (ahead_few s _ _ (by omega)).mono ?_; rintro e w' ⟨rfl, rfl⟩
  go_wp2
  refine leaves_cons (f := 40) (args := #[.pointer (some ⟨w.heap.size, 0, none⟩), .pointer (some ⟨w.heap.size + 1, 0, none⟩), .pointer (some ⟨w.heap.size + 1 + 1, 0, none⟩)]) (by simp) (by simp [go_sem]) ?_
  refine (catch_three w 0 { data := #[] } (4 + (num s 0 : Int) - 4) 0 _ _ _ _).mono ?_
  rintro e u' w'' ⟨rfl, rfl, rfl⟩
  simp [Leaves, settle, results, Tryz.results22, go_sem, three]
  exact below_drewN (three_below w 0 { data := #[] } 0 4) _

set_option maxRecDepth 100000 in
set_option maxHeartbeats 1000000 in
theorem first_ok_bare (s : ByteArray) (w : World) (h : 4 ≤ s.size) (hn : 4 ≤ num s 0) (hn2 : num s 0 ≤ 10004) (hm : num s 0 ≤ s.size) :
    Calls Tryz.prog 22 #[.string s, .bool true] w fun e w' => e = .returned (.tuple #[.agg #[.int .u8 0, .string ((s.extract 0 (num s 0)).extract 4 (num s 0))], .int .i64 (4 + (num s 0 : Int) - 4), .int .i64 0]) ∧ Below w.heap.size w w' := by
  have hmf : ∀ (fn : Fn) (first cap : Array Value) (w : World), (Instr.makeFunc fn first cap).run Tryz.prog w = .ok (.func fn first cap) w := fun _ _ _ _ => rfl
  go_enter_defers Tryz.func22, Tryz.ntmps22
  go_wp2_with fail
  refine (ahead_ok s 4 _ (by omega) (by omega)).mono ?_; rintro e w' ⟨rfl, rfl⟩
  go_wp2_with (go_at_call 42; refine (number_at s 0 4 _ (by omega) rfl).mono ?_; rintro e w' ⟨rfl, k, rfl⟩)
  refine (ahead_ok s _ _ (by omega) (by omega)).mono ?_; rintro e w' ⟨rfl, rfl⟩
  go_wp2
  go_region
  go_wp2
  refine leaves_cons (f := 40) (args := #[.pointer (some ⟨w.heap.size, 0, none⟩), .pointer (some ⟨w.heap.size + 1, 0, none⟩), .pointer (some ⟨w.heap.size + 1 + 1, 0, none⟩)]) (by simp) (by simp [go_sem]) ?_
  refine (catch_idle1 w.heap.size _).mono ?_
  rintro e u' w'' ⟨rfl, rfl, rfl⟩
  simp [Leaves, settle, results, Tryz.results22, go_sem]
  exact below_drewN (three_below w 0 ((s.extract 0 (num s 0)).extract 4 (num s 0)) (4 + (num s 0 : Int) - 4) 0) _

set_option maxRecDepth 100000 in
set_option maxHeartbeats 1000000 in
theorem first_few (s : ByteArray) (w : World) (h : s.size < 5) :
    Calls Tryz.prog 22 #[.string s, .bool false] w fun e w' => e = .returned (.tuple #[.agg #[.int .u8 0, .string { data := #[] }], .int .i64 0, .int .i64 4]) ∧ Below w.heap.size w w' := by
  have hmf : ∀ (fn : Fn) (first cap : Array Value) (w : World), (Instr.makeFunc fn first cap).run Tryz.prog w = .ok (.func fn first cap) w := fun _ _ _ _ => rfl
  go_enter_defers Tryz.func22, Tryz.ntmps22
  go_wp2_with fail
  refine (ahead_few s 5 _ (by omega)).mono ?_; rintro e w' ⟨rfl, rfl⟩
  go_wp2
  refine leaves_cons (f := 40) (args := #[.pointer (some ⟨w.heap.size, 0, none⟩), .pointer (some ⟨w.heap.size + 1, 0, none⟩), .pointer (some ⟨w.heap.size + 1 + 1, 0, none⟩)]) (by simp) (by simp [go_sem]) ?_
  refine (catch_three w 0 { data := #[] } 0 0 0 _ _ _).mono ?_
  rintro e u' w'' ⟨rfl, rfl, rfl⟩
  simp [Leaves, settle, results, Tryz.results22, go_sem, three]
  exact below_drewN (three_below w 0 { data := #[] } 0 4) _

set_option maxRecDepth 100000 in
set_option maxHeartbeats 1000000 in
theorem first_formN (t : Nat) (s : ByteArray) (w : World) (h : 5 ≤ s.size) (hx : 0 < (s.extract 0 5).size) (ht : ((s.extract 0 5)[0]'hx).toNat = t) (hn : num s 1 < 4) :
    Calls Tryz.prog 22 #[.string s, .bool false] w fun e w' => e = .returned (.tuple #[.agg #[.int .u8 0, .string { data := #[] }], .int .i64 0, .int .i64 2]) ∧ Below w.heap.size w w' := by
  have hmf : ∀ (fn : Fn) (first cap : Array Value) (w : World), (Instr.makeFunc fn first cap).run Tryz.prog w = .ok (.func fn first cap) w := fun _ _ _ _ => rfl
  go_enter_defers Tryz.func22, Tryz.ntmps22
  go_wp2_with fail
  refine (ahead_ok s 5 _ (by omega) (by omega)).mono ?_; rintro e w' ⟨rfl, rfl⟩
  go_wp2_with (go_at_call 42; refine (number_at s 1 5 _ (by omega) rfl).mono ?_; rintro e w' ⟨rfl, k, rfl⟩)
  refine leaves_cons (f := 40) (args := #[.pointer (some ⟨w.heap.size, 0, none⟩), .pointer (some ⟨w.heap.size + 1, 0, none⟩), .pointer (some ⟨w.heap.size + 1 + 1, 0, none⟩)]) (by simp) (by simp [go_sem]) ?_
  refine (catch_idle1 w.heap.size _).mono ?_
  rintro e u' w'' ⟨rfl, rfl, rfl⟩
  simp [Leaves, settle, results, Tryz.results22, go_sem]
  exact below_drewN (three_below w 0 { data := #[] } 0 2) _

set_option maxRecDepth 100000 in
set_option maxHeartbeats 1000000 in
theorem first_formT (s : ByteArray) (w : World) (h : 5 ≤ s.size) (hx : 0 < (s.extract 0 5).size) (ht : ((s.extract 0 5)[0]'hx).toNat = 0) (hn : 4 ≤ num s 1) :
    Calls Tryz.prog 22 #[.string s, .bool false] w fun e w' => e = .returned (.tuple #[.agg #[.int .u8 0, .string { data := #[] }], .int .i64 0, .int .i64 2]) ∧ Below w.heap.size w w' := by
  have hmf : ∀ (fn : Fn) (first cap : Array Value) (w : World), (Instr.makeFunc fn first cap).run Tryz.prog w = .ok (.func fn first cap) w := fun _ _ _ _ => rfl
  go_enter_defers Tryz.func22, Tryz.ntmps22
  go_wp2_with fail
  refine (ahead_ok s 5 _ (by omega) (by omega)).mono ?_; rintro e w' ⟨rfl, rfl⟩
  go_wp2_with (go_at_call 42; refine (number_at s 1 5 _ (by omega) rfl).mono ?_; rintro e w' ⟨rfl, k, rfl⟩)
  refine leaves_cons (f := 40) (args := #[.pointer (some ⟨w.heap.size, 0, none⟩), .pointer (some ⟨w.heap.size + 1, 0, none⟩), .pointer (some ⟨w.heap.size + 1 + 1, 0, none⟩)]) (by simp) (by simp [go_sem]) ?_
  refine (catch_idle1 w.heap.size _).mono ?_
  rintro e u' w'' ⟨rfl, rfl, rfl⟩
  simp [Leaves, settle, results, Tryz.results22, go_sem]
  exact below_drewN (three_below w 0 { data := #[] } 0 2) _

set_option maxRecDepth 100000 in
set_option maxHeartbeats 1000000 in
theorem first_long (t : Nat) (s : ByteArray) (w : World) (h : 5 ≤ s.size) (hx : 0 < (s.extract 0 5).size) (ht : ((s.extract 0 5)[0]'hx).toNat = t) (hn : 10004 < num s 1) (ht0 : 0 < t) :
    Calls Tryz.prog 22 #[.string s, .bool false] w fun e w' => e = .returned (.tuple #[.agg #[.int .u8 0, .string { data := #[] }], .int .i64 0, .int .i64 3]) ∧ Below w.heap.size w w' := by
  have hmf : ∀ (fn : Fn) (first cap : Array Value) (w : World), (Instr.makeFunc fn first cap).run Tryz.prog w = .ok (.func fn first cap) w := fun _ _ _ _ => rfl
  have hz : ((t : Int) == 0) = false := by simp; omega
  go_enter_defers Tryz.func22, Tryz.ntmps22
  go_wp2_with fail
  refine (ahead_ok s 5 _ (by omega) (by omega)).mono ?_; rintro e w' ⟨rfl, rfl⟩
  go_wp2_with (go_at_call 42; refine (number_at s 1 5 _ (by omega) rfl).mono ?_; rintro e w' ⟨rfl, k, rfl⟩)
  refine leaves_cons (f := 40) (args := #[.pointer (some ⟨w.heap.size, 0, none⟩), .pointer (some ⟨w.heap.size + 1, 0, none⟩), .pointer (some ⟨w.heap.size + 1 + 1, 0, none⟩)]) (by simp) (by simp [go_sem]) ?_
  refine (catch_idle1 w.heap.size _).mono ?_
  rintro e u' w'' ⟨rfl, rfl, rfl⟩
  simp [Leaves, settle, results, Tryz.results22, go_sem]
  exact below_drewN (three_below w 0 { data := #[] } 0 3) _

set_option maxRecDepth 100000 in
set_option maxHeartbeats 1000000 in
theorem first_more (t : Nat) (s : ByteArray) (w : World) (h : 5 ≤ s.size) (hx : 0 < (s.extract 0 5).size) (ht : ((s.extract 0 5)[0]'hx).toNat = t) (hn : 4 ≤ num s 1) (hn2 : num s 1 ≤ 10004) (ht0 : 0 < t) (hm : s.size < num s 1 + 1) :
    Calls Tryz.prog 22 #[.string s, .bool false] w fun e w' => e = .returned (.tuple #[.agg #[.int .u8 0, .string { data := #[] }], .int .i64 0, .int .i64 4]) ∧ Below w.heap.size w w' := by
  have hmf : ∀ (fn : Fn) (first cap : Array Value) (w : World), (Instr.makeFunc fn first cap).run Tryz.prog w = .ok (.func fn first cap) w := fun _ _ _ _ => rfl
  have hz : ((t : Int) == 0) = false := by simp; omega
  go_enter_defers Tryz.func22, Tryz.ntmps22
  go_wp2_with fail
  refine (ahead_ok s 5 _ (by omega) (by omega)).mono ?_; rintro e w' ⟨rfl, rfl⟩
  go_wp2_with (go_at_call 42; refine (number_at s 1 5 _ (by omega) rfl).mono ?_; rintro e w' ⟨rfl, k, rfl⟩)
  refine (ahead_few s _ _ (by omega)).mono ?_; rintro e w' ⟨rfl, rfl⟩
  go_wp2
  refine leaves_cons (f := 40) (args := #[.pointer (some ⟨w.heap.size, 0, none⟩), .pointer (some ⟨w.heap.size + 1, 0, none⟩), .pointer (some ⟨w.heap.size + 1 + 1, 0, none⟩)]) (by simp) (by simp [go_sem]) ?_
  refine (catch_three w t { data := #[] } (5 + (num s 1 : Int) - 4) 0 _ _ _ _).mono ?_
  rintro e u' w'' ⟨rfl, rfl, rfl⟩
  simp [Leaves, settle, results, Tryz.results22, go_sem, three]
  exact below_drewN (three_below w 0 { data := #[] } 0 4) _

set_option maxRecDepth 100000 in
set_option maxHeartbeats 1000000 in
theorem first_ok (t : Nat) (s : ByteArray) (w : World) (h : 5 ≤ s.size) (hx : 0 < (s.extract 0 5).size) (ht : ((s.extract 0 5)[0]'hx).toNat = t) (hn : 4 ≤ num s 1) (hn2 : num s 1 ≤ 10004) (ht0 : 0 < t) (hm : num s 1 + 1 ≤ s.size) :
    Calls Tryz.prog 22 #[.string s, .bool false] w fun e w' => e = .returned (.tuple #[.agg #[.int .u8 (t : Nat), .string ((s.extract 0 (5 + num s 1 - 4)).extract 5 (min (5 + num s 1 - 4) s.size))], .int .i64 (5 + (num s 1 : Int) - 4), .int .i64 0]) ∧ Below w.heap.size w w' := by
  have hmf : ∀ (fn : Fn) (first cap : Array Value) (w : World), (Instr.makeFunc fn first cap).run Tryz.prog w = .ok (.func fn first cap) w := fun _ _ _ _ => rfl
  have hz : ((t : Int) == 0) = false := by simp; omega
  go_enter_defers Tryz.func22, Tryz.ntmps22
  go_wp2_with fail
  refine (ahead_ok s 5 _ (by omega) (by omega)).mono ?_; rintro e w' ⟨rfl, rfl⟩
  go_wp2_with (go_at_call 42; refine (number_at s 1 5 _ (by omega) rfl).mono ?_; rintro e w' ⟨rfl, k, rfl⟩)
  refine (ahead_ok s _ _ (by omega) (by omega)).mono ?_; rintro e w' ⟨rfl, rfl⟩
  go_wp2
  go_region
  go_wp2
  refine leaves_cons (f := 40) (args := #[.pointer (some ⟨w.heap.size, 0, none⟩), .pointer (some ⟨w.heap.size + 1, 0, none⟩), .pointer (some ⟨w.heap.size + 1 + 1, 0, none⟩)]) (by simp) (by simp [go_sem]) ?_
  refine (catch_idle1 w.heap.size _).mono ?_
  rintro e u' w'' ⟨rfl, rfl, rfl⟩
  simp [Leaves, settle, results, Tryz.results22, go_sem]
  exact below_drewN (three_below w (t : Nat) ((s.extract 0 (5 + num s 1 - 4)).extract 5 (min (5 + num s 1 - 4) s.size)) (5 + (num s 1 : Int) - 4) 0) _

end Go.Proofs.YtpijolcklmdjbaaGreatDoor
