/- Contracts and mathematics: PParse, PShown, PLong, QSBytes, QSComment. -/
import Derived.Test.YtgopajddloeclaaDoorZ19
import Derived.Test.YtgopajddloeclaaDoorZ24
import Derived.Test.YtgopajddloeclaaDoorZ25
import Derived.Test.YtgopajddloeclaaDoorZ3
import Derived.BigQuiet
import Derived.WalkSmall
import Derived.Deep.QuietTactic
namespace Go.Proofs.YtgopajddloeclaaDoor
open Go.RowKit Go.Lib Go.WideShapes

theorem StAt.get {w : World} {p : Option Addr} {l : List St} {i : Nat} {x : St} (h : StAt w p l) (hx : l[i]? = some x) : ∃ g, p = some ⟨g, 0, none⟩ ∧ g < w.heap.size ∧ w.cell? ⟨g, i * 3, none⟩ = some (.slice x.u x.toks.length x.d) ∧ w.cell? ⟨g, i * 3 + 1, none⟩ = some (.int .i64 x.lo) ∧ w.cell? ⟨g, i * 3 + 2, none⟩ = some (.int .i64 x.hi) := h i x hx

theorem splits_mem' {T : List Tok} {x : List Tok} (h : splits T = [x]) : x.length ≤ T.length ∧ ∀ q ∈ x, q ∈ T := by
  have := splits_mem _ T (Nat.le_refl _) x (by rw [h]; exact List.mem_cons_self ..)
  exact ⟨this.2.2, fun q hq => (this.2.1 q hq).1⟩

set_option maxRecDepth 100000 in
set_option maxHeartbeats 4000000 in
theorem parse_any (s : ByteArray) (m : Int) (w : World) (hs : s.size ≤ 2000) (hm : w.cell? ⟨2, 0, none⟩ = some (.int .i64 m)) (hbar : BarredAt w) :
    Calls Tryd.prog 11 #[.string s] w fun e w' => e = .returned (.tuple #[(parsedC (bytes s)).1.val, .int .i64 ((parsedC (bytes s)).2 : Nat)]) ∧ Below w.heap.size w w' := by
  obtain ⟨q, hq⟩ : ∃ q, q = parsedC (bytes s) := ⟨_, rfl⟩
  rw [← hq]
  have HQ := Lib.hid hq
  clear hq
  have hsl : (bytes s).length ≤ 2000 := by rw [bytes_len]; exact hs
  unfold Cmd.val
  have HS := Lib.hid (Res.start w)
  have HW0 := Lib.hid (World.block_lt_of_cell? w ⟨2, 0, none⟩ hm)
  have HSP := Lib.hid (split_any s m _ hs (Lib.cell?_alloc_some (Obj.cells #[.int .u8 0, .string { data := #[] }, .string { data := #[] }] 27) hm))
  have HM := Lib.hid hm
  have HBR := Lib.hid hbar
  have HSL := Lib.hid hsl
  clear hm hbar hsl
  go_enter Tryd.func11, Tryd.ntmps11
  go_wp2_with fail
  refine HSP.out.mono ?_; rintro e w1 ⟨hb1, hcs⟩
  have HR1 := Lib.hid (HS.out.step hb1)
  have HM1 := Lib.hid ((HR1.out.below.cell (p := ⟨2, 0, none⟩) HW0.out).trans HM.out)
  have HBR1 := Lib.hid (HBR.out.step HR1.out.below)
  clear hb1 HSP
  rcases hcs with ⟨hT, rfl⟩ | ⟨T, xs, n, p, c, hT, hxs, hn, hn1, hnc, rfl, hst, hin⟩
  · have HE := Lib.hid (HQ.out.trans (parsed_none HSL.out hT))
    clear hT
    have c0 := HR1.out.c0
    have c1 := HR1.out.c1
    have c2 := HR1.out.c2
    have f0 := HR1.out.f0
    have f1 := HR1.out.f1
    have f2 := HR1.out.f2
    go_wp2_with fail
    obtain ⟨⟨k0, k1, k2⟩, hbb⟩ := HR1.out.put (.int .u8 0) (.string { data := #[] }) (.string { data := #[] })
    simp [bodyPost, results, Tryd.results11, go_sem, k0, k1, k2]
    rw [HE.out]
    exact ⟨⟨⟨rfl, rfl, rfl⟩, rfl⟩, hbb⟩
  · have HE := Lib.hid (HQ.out.trans (parsed_tokens HSL.out hT))
    have HTS := Lib.hid (show T.length ≤ 2000 ∧ ∀ q ∈ T, q.text.length ≤ 2000 from ⟨by have h1 := (tokens_facts hT).1; have h2 := HSL.out; omega, fun q hq => Nat.le_trans (tokens_small hT q hq) HSL.out⟩)
    have HXS := Lib.hid hxs; have HN := Lib.hid hn; have HST := Lib.hid hst; have HIN := Lib.hid hin
    clear hT hxs hn hst hin
    by_cases h0 : n = 0
    · have HE := Lib.hid (show q = (⟨48, [], []⟩, 0) by
        rw [HE.out]; unfold parsedT; rw [← HXS.out, List.length_eq_zero_iff.1 (HN.out.trans h0)]; rfl)
      subst h0
      have c0 := HR1.out.c0
      have c1 := HR1.out.c1
      have c2 := HR1.out.c2
      have f0 := HR1.out.f0
      have f1 := HR1.out.f1
      have f2 := HR1.out.f2
      go_wp2_with fail
      obtain ⟨⟨k0, k1, k2⟩, hbb⟩ := HR1.out.put (.int .u8 48) (.string { data := #[] }) (.string { data := #[] })
      simp [bodyPost, results, Tryd.results11, go_sem, k0, k1, k2]
      rw [HE.out]
      exact ⟨⟨⟨rfl, rfl, rfl⟩, rfl⟩, hbb⟩
    · by_cases h1 : n = 1
      · obtain ⟨x, hx⟩ : ∃ x, xs = [x] := List.length_eq_one_iff.1 (HN.out.trans h1)
        have HXX := Lib.hid (show splits T = [x.toks] by rw [← HXS.out, hx]; rfl)
        have HE := Lib.hid (show q = (ofC x.toks, 0) by rw [HE.out]; unfold parsedT; rw [HXX.out])
        obtain ⟨g, rfl, hg, b0, b1, b2⟩ := HST.out.get (i := 0) (x := x) (by rw [hx]; rfl)
        have HI := Lib.hid (HIN.out x (by rw [hx]; exact List.mem_cons_self ..))
        have HML := Lib.hid (splits_mem' HXX.out)
        simp only [Nat.zero_mul, Nat.zero_add] at b0 b1 b2
        have HOF := Lib.hid (of_any x.u x.toks x.toks.length x.d x.lo x.hi m w1 rfl (by have := HML.out.1; have := HTS.out.1; omega) HI.out.2.2.1 HI.out.2.2.2 HI.out.at.off.w (fun q hq => HTS.out.2 q (HML.out.2 q hq)) HM1.out HBR1.out)
        subst h1
        clear h0 hx
        go_wp2_with fail
        refine HOF.out.mono ?_; rintro e w2 ⟨rfl, hb2⟩
        have HR2 := Lib.hid (HR1.out.step hb2)
        clear hb2
        obtain ⟨k, hk⟩ : ∃ k, k = ofC x.toks := ⟨_, rfl⟩
        rw [← hk]
        have HE := Lib.hid (show q = (k, 0) by rw [HE.out, hk])
        clear hk
        unfold Cmd.val
        have c0 := HR2.out.c0
        have c1 := HR2.out.c1
        have c2 := HR2.out.c2
        have f0 := HR2.out.f0
        have f1 := HR2.out.f1
        have f2 := HR2.out.f2
        go_wp2_with fail
        obtain ⟨⟨k0, k1, k2⟩, hbb⟩ := HR2.out.put (.int .u8 (k.kind.toNat : Nat)) (.string ⟨k.name.toArray⟩) (.string ⟨k.value.toArray⟩)
        simp [bodyPost, results, Tryd.results11, go_sem, k0, k1, k2]
        rw [HE.out]
        exact ⟨⟨⟨rfl, rfl, rfl⟩, rfl⟩, hbb⟩
      · have h1' : (1 : Int) < n := by omega
        have h0b : ((n : Int) == 0) = false := by simp; omega
        have HE := Lib.hid (show q = (⟨109, [], []⟩, 0) by
          rw [HE.out]; unfold parsedT; rw [← HXS.out]
          match xs, HN.out with
          | [], h => exact absurd h.symm h0
          | [x], h => exact absurd h.symm h1
          | x :: y :: r, _ => rfl)
        clear h0 h1
        have c0 := HR1.out.c0
        have c1 := HR1.out.c1
        have c2 := HR1.out.c2
        have f0 := HR1.out.f0
        have f1 := HR1.out.f1
        have f2 := HR1.out.f2
        go_wp2_with fail
        obtain ⟨⟨k0, k1, k2⟩, hbb⟩ := HR1.out.put (.int .u8 109) (.string { data := #[] }) (.string { data := #[] })
        simp [bodyPost, results, Tryd.results11, go_sem, k0, k1, k2]
        rw [HE.out]
        exact ⟨⟨⟨rfl, rfl, rfl⟩, rfl⟩, hbb⟩
end Go.Proofs.YtgopajddloeclaaDoor

namespace Go.Proofs.YtgopajddloeclaaDoor
open Go.RowKit Go.Lib Go.WideShapes

theorem example9 : parsedC [83, 69, 84, 32, 76, 79, 67, 65, 76, 32, 77, 101, 109, 32, 61, 32, 45, 53, 59] = (⟨108, [109, 101, 109], [45, 53]⟩, 0) := by rfl

set_option maxRecDepth 100000 in
theorem shown9_true (m : Int) (w : World) (hm : w.cell? ⟨2, 0, none⟩ = some (.int .i64 m)) (hbar : BarredAt w) :
    Calls Tryd.prog 10 #[] w fun e w' => e = .returned (.bool true) ∧ Below w.heap.size w w' := by
  have hp := parse_any { data := #[83, 69, 84, 32, 76, 79, 67, 65, 76, 32, 77, 101, 109, 32, 61, 32, 45, 53, 59] } m w (by decide) hm hbar
  rw [show parsedC (bytes { data := #[83, 69, 84, 32, 76, 79, 67, 65, 76, 32, 77, 101, 109, 32, 61, 32, 45, 53, 59] }) = _ from example9] at hp
  have HP := Lib.hid hp
  clear hm hbar hp
  unfold Cmd.val at HP
  go_enter Tryd.func10, Tryd.ntmps10
  go_wp2_with fail
  refine HP.out.mono ?_; rintro e w1 ⟨rfl, hb1⟩
  have HB1 := Lib.hid hb1
  clear hb1 HP
  go_wp2_with fail
  go_ret
  exact ⟨rfl, HB1.out.alloc HB1.out.size _⟩
end Go.Proofs.YtgopajddloeclaaDoor

namespace Go.Proofs.YtgopajddloeclaaDoor
open Go.RowKit Go.Lib Go.WideShapes

set_option maxRecDepth 100000 in
theorem split_long (s : ByteArray) (m : Int) (w : World) (hs : 2000 < s.size) (h9 : s.size ≤ 9223372036854775807) (hm : w.cell? ⟨2, 0, none⟩ = some (.int .i64 m)) :
    Calls Tryd.prog 23 #[.string s] w fun e w' => e = .returned (.tuple #[.slice none 0 0, .int .i64 3]) ∧ Below w.heap.size w w' := by
  have HS := Lib.hid (scan_any s m w h9 hm)
  rw [show told (bytes s) = ([], 3) by unfold told; rw [if_pos (by rw [bytes_len]; exact hs)]] at HS
  clear hm hs h9
  go_enter Tryd.func23, Tryd.ntmps23
  go_wp2_with fail
  refine HS.out.mono ?_; rintro e w1 ⟨v, rfl, hO, hb1⟩
  have HB1 := Lib.hid hb1
  clear hO hb1 HS
  go_wp2_with fail
  go_ret2
  exact ⟨rfl, HB1.out⟩

set_option maxRecDepth 100000 in
set_option maxHeartbeats 4000000 in
theorem parse_long (s : ByteArray) (m : Int) (w : World) (hs : 2000 < s.size) (h9 : s.size ≤ 9223372036854775807) (hm : w.cell? ⟨2, 0, none⟩ = some (.int .i64 m)) :
    Calls Tryd.prog 11 #[.string s] w fun e w' => e = .returned (.tuple #[.agg #[.int .u8 0, .string { data := #[] }, .string { data := #[] }], .int .i64 3]) ∧ Below w.heap.size w w' := by
  have HS := Lib.hid (Res.start w)
  have HSP := Lib.hid (split_long s m _ hs h9 (Lib.cell?_alloc_some (Obj.cells #[.int .u8 0, .string { data := #[] }, .string { data := #[] }] 27) hm))
  clear hm hs h9
  go_enter Tryd.func11, Tryd.ntmps11
  go_wp2_with fail
  refine HSP.out.mono ?_; rintro e w1 ⟨rfl, hb1⟩
  have HR1 := Lib.hid (HS.out.step hb1)
  clear hb1 HSP
  have c0 := HR1.out.c0
  have c1 := HR1.out.c1
  have c2 := HR1.out.c2
  have f0 := HR1.out.f0
  have f1 := HR1.out.f1
  have f2 := HR1.out.f2
  go_wp2_with fail
  obtain ⟨⟨k0, k1, k2⟩, hbb⟩ := HR1.out.put (.int .u8 0) (.string { data := #[] }) (.string { data := #[] })
  simp [bodyPost, results, Tryd.results11, go_sem, k0, k1, k2]
  exact hbb

/-- What a parse leaves of any text. -/
theorem parse_all (s : ByteArray) (m : Int) (w : World) (h9 : s.size ≤ 9223372036854775807) (hm : w.cell? ⟨2, 0, none⟩ = some (.int .i64 m)) (hbar : BarredAt w) :
    Calls Tryd.prog 11 #[.string s] w fun e w' => e = .returned (.tuple #[(parsedC (bytes s)).1.val, .int .i64 ((parsedC (bytes s)).2 : Nat)]) ∧ Below w.heap.size w w' := by
  by_cases hs : s.size ≤ 2000
  · exact parse_any s m w hs hm hbar
  · have := parse_long s m w (by omega) h9 hm
    rw [show parsedC (bytes s) = (noCmd, 3) by unfold parsedC; rw [if_pos (by rw [bytes_len]; omega)]]
    exact this
end Go.Proofs.YtgopajddloeclaaDoor

namespace Go.Proofs.YtgopajddloeclaaDoor
open Go.RowKit Go.Lib Go.WideShapes

def byteAt (l : Bs) (k : Nat) : UInt8 := (l[k]?).getD 0
theorem byteAt_in {s : ByteArray} {k : Nat} (h : k < s.size) : byteAt (bytes s) k = s[k] := by
  unfold byteAt
  rw [List.getElem?_eq_getElem (by rw [bytes_len]; exact h)]
  rfl
theorem byteAt_out {s : ByteArray} {k : Nat} (h : s.size ≤ k) : byteAt (bytes s) k = 0 := by
  unfold byteAt
  rw [List.getElem?_eq_none (by rw [bytes_len]; exact h)]
  rfl
set_option maxRecDepth 100000 in
set_option maxHeartbeats 2000000 in
theorem qat_any (s : ByteArray) (k : Nat) (w : World) (_hs : s.size ≤ 9223372036854775807) :
    Calls Tryd.prog 94 #[.string s, .int .i64 k] w fun e w' => e = .returned (.int .u8 ((byteAt (bytes s) k).toNat : Nat)) ∧ w = w' := by
  by_cases hk : k < s.size
  · rw [byteAt_in hk]
    have hlt : (k : Int) < s.size := by omega
    have hge : ¬ (s.size : Int) ≤ k := by omega
    go_enter Tryd.func94, Tryd.ntmps94
    go_wp2_with fail
    go_ret
    exact ⟨rfl, rfl⟩
  · rw [byteAt_out (Nat.le_of_not_lt hk)]
    have hge : (s.size : Int) ≤ k := by omega
    clear hk
    go_enter Tryd.func94, Tryd.ntmps94
    go_wp2_with fail
    go_ret
    exact ⟨rfl, rfl⟩
theorem u8_le (a b : UInt8) : decide (a ≤ b) = decide (a.toNat ≤ b.toNat) := rfl
set_option maxRecDepth 100000 in
set_option maxHeartbeats 2000000 in
theorem qdigit_any (c : UInt8) (w : World) :
    Calls Tryd.prog 98 #[.int .u8 (c.toNat : Nat)] w fun e w' => e = .returned (.bool (dg c)) ∧ w = w' := by
  have hd : dg c = (decide (48 ≤ c.toNat) && decide (c.toNat ≤ 57)) := rfl
  rw [hd]
  clear hd
  generalize c.toNat = n
  by_cases h1 : 48 ≤ n
  · by_cases h2 : n ≤ 57
    · rw [decide_eq_true h1, decide_eq_true h2]
      have h1' : (48 : Int) ≤ n := by omega
      have h2' : (n : Int) ≤ 57 := by omega
      clear h1 h2
      go_enter Tryd.func98, Tryd.ntmps98
      go_wp2_with fail
      go_ret
      exact ⟨rfl, rfl⟩
    · rw [decide_eq_true h1, decide_eq_false h2]
      have h1' : (48 : Int) ≤ n := by omega
      have h2' : ¬ (n : Int) ≤ 57 := by omega
      clear h1 h2
      go_enter Tryd.func98, Tryd.ntmps98
      go_wp2_with fail
      go_ret
      exact ⟨rfl, rfl⟩
  · rw [decide_eq_false h1]
    have h1' : ¬ (48 : Int) ≤ n := by omega
    clear h1
    go_enter Tryd.func98, Tryd.ntmps98
    go_wp2_with fail
    go_ret
    exact ⟨rfl, rfl⟩
theorem bw_nat (c : UInt8) : bw c = ((decide (97 ≤ c.toNat) && decide (c.toNat ≤ 122)) || (decide (65 ≤ c.toNat) && decide (c.toNat ≤ 90)) || (decide (c.toNat = 95)) || decide (128 ≤ c.toNat)) := by
  have h : (c == 95) = decide (c.toNat = 95) := by rw [Bool.eq_iff_iff]; simp [← UInt8.toNat_inj]
  show ((decide (97 ≤ c.toNat) && decide (c.toNat ≤ 122)) || (decide (65 ≤ c.toNat) && decide (c.toNat ≤ 90)) || (c == 95) || decide (128 ≤ c.toNat)) = _
  rw [h]
set_option maxRecDepth 100000 in
set_option maxHeartbeats 8000000 in
theorem qfirst_any (c : UInt8) (w : World) :
    Calls Tryd.prog 97 #[.int .u8 (c.toNat : Nat)] w fun e w' => e = .returned (.bool (bw c)) ∧ w = w' := by
  rw [bw_nat]
  generalize c.toNat = n
  have hcase : n < 65 ∨ (65 ≤ n ∧ n ≤ 90) ∨ (90 < n ∧ n < 95) ∨ n = 95 ∨ n = 96 ∨ (97 ≤ n ∧ n ≤ 122) ∨ (122 < n ∧ n < 128) ∨ 128 ≤ n := by omega
  rcases hcase with h | h | h | h | h | h | h | h
  all_goals
    obtain ⟨R, hR⟩ : ∃ R, R = ((decide (97 ≤ n) && decide (n ≤ 122)) || (decide (65 ≤ n) && decide (n ≤ 90)) || (decide (n = 95)) || decide (128 ≤ n)) := ⟨_, rfl⟩
    rw [← hR]
    have h1 : decide (97 ≤ n) = true ∨ decide (97 ≤ n) = false := by cases decide (97 ≤ n) <;> simp
    have HR := Lib.hid hR
    have hn : (97 : Int) ≤ n ∨ ¬ (97 : Int) ≤ n := Classical.em _
    clear hR h1 hn
  case _ =>
    have a1 : ¬ (97 : Int) ≤ n := by omega
    have a2 : ¬ (65 : Int) ≤ n := by omega
    have a3 : ((n : Int) == 95) = false := by rw [beq_eq_false_iff_ne]; omega
    have a4 : ¬ (128 : Int) ≤ n := by omega
    obtain rfl : R = false := by rw [HR.out, decide_eq_false (by omega : ¬ 97 ≤ n), decide_eq_false (by omega : ¬ 65 ≤ n), decide_eq_false (by omega : ¬ n = 95), decide_eq_false (by omega : ¬ 128 ≤ n)]; rfl
    clear h HR
    go_enter Tryd.func97, Tryd.ntmps97
    go_wp2_with fail
    go_ret
    exact ⟨rfl, rfl⟩
  case _ =>
    have a1 : ¬ (97 : Int) ≤ n := by omega
    have a2 : (65 : Int) ≤ n := by omega
    have a3 : (n : Int) ≤ 90 := by omega
    obtain rfl : R = true := by rw [HR.out, decide_eq_false (by omega : ¬ 97 ≤ n), decide_eq_true (by omega : 65 ≤ n), decide_eq_true (by omega : n ≤ 90)]; rfl
    clear h HR
    go_enter Tryd.func97, Tryd.ntmps97
    go_wp2_with fail
    go_ret
    exact ⟨rfl, rfl⟩
  case _ =>
    have a1 : ¬ (97 : Int) ≤ n := by omega
    have a2 : (65 : Int) ≤ n := by omega
    have a3 : ¬ (n : Int) ≤ 90 := by omega
    have a5 : ((n : Int) == 95) = false := by rw [beq_eq_false_iff_ne]; omega
    have a4 : ¬ (128 : Int) ≤ n := by omega
    obtain rfl : R = false := by rw [HR.out, decide_eq_false (by omega : ¬ 97 ≤ n), decide_eq_false (by omega : ¬ n ≤ 90), decide_eq_false (by omega : ¬ n = 95), decide_eq_false (by omega : ¬ 128 ≤ n)]; simp
    clear h HR
    go_enter Tryd.func97, Tryd.ntmps97
    go_wp2_with fail
    go_ret
    exact ⟨rfl, rfl⟩
  case _ =>
    subst h
    obtain rfl : R = true := HR.out
    clear HR
    go_enter Tryd.func97, Tryd.ntmps97
    go_wp2_with fail
    go_ret
    exact ⟨rfl, rfl⟩
  case _ =>
    subst h
    obtain rfl : R = false := HR.out
    clear HR
    go_enter Tryd.func97, Tryd.ntmps97
    go_wp2_with fail
    go_ret
    exact ⟨rfl, rfl⟩
  case _ =>
    have a1 : (97 : Int) ≤ n := by omega
    have a2 : (n : Int) ≤ 122 := by omega
    obtain rfl : R = true := by rw [HR.out, decide_eq_true (by omega : 97 ≤ n), decide_eq_true (by omega : n ≤ 122)]; rfl
    clear h HR
    go_enter Tryd.func97, Tryd.ntmps97
    go_wp2_with fail
    go_ret
    exact ⟨rfl, rfl⟩
  case _ =>
    have a1 : (97 : Int) ≤ n := by omega
    have a2 : ¬ (n : Int) ≤ 122 := by omega
    have a6 : (65 : Int) ≤ n := by omega
    have a3 : ¬ (n : Int) ≤ 90 := by omega
    have a5 : ((n : Int) == 95) = false := by rw [beq_eq_false_iff_ne]; omega
    have a4 : ¬ (128 : Int) ≤ n := by omega
    obtain rfl : R = false := by rw [HR.out, decide_eq_false (by omega : ¬ n ≤ 122), decide_eq_false (by omega : ¬ n ≤ 90), decide_eq_false (by omega : ¬ n = 95), decide_eq_false (by omega : ¬ 128 ≤ n)]; simp
    clear h HR
    go_enter Tryd.func97, Tryd.ntmps97
    go_wp2_with fail
    go_ret
    exact ⟨rfl, rfl⟩
  case _ =>
    have a1 : (97 : Int) ≤ n := by omega
    have a2 : ¬ (n : Int) ≤ 122 := by omega
    have a6 : (65 : Int) ≤ n := by omega
    have a3 : ¬ (n : Int) ≤ 90 := by omega
    have a5 : ((n : Int) == 95) = false := by rw [beq_eq_false_iff_ne]; omega
    have a4 : (128 : Int) ≤ n := by omega
    obtain rfl : R = true := by rw [HR.out, decide_eq_true (by omega : 128 ≤ n)]; simp
    clear h HR
    go_enter Tryd.func97, Tryd.ntmps97
    go_wp2_with fail
    go_ret
    exact ⟨rfl, rfl⟩
end Go.Proofs.YtgopajddloeclaaDoor

namespace Go.Proofs.YtgopajddloeclaaDoor
open Go.RowKit Go.Lib Go.WideShapes

def resI (n : Nat) : Option Bs → Int
  | some r => ((n - r.length : Nat) : Int)
  | none => -1
theorem drop_at {s : ByteArray} {j : Nat} (h : j < s.size) : (bytes s).drop j = s[j] :: (bytes s).drop (j + 1) := by
  rw [List.drop_eq_getElem_cons (by rw [bytes_len]; exact h)]
  rfl
theorem next_at {l : Bs} {k : Nat} {b : UInt8} (hb : b ≠ 0) (h : byteAt l k = b) : l.drop k = b :: l.drop (k + 1) ∧ k < l.length := by
  by_cases hk : k < l.length
  · unfold byteAt at h
    rw [List.getElem?_eq_getElem hk] at h
    have h1 : l[k] = b := h
    exact ⟨by rw [List.drop_eq_getElem_cons hk, h1], hk⟩
  · unfold byteAt at h
    rw [List.getElem?_eq_none (by omega)] at h
    exact absurd h.symm hb
theorem next_not {l : Bs} {k : Nat} {b : UInt8} (h : ¬ byteAt l k = b) : (l.drop k).head? ≠ some b := by
  intro e
  apply h
  unfold byteAt
  rw [List.head?_drop] at e
  rw [e]; rfl
theorem pair_false {x a b : UInt8} {r : Bs} (h : ¬ (x = a ∧ r.head? = some b)) : [a, b].isPrefixOf (x :: r) = false := by
  cases r with
  | nil => simp [List.isPrefixOf]
  | cons y r' =>
    simp only [List.head?_cons, Option.some.injEq] at h
    simp [List.isPrefixOf]
    intro e1 e2
    exact h ⟨e1.symm, e2.symm⟩
theorem u8_eq {a : UInt8} {n : Nat} (h : a.toNat = n) : a = UInt8.ofNat n := by rw [← h]; simp
theorem res_drop {s : ByteArray} {j : Nat} (hj : j ≤ s.size) : resI s.size (some ((bytes s).drop j)) = (j : Int) := by
  show ((s.size - ((bytes s).drop j).length : Nat) : Int) = j
  rw [List.length_drop, bytes_len]
  omega
set_option maxRecDepth 100000 in
set_option maxHeartbeats 4000000 in
theorem qcomment_any (s : ByteArray) (i : Nat) (w : World) (hs : s.size ≤ 1000000) (h : [47, 42].isPrefixOf ((bytes s).drop i) = true) :
    Calls Tryd.prog 95 #[.string s, .int .i64 i] w fun e w' => e = .returned (.int .i64 (resI s.size (bk ((bytes s).drop i) 0))) ∧ w = w' := by
  obtain ⟨R, hR⟩ : ∃ R, R = resI s.size (bk ((bytes s).drop i) 0) := ⟨_, rfl⟩
  have HR := Lib.hid hR
  have HH := Lib.hid h
  have hi := (ahead_two h).2
  rw [bytes_len] at hi
  rw [← hR]
  clear hR h
  go_enter Tryd.func95, Tryd.ntmps95
  go_wp2_with fail
  go_loopw [1, 5] (fun iv dv wr => ∃ j d : Nat, iv = .int .i64 j ∧ dv = .int .i64 d ∧ j ≤ s.size ∧ d ≤ 8 ∧ (d = 0 → j = i) ∧ bk ((bytes s).drop i) 0 = bk ((bytes s).drop j) d ∧ wr = w) (fun iv _ _ => s.size - (RowKit.intOf iv).toNat)
  case atStart => exact ⟨i, 0, rfl, rfl, by omega, by omega, fun _ => rfl, rfl, rfl⟩
  case round =>
    obtain ⟨j, d, rfl, rfl, hj, hd, hz, hb, rfl⟩ := hrel
    have HZ := Lib.hid hz; have HB := Lib.hid hb
    clear hz hb
    by_cases hlt : j < s.size
    · have hlt' : (j : Int) < s.size := by omega
      have HD := Lib.hid (drop_at hlt)
      have HAT := Lib.hid (show Calls Tryd.prog 94 #[.string s, .int .i64 ((j : Int) + 1)] wr fun e w' => e = .returned (.int .u8 ((byteAt (bytes s) (j + 1)).toNat : Nat)) ∧ wr = w' from qat_any s (j + 1) wr (by omega))
      obtain ⟨b, hbb⟩ : ∃ z, z = byteAt (bytes s) (j + 1) := ⟨_, rfl⟩
      have HBB := Lib.hid hbb
      rw [← hbb] at HAT
      obtain ⟨a, ha⟩ : ∃ z, z = s[j] := ⟨_, rfl⟩
      have HA := Lib.hid ha
      have HNZ := Lib.hid (show ¬ (a = 47 ∧ b = 42) → d ≠ 0 from fun h hd0 => by
        have hji := HZ.out hd0
        have h1 := (ahead_two HH.out).1
        rw [← hji, HD.out] at h1
        obtain ⟨e1, e2⟩ := List.cons.inj h1
        refine h ⟨HA.out.trans e1, ?_⟩
        rw [HBB.out]
        unfold byteAt
        rw [← List.head?_drop, e2]; rfl)
      clear hbb
      by_cases h47 : a = 47
      · have t1 : ((s[j].toNat : Int) == 47) = true := by rw [← ha, h47]; rfl
        have t1' : ((s[j].toNat : Int) == 42) = false := by rw [← ha, h47]; rfl
        by_cases h42 : b = 42
        · have t2 : ((b.toNat : Int) == 42) = true := by rw [h42]; rfl
          have hnx := next_at (b := 42) (by decide) (HBB.out.symm.trans h42)
          rw [bytes_len] at hnx
          have hop : (bytes s).drop j = 47 :: 42 :: (bytes s).drop (j + 2) := by rw [HD.out, ← ha, h47, hnx.1]
          have HO := Lib.hid (HB.out.trans (bk_open (d := d) hop))
          have hj2 : j + 2 ≤ s.size := by omega
          clear ha h47 h42 hnx hop
          by_cases h8 : d = 8
          · have h8' : (8 : Int) < (d : Int) + 1 := by omega
            have HN := Lib.hid (show R = -1 from by rw [HR.out, HO.out, if_neg (by omega)]; rfl)
            go_wp2_with fail
            refine HAT.out.mono ?_; rintro e w1 ⟨rfl, rfl⟩
            go_wp2_with fail
            go_ret
            exact ⟨by rw [HN.out]; rfl, rfl⟩
          · have h8' : ¬ (8 : Int) < (d : Int) + 1 := by omega
            go_wp2_with fail
            refine HAT.out.mono ?_; rintro e w1 ⟨rfl, rfl⟩
            go_wp2_with fail
            go_roundw
            case measure => first | omega | (simp [RowKit.intOf]; omega)
            case rel => exact ⟨j + 2, d + 1, by go_num, by go_num, hj2, by omega, fun h => absurd h (Nat.succ_ne_zero d), by rw [HO.out, if_pos (by omega)], by first | rfl | trivial⟩
        · have t2 : ((b.toNat : Int) == 42) = false := by rw [beq_eq_false_iff_ne]; intro e; exact h42 (UInt8.toNat_inj.1 (by show b.toNat = 42; omega))
          have HO := Lib.hid (HB.out.trans ((congrArg (bk · d) HD.out).trans (bk_on (pair_false (fun h => next_not (fun e => h42 (HBB.out.trans e)) h.2)) (pair_false (fun h => absurd (h.1.symm.trans (ha.symm.trans h47)) (by decide))))))
          have HNE := Lib.hid (HNZ.out (fun h => h42 h.2))
          clear ha h47 h42
          go_wp2_with fail
          refine HAT.out.mono ?_; rintro e w1 ⟨rfl, rfl⟩
          go_wp2_with fail
          go_roundw
          case measure => first | omega | (simp [RowKit.intOf]; omega)
          case rel => exact ⟨j + 1, d, by go_num, rfl, by omega, hd, fun h => absurd h HNE.out, HO.out, by first | rfl | trivial⟩
      · have t1 : ((s[j].toNat : Int) == 47) = false := by rw [← ha, beq_eq_false_iff_ne]; intro e; exact h47 (UInt8.toNat_inj.1 (by show a.toNat = 47; omega))
        have HNE := Lib.hid (HNZ.out (fun h => h47 h.1))
        have hpos : 1 ≤ d := by have := HNE.out; omega
        by_cases h42 : a = 42
        · have t2 : ((s[j].toNat : Int) == 42) = true := by rw [← ha, h42]; rfl
          by_cases hb47 : b = 47
          · have t3 : ((b.toNat : Int) == 47) = true := by rw [hb47]; rfl
            have hnx := next_at (b := 47) (by decide) (HBB.out.symm.trans hb47)
            rw [bytes_len] at hnx
            have hop : (bytes s).drop j = 42 :: 47 :: (bytes s).drop (j + 2) := by rw [HD.out, ← ha, h42, hnx.1]
            have HO := Lib.hid (HB.out.trans (bk_shut (d := d) hop))
            have hj2 : j + 2 ≤ s.size := by omega
            clear ha h47 h42 hb47 hnx hop
            by_cases h1 : d = 1
            · subst h1
              have HN := Lib.hid (show R = ((j + 2 : Nat) : Int) from by rw [HR.out, HO.out, if_pos rfl, res_drop hj2])
              go_wp2_with fail
              refine HAT.out.mono ?_; rintro e w1 ⟨rfl, rfl⟩
              go_wp2_with fail
              go_ret
              exact ⟨by rw [HN.out]; rfl, rfl⟩
            · have h1' : ((d : Int) - 1 == 0) = false := by rw [beq_eq_false_iff_ne]; omega
              go_wp2_with fail
              refine HAT.out.mono ?_; rintro e w1 ⟨rfl, rfl⟩
              go_wp2_with fail
              go_roundw
              case measure => first | omega | (simp [RowKit.intOf]; omega)
              case rel => exact ⟨j + 2, d - 1, by go_num, by rw [show ((d - 1 : Nat) : Int) = (d : Int) - 1 by omega], hj2, by omega, fun h => by omega, by rw [HO.out, if_neg h1], by first | rfl | trivial⟩
          · have t3 : ((b.toNat : Int) == 47) = false := by rw [beq_eq_false_iff_ne]; intro e; exact hb47 (UInt8.toNat_inj.1 (by show b.toNat = 47; omega))
            have HO := Lib.hid (HB.out.trans ((congrArg (bk · d) HD.out).trans (bk_on (pair_false (fun h => absurd (ha.trans h.1) h47)) (pair_false (fun h => next_not (fun e => hb47 (HBB.out.trans e)) h.2)))))
            clear ha h47 h42 hb47
            go_wp2_with fail
            refine HAT.out.mono ?_; rintro e w1 ⟨rfl, rfl⟩
            go_wp2_with fail
            go_roundw
            case measure => first | omega | (simp [RowKit.intOf]; omega)
            case rel => exact ⟨j + 1, d, by go_num, rfl, by omega, hd, fun h => absurd h HNE.out, HO.out, by first | rfl | trivial⟩
        · have t2 : ((s[j].toNat : Int) == 42) = false := by rw [← ha, beq_eq_false_iff_ne]; intro e; exact h42 (UInt8.toNat_inj.1 (by show a.toNat = 42; omega))
          have HO := Lib.hid (HB.out.trans ((congrArg (bk · d) HD.out).trans (bk_on (pair_false (fun h => absurd (ha.trans h.1) h47)) (pair_false (fun h => absurd (ha.trans h.1) h42)))))
          clear ha h47 h42 HAT
          go_wp2_with fail
          go_roundw
          case measure => first | omega | (simp [RowKit.intOf]; omega)
          case rel => exact ⟨j + 1, d, by go_num, rfl, by omega, hd, fun h => absurd h HNE.out, HO.out, by first | rfl | trivial⟩
    · have hge : ¬ (j : Int) < s.size := by omega
      have HN := Lib.hid (show R = -1 from by
        rw [HR.out, HB.out, List.drop_eq_nil_of_le (by rw [bytes_len]; omega), bk]; rfl)
      go_wp2_with fail
      go_ret
      exact ⟨by rw [HN.out]; rfl, rfl⟩
end Go.Proofs.YtgopajddloeclaaDoor
