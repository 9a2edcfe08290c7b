/- Contracts and mathematics: PParse, PShown. -/
import Derived.Test.YtgopajddloeclaaDoorZ18
import Derived.Test.YtgopajddloeclaaDoorZ23
import Derived.Test.YtgopajddloeclaaDoorZ24
namespace Go.Proofs.YtgopajddloeclaaDoor
open Go.RowKit Go.Lib Go.WideShapes

theorem StAt.get {w : World} {p : Option Addr} {l : List St} {i : Nat} {x : St} (h : StAt w p l) (hx : l[i]? = some x) : ∃ g, p = some ⟨g, 0, none⟩ ∧ g < w.heap.size ∧ w.cell? ⟨g, i * 3, none⟩ = some (.slice x.u x.toks.length x.d) ∧ w.cell? ⟨g, i * 3 + 1, none⟩ = some (.int .i64 x.lo) ∧ w.cell? ⟨g, i * 3 + 2, none⟩ = some (.int .i64 x.hi) := h i x hx

theorem splits_mem' {T : List Tok} {x : List Tok} (h : splits T = [x]) : x.length ≤ T.length ∧ ∀ q ∈ x, q ∈ T := by
  have := splits_mem _ T (Nat.le_refl _) x (by rw [h]; exact List.mem_cons_self ..)
  exact ⟨this.2.2, fun q hq => (this.2.1 q hq).1⟩

set_option maxRecDepth 100000 in
set_option maxHeartbeats 4000000 in
theorem parse_any (s : ByteArray) (m : Int) (w : World) (hs : s.size ≤ 2000) (hm : w.cell? ⟨2, 0, none⟩ = some (.int .i64 m)) (hbar : BarredAt w) :
    Calls Tryd.prog 11 #[.string s] w fun e w' => e = .returned (.tuple #[(parsedC (bytes s)).1.val, .int .i64 ((parsedC (bytes s)).2 : Nat)]) ∧ Below w.heap.size w w' := by
  obtain ⟨q, hq⟩ : ∃ q, q = parsedC (bytes s) := ⟨_, rfl⟩
  rw [← hq]
  have HQ := Lib.hid hq
  clear hq
  have hsl : (bytes s).length ≤ 2000 := by rw [bytes_len]; exact hs
  unfold Cmd.val
  have HS := Lib.hid (Res.start w)
  have HW0 := Lib.hid (World.block_lt_of_cell? w ⟨2, 0, none⟩ hm)
  have HSP := Lib.hid (split_any s m _ hs (Lib.cell?_alloc_some (Obj.cells #[.int .u8 0, .string { data := #[] }, .string { data := #[] }] 27) hm))
  have HM := Lib.hid hm
  have HBR := Lib.hid hbar
  have HSL := Lib.hid hsl
  clear hm hbar hsl
  go_enter Tryd.func11, Tryd.ntmps11
  go_wp2_with fail
  refine HSP.out.mono ?_; rintro e w1 ⟨hb1, hcs⟩
  have HR1 := Lib.hid (HS.out.step hb1)
  have HM1 := Lib.hid ((HR1.out.below.cell (p := ⟨2, 0, none⟩) HW0.out).trans HM.out)
  have HBR1 := Lib.hid (HBR.out.step HR1.out.below)
  clear hb1 HSP
  rcases hcs with ⟨hT, rfl⟩ | ⟨T, xs, n, p, c, hT, hxs, hn, hn1, hnc, rfl, hst, hin⟩
  · have HE := Lib.hid (HQ.out.trans (parsed_none HSL.out hT))
    clear hT
    have c0 := HR1.out.c0
    have c1 := HR1.out.c1
    have c2 := HR1.out.c2
    have f0 := HR1.out.f0
    have f1 := HR1.out.f1
    have f2 := HR1.out.f2
    go_wp2_with fail
    obtain ⟨⟨k0, k1, k2⟩, hbb⟩ := HR1.out.put (.int .u8 0) (.string { data := #[] }) (.string { data := #[] })
    simp [bodyPost, results, Tryd.results11, go_sem, k0, k1, k2]
    rw [HE.out]
    exact ⟨⟨⟨rfl, rfl, rfl⟩, rfl⟩, hbb⟩
  · have HE := Lib.hid (HQ.out.trans (parsed_tokens HSL.out hT))
    have HTS := Lib.hid (show T.length ≤ 2000 ∧ ∀ q ∈ T, q.text.length ≤ 2000 from ⟨by have h1 := (tokens_facts hT).1; have h2 := HSL.out; omega, fun q hq => Nat.le_trans (tokens_small hT q hq) HSL.out⟩)
    have HXS := Lib.hid hxs; have HN := Lib.hid hn; have HST := Lib.hid hst; have HIN := Lib.hid hin
    clear hT hxs hn hst hin
    by_cases h0 : n = 0
    · have HE := Lib.hid (show q = (⟨48, [], []⟩, 0) by
        rw [HE.out]; unfold parsedT; rw [← HXS.out, List.length_eq_zero_iff.1 (HN.out.trans h0)]; rfl)
      subst h0
      have c0 := HR1.out.c0
      have c1 := HR1.out.c1
      have c2 := HR1.out.c2
      have f0 := HR1.out.f0
      have f1 := HR1.out.f1
      have f2 := HR1.out.f2
      go_wp2_with fail
      obtain ⟨⟨k0, k1, k2⟩, hbb⟩ := HR1.out.put (.int .u8 48) (.string { data := #[] }) (.string { data := #[] })
      simp [bodyPost, results, Tryd.results11, go_sem, k0, k1, k2]
      rw [HE.out]
      exact ⟨⟨⟨rfl, rfl, rfl⟩, rfl⟩, hbb⟩
    · by_cases h1 : n = 1
      · obtain ⟨x, hx⟩ : ∃ x, xs = [x] := List.length_eq_one_iff.1 (HN.out.trans h1)
        have HXX := Lib.hid (show splits T = [x.toks] by rw [← HXS.out, hx]; rfl)
        have HE := Lib.hid (show q = (ofC x.toks, 0) by rw [HE.out]; unfold parsedT; rw [HXX.out])
        obtain ⟨g, rfl, hg, b0, b1, b2⟩ := HST.out.get (i := 0) (x := x) (by rw [hx]; rfl)
        have HI := Lib.hid (HIN.out x (by rw [hx]; exact List.mem_cons_self ..))
        have HML := Lib.hid (splits_mem' HXX.out)
        simp only [Nat.zero_mul, Nat.zero_add] at b0 b1 b2
        have HOF := Lib.hid (of_any x.u x.toks x.toks.length x.d x.lo x.hi m w1 rfl (by have := HML.out.1; have := HTS.out.1; omega) HI.out.2.2.1 HI.out.2.2.2 HI.out.at.off (fun q hq => HTS.out.2 q (HML.out.2 q hq)) HM1.out HBR1.out)
        subst h1
        clear h0 hx
        go_wp2_with fail
        refine HOF.out.mono ?_; rintro e w2 ⟨rfl, hb2⟩
        have HR2 := Lib.hid (HR1.out.step hb2)
        clear hb2
        obtain ⟨k, hk⟩ : ∃ k, k = ofC x.toks := ⟨_, rfl⟩
        rw [← hk]
        have HE := Lib.hid (show q = (k, 0) by rw [HE.out, hk])
        clear hk
        unfold Cmd.val
        have c0 := HR2.out.c0
        have c1 := HR2.out.c1
        have c2 := HR2.out.c2
        have f0 := HR2.out.f0
        have f1 := HR2.out.f1
        have f2 := HR2.out.f2
        go_wp2_with fail
        obtain ⟨⟨k0, k1, k2⟩, hbb⟩ := HR2.out.put (.int .u8 (k.kind.toNat : Nat)) (.string ⟨k.name.toArray⟩) (.string ⟨k.value.toArray⟩)
        simp [bodyPost, results, Tryd.results11, go_sem, k0, k1, k2]
        rw [HE.out]
        exact ⟨⟨⟨rfl, rfl, rfl⟩, rfl⟩, hbb⟩
      · have h1' : (1 : Int) < n := by omega
        have h0b : ((n : Int) == 0) = false := by simp; omega
        have HE := Lib.hid (show q = (⟨109, [], []⟩, 0) by
          rw [HE.out]; unfold parsedT; rw [← HXS.out]
          match xs, HN.out with
          | [], h => exact absurd h.symm h0
          | [x], h => exact absurd h.symm h1
          | x :: y :: r, _ => rfl)
        clear h0 h1
        have c0 := HR1.out.c0
        have c1 := HR1.out.c1
        have c2 := HR1.out.c2
        have f0 := HR1.out.f0
        have f1 := HR1.out.f1
        have f2 := HR1.out.f2
        go_wp2_with fail
        obtain ⟨⟨k0, k1, k2⟩, hbb⟩ := HR1.out.put (.int .u8 109) (.string { data := #[] }) (.string { data := #[] })
        simp [bodyPost, results, Tryd.results11, go_sem, k0, k1, k2]
        rw [HE.out]
        exact ⟨⟨⟨rfl, rfl, rfl⟩, rfl⟩, hbb⟩
end Go.Proofs.YtgopajddloeclaaDoor

namespace Go.Proofs.YtgopajddloeclaaDoor
open Go.RowKit Go.Lib Go.WideShapes

theorem example9 : parsedC [83, 69, 84, 32, 76, 79, 67, 65, 76, 32, 77, 101, 109, 32, 61, 32, 45, 53, 59] = (⟨108, [109, 101, 109], [45, 53]⟩, 0) := by rfl

set_option maxRecDepth 100000 in
theorem shown9_true (m : Int) (w : World) (hm : w.cell? ⟨2, 0, none⟩ = some (.int .i64 m)) (hbar : BarredAt w) :
    Calls Tryd.prog 10 #[] w fun e w' => e = .returned (.bool true) ∧ Below w.heap.size w w' := by
  have hp := parse_any { data := #[83, 69, 84, 32, 76, 79, 67, 65, 76, 32, 77, 101, 109, 32, 61, 32, 45, 53, 59] } m w (by decide) hm hbar
  rw [show parsedC (bytes { data := #[83, 69, 84, 32, 76, 79, 67, 65, 76, 32, 77, 101, 109, 32, 61, 32, 45, 53, 59] }) = _ from example9] at hp
  have HP := Lib.hid hp
  clear hm hbar hp
  unfold Cmd.val at HP
  go_enter Tryd.func10, Tryd.ntmps10
  go_wp2_with fail
  refine HP.out.mono ?_; rintro e w1 ⟨rfl, hb1⟩
  have HB1 := Lib.hid hb1
  clear hb1 HP
  go_wp2_with fail
  go_ret
  exact ⟨rfl, HB1.out.alloc HB1.out.size _⟩
end Go.Proofs.YtgopajddloeclaaDoor
