/- Contracts and mathematics: POf, NumM. -/
import Derived.Test.YtgopajddloeclaaDoorZ18
import Derived.Test.YtgopajddloeclaaDoorZ13
import Derived.Deep.RegionWith
import Derived.Deep.DeepCutAuto
import Derived.Test.YtgopajddloeclaaDoorZ10
namespace Go.Proofs.YtgopajddloeclaaDoor
open Go.RowKit Go.Lib Go.WideShapes

/-- A block of three cells that was made ahead of a call. -/
theorem three_kept {w w5 : World} {x y z : Value} {u : TypeId} (hb : Below (w.alloc (.cells #[x, y, z] u)).drew.heap.size (w.alloc (.cells #[x, y, z] u)).drew w5) :
    (w5.cell? ⟨w.heap.size, 0, none⟩ = some x ∧ w5.cell? ⟨w.heap.size, 1, none⟩ = some y ∧ w5.cell? ⟨w.heap.size, 2, none⟩ = some z) ∧ w5.frozen? ⟨w.heap.size, 0, none⟩ = false ∧ w5.frozen? ⟨w.heap.size, 1, none⟩ = false ∧ w5.frozen? ⟨w.heap.size, 2, none⟩ = false := by
  have hl : w.heap.size < (w.alloc (.cells #[x, y, z] u)).drew.heap.size := by simp
  refine ⟨⟨?_, ?_, ?_⟩, ?_, ?_, ?_⟩
  · exact (hb.cell (p := ⟨w.heap.size, 0, none⟩) hl).trans (by simp [go_sem])
  · exact (hb.cell (p := ⟨w.heap.size, 1, none⟩) hl).trans (by simp [go_sem])
  · exact (hb.cell (p := ⟨w.heap.size, 2, none⟩) hl).trans (by simp [go_sem])
  · exact (hb.frozen (p := ⟨w.heap.size, 0, none⟩) hl).trans (by simp [go_sem])
  · exact (hb.frozen (p := ⟨w.heap.size, 1, none⟩) hl).trans (by simp [go_sem])
  · exact (hb.frozen (p := ⟨w.heap.size, 2, none⟩) hl).trans (by simp [go_sem])
/-- The cells that Of makes: the statement's tokens, the result, the first token's text. -/
structure OfAt (w : World) (b : Nat) (V : Value) (X : Bs) (w1 : World) : Prop where
  below : Below b w w1
  lt : b + 2 < w1.heap.size
  v : w1.cell? ⟨b, 0, none⟩ = some V
  x : w1.cell? ⟨b + 1 + 1, 1, none⟩ = some (.string ⟨X.toArray⟩)
  c0 : w1.cell? ⟨b + 1, 0, none⟩ = some (.int .u8 0)
  c1 : w1.cell? ⟨b + 1, 1, none⟩ = some (.string { data := #[] })
  c2 : w1.cell? ⟨b + 1, 2, none⟩ = some (.string { data := #[] })
  f0 : w1.frozen? ⟨b + 1, 0, none⟩ = false
  f1 : w1.frozen? ⟨b + 1, 1, none⟩ = false
  f2 : w1.frozen? ⟨b + 1, 2, none⟩ = false
theorem OfAt.step {w w1 w2 : World} {b : Nat} {V : Value} {X : Bs} (h : OfAt w b V X w1) (hb : Below w1.heap.size w1 w2) : OfAt w b V X w2 := by
  have l0 : b < w1.heap.size := by have := h.lt; omega
  have l1 : b + 1 < w1.heap.size := by have := h.lt; omega
  have l2 : b + 1 + 1 < w1.heap.size := by have := h.lt; omega
  exact ⟨h.below.step hb (by omega), Nat.lt_of_lt_of_le h.lt hb.size, (hb.cell (p := ⟨b, 0, none⟩) l0).trans h.v, (hb.cell (p := ⟨b + 1 + 1, 1, none⟩) l2).trans h.x, (hb.cell (p := ⟨b + 1, 0, none⟩) l1).trans h.c0, (hb.cell (p := ⟨b + 1, 1, none⟩) l1).trans h.c1, (hb.cell (p := ⟨b + 1, 2, none⟩) l1).trans h.c2,
    (hb.frozen (p := ⟨b + 1, 0, none⟩) l1).trans h.f0, (hb.frozen (p := ⟨b + 1, 1, none⟩) l1).trans h.f1, (hb.frozen (p := ⟨b + 1, 2, none⟩) l1).trans h.f2⟩
theorem OfAt.held {w w3 w5 : World} {b : Nat} {V : Value} {X : Bs} (h : OfAt w b V X w3) (hb : Below w3.drew.heap.size w3.drew w5) : (w5.cell? ⟨b, 0, none⟩ = some V ∧ w5.cell? ⟨b + 1 + 1, 1, none⟩ = some (.string ⟨X.toArray⟩)) ∧ Below w3.heap.size w3 w5 := by
  have hb' : Below w3.heap.size w3 w5 := (Below.refl _ w3).drew.step hb (Nat.le_refl _)
  have := h.step hb'
  exact ⟨⟨this.v, this.x⟩, hb'⟩
theorem OfAt.put {w w1 : World} {b : Nat} {V : Value} {X : Bs} (h : OfAt w b V X w1) (x y z : Value) : ((((w1.setCell ⟨b + 1, 0, none⟩ x).setCell ⟨b + 1, 1, none⟩ y).setCell ⟨b + 1, 2, none⟩ z).cell? ⟨b + 1, 0, none⟩ = some x ∧ (((w1.setCell ⟨b + 1, 0, none⟩ x).setCell ⟨b + 1, 1, none⟩ y).setCell ⟨b + 1, 2, none⟩ z).cell? ⟨b + 1, 1, none⟩ = some y ∧ (((w1.setCell ⟨b + 1, 0, none⟩ x).setCell ⟨b + 1, 1, none⟩ y).setCell ⟨b + 1, 2, none⟩ z).cell? ⟨b + 1, 2, none⟩ = some z) ∧
    Below b w (((w1.setCell ⟨b + 1, 0, none⟩ x).setCell ⟨b + 1, 1, none⟩ y).setCell ⟨b + 1, 2, none⟩ z) :=
  ⟨res_put h.c0 h.c1 h.c2 x y z, ((h.below.setCell (Nat.le_succ _) x).setCell (Nat.le_succ _) y).setCell (Nat.le_succ _) z⟩
/-- What Of has behind the command's call. -/
def OfCut (w : World) (b : Nat) (V : Value) (X : Bs) (k n v : Value) (q : Nat) (wx : World) : Prop := OfAt w b V X wx ∧ wx.cell? ⟨q, 0, none⟩ = some k ∧ wx.cell? ⟨q, 1, none⟩ = some n ∧ wx.cell? ⟨q, 2, none⟩ = some v
theorem OfCut.new {w w5 : World} {b : Nat} {V : Value} {X : Bs} {k n v : Value} {u : TypeId} (h : OfAt w b V X w5) : OfCut w b V X k n v w5.heap.size (w5.alloc (.cells #[k, n, v] u)) :=
  ⟨h.step ((Below.refl _ _).alloc (Nat.le_refl _) _), by simp [go_sem], by simp [go_sem], by simp [go_sem]⟩
theorem OfCut.old {w w5 : World} {b g : Nat} {V : Value} {X : Bs} {x y z : Value} (k n v : Value) (h : OfAt w b V X w5) (hg : b + 2 < g) (h0 : w5.cell? ⟨g, 0, none⟩ = some x) (h1 : w5.cell? ⟨g, 1, none⟩ = some y) (h2 : w5.cell? ⟨g, 2, none⟩ = some z) :
    OfCut w b V X k n v g (((w5.setCell ⟨g, 0, none⟩ k).setCell ⟨g, 1, none⟩ n).setCell ⟨g, 2, none⟩ v) := by
  obtain ⟨k0, k1, k2⟩ := res_put h0 h1 h2 k n v
  refine ⟨?_, k0, k1, k2⟩
  have hB : Below g w5 (((w5.setCell ⟨g, 0, none⟩ k).setCell ⟨g, 1, none⟩ n).setCell ⟨g, 2, none⟩ v) := (((Below.refl g w5).setCell (p := ⟨g, 0, none⟩) (Nat.le_refl g) k).setCell (p := ⟨g, 1, none⟩) (Nat.le_refl g) n).setCell (p := ⟨g, 2, none⟩) (Nat.le_refl g) v
  have l0 : b < g := by omega
  have l1 : b + 1 < g := by omega
  have l2 : b + 1 + 1 < g := by omega
  exact ⟨((h.below.setCell (p := ⟨g, 0, none⟩) (show b ≤ g by omega) k).setCell (p := ⟨g, 1, none⟩) (show b ≤ g by omega) n).setCell (p := ⟨g, 2, none⟩) (show b ≤ g by omega) v, Nat.lt_of_lt_of_le h.lt hB.size, (hB.cell (p := ⟨b, 0, none⟩) l0).trans h.v, (hB.cell (p := ⟨b + 1 + 1, 1, none⟩) l2).trans h.x, (hB.cell (p := ⟨b + 1, 0, none⟩) l1).trans h.c0, (hB.cell (p := ⟨b + 1, 1, none⟩) l1).trans h.c1, (hB.cell (p := ⟨b + 1, 2, none⟩) l1).trans h.c2,
    (hB.frozen (p := ⟨b + 1, 0, none⟩) l1).trans h.f0, (hB.frozen (p := ⟨b + 1, 1, none⟩) l1).trans h.f1, (hB.frozen (p := ⟨b + 1, 2, none⟩) l1).trans h.f2⟩
theorem OfAt.start (w : World) (V L H : Value) (k lo hi : Value) (X : Bs) (u v x : TypeId) :
    OfAt w w.heap.size V X (((w.alloc (.cells #[V, L, H] u)).alloc (.cells #[.int .u8 0, .string { data := #[] }, .string { data := #[] }] v)).alloc (.cells #[k, .string ⟨X.toArray⟩, lo, hi] x)) := by
  refine ⟨(((Below.refl _ w).alloc (Nat.le_refl _) _).alloc (by simp) _).alloc (by simp; omega) _, by simp, ?_, ?_, ?_, ?_, ?_, ?_, ?_, ?_⟩ <;> simp [go_sem]

set_option maxRecDepth 100000 in
set_option maxHeartbeats 8000000 in
theorem of_any (p : Option Addr) (T : List Tok) (n c : Nat) (lo hi : Int) (m : Int) (w : World) (hT : T.length = n) (hn : n ≤ 100000) (hc : n ≤ c) (hc9 : c ≤ 9223372036854775807) (hA : TokW w p T) (hx : ∀ q ∈ T, q.text.length ≤ 2000) (hm : w.cell? ⟨2, 0, none⟩ = some (.int .i64 m)) (hbar : BarredAt w) :
    Calls Tryd.prog 14 #[.agg #[.slice p n c, .int .i64 lo, .int .i64 hi]] w fun e w' => e = .returned (ofC T).val ∧ Below w.heap.size w w' := by
  obtain ⟨q, hq⟩ : ∃ q, q = ofC T := ⟨_, rfl⟩
  rw [← hq]
  have HQ := Lib.hid hq
  clear hq
  unfold Cmd.val
  have HB0 := Lib.hid ((Below.refl w.heap.size w).alloc (Nat.le_refl _) (Obj.cells #[.slice p n c, .int .i64 lo, .int .i64 hi] 37))
  have HS := Lib.hid (Res.start (w.alloc (Obj.cells #[.slice p n c, .int .i64 lo, .int .i64 hi] 37)))
  have HM := Lib.hid hm
  have HTK := Lib.hid hA
  have HZ := Lib.hid (World.block_lt_of_cell? w ⟨2, 0, none⟩ hm)
  have HA := Lib.hid ((hA.step HB0.out).step HS.out.below)
  have HBR := Lib.hid hbar
  have HT := Lib.hid hT; have HX := Lib.hid hx
  clear hm hA hbar hx
  cases T with
  | nil =>
    obtain rfl : 0 = n := hT
    have HE := Lib.hid (show q = ⟨48, [], []⟩ from HQ.out)
    go_enter Tryd.func14, Tryd.ntmps14
    go_wp2_with fail
    simp [bodyPost, results, Tryd.results14, go_sem]
    rw [HE.out]
    exact ⟨⟨rfl, rfl, rfl⟩, ((Below.refl _ w).alloc (Nat.le_refl _) _).alloc (by simp) _⟩
  | cons t r =>
    have hn1 : (1 : Int) ≤ n := by rw [← hT, List.length_cons]; omega
    obtain ⟨g, off, rfl, hg, hcc⟩ := HA.out.first
    obtain ⟨_, a0, a1, alo, ahi, a2, a3⟩ := hcc.get (i := 0) rfl
    simp only [Nat.zero_mul, Nat.add_zero] at a0 a1 a2 a3
    clear hT hcc
    cases h1 : (t.kind == 119) with
    | false =>
      have hb : ((t.kind.toNat : Int) == 119) = false := by
        rw [kind_eq] at h1; simp at h1 ⊢; omega
      have HE := Lib.hid (show q = ⟨111, t.text, []⟩ by rw [HQ.out]; unfold ofC; simp only [h1]; rfl)
      clear h1
      go_enter Tryd.func14, Tryd.ntmps14
      go_wp2_with fail
      simp [bodyPost, results, Tryd.results14, go_sem]
      rw [HE.out]
      exact ⟨⟨rfl, rfl, rfl⟩, (((Below.refl _ w).alloc (Nat.le_refl _) _).alloc (by simp) _).alloc (by simp; omega) _⟩
    | true =>
      have hb : ((t.kind.toNat : Int) == 119) = true := by
        rw [kind_eq] at h1; simp at h1 ⊢; omega
      have HK := Lib.hid h1
      have hn2 : (n : Int) ≤ c := by omega
      clear h1
      obtain ⟨ok, hok⟩ : ∃ ok, ok = (commandC t.text r).2 := ⟨_, rfl⟩
      obtain ⟨cm, hcm⟩ : ∃ cm, cm = (commandC t.text r).1 := ⟨_, rfl⟩
      have HE := Lib.hid (show q = if ok then cm else if barredB t.text then ⟨117, t.text, []⟩ else ⟨111, t.text, []⟩ by rw [HQ.out, hok, hcm]; unfold ofC; simp only [HK.out]; rfl)
      have HX2 := Lib.hid (show ∀ q ∈ r, q.text.length ≤ 2000 from fun q hq => HX.out q (List.mem_cons_of_mem _ hq))
      have HLR := Lib.hid (show r.length = n - 1 by rw [← HT.out]; simp)
      have HTOK := HTK
      have HC := Lib.hid (show ∀ (W : World) (p' : Option Addr) (k c' : Nat), k = n - 1 → Below w.heap.size w W → (p' = some ⟨g, off + 4, none⟩ ∨ n = 1) → k ≤ c' → c' ≤ 9223372036854775807 → Calls Tryd.prog 26 #[.string ⟨t.text.toArray⟩, .slice p' k c'] W (fun e w' => e = .returned (.tuple #[cm.val, .bool ok]) ∧ Below W.heap.size W w') from fun W p' k c' hk hb hp' hc' hc9' => by
        subst hk
        have hh := command_any ⟨t.text.toArray⟩ p' r (n - 1) c' m W HLR.out (by omega) hc' hc9' (by
          rcases hp' with rfl | h
          · have := (HTOK.out.step hb).drop 1
            rw [Nat.one_mul] at this; exact this
          · exact .inl (List.length_eq_zero_iff.1 (by rw [HLR.out]; omega))) HX2.out ((hb.cell (p := ⟨2, 0, none⟩) HZ.out).trans HM.out)
        unfold CmdOut at hh
        rw [hok, hcm]; exact hh)
      clear hok hcm
      unfold Cmd.val at HC
      by_cases hc1 : c = 1
      · subst hc1
        obtain rfl : n = 1 := by omega
        go_enter Tryd.func14, Tryd.ntmps14
        go_upto_region 5 with (fail)
        have hO := OfAt.start w (.slice (some ⟨g, off, none⟩) 1 1) (.int .i64 lo) (.int .i64 hi) (.int .u8 (t.kind.toNat : Nat)) (.int .i64 alo) (.int .i64 ahi) t.text 37 27 25
        generalize (((w.alloc (Obj.cells #[.slice (some ⟨g, off, none⟩) 1 1, .int .i64 lo, .int .i64 hi] 37)).alloc (Obj.cells #[.int .u8 0, .string { data := #[] }, .string { data := #[] }] 27)).alloc (Obj.cells #[.int .u8 (t.kind.toNat : Nat), .string ⟨t.text.toArray⟩, .int .i64 alo, .int .i64 ahi] 25)) = w3 at hO ⊢
        have HO := Lib.hid hO
        have hv0 := hO.v; have hx0 := hO.x
        have hz3 := HO.out.lt
        have HB3 := Lib.hid (show ∀ W, Below w3.heap.size w3 W → Below w.heap.size w W from fun W h => HO.out.below.step h (by omega))
        have HKEEP := Lib.hid (fun W (h : Below w3.heap.size w3 W) => HO.out.step h)
        have hz3a : w.heap.size < w3.heap.size := by omega
        have hz3b : w.heap.size + 1 + 1 < w3.heap.size := by omega
        clear a0 a1 a2 a3 hO
        go_cut [4, 5] (fun s4 s5 wx => ∃ qb : Nat, s4 = .pointer (some ⟨qb, 0, none⟩) ∧ s5 = .bool ok ∧ OfCut w w.heap.size (.slice (some ⟨g, off, none⟩) 1 1) t.text (.int .u8 (cm.kind.toNat : Nat)) (.string ⟨cm.name.toArray⟩) (.string ⟨cm.value.toArray⟩) qb wx)
        case first =>
          go_region_with (go_at_call 26; refine (HC.out _ (some ⟨g, off, none⟩) 0 0 rfl (HB3.out _ (by first | exact (Below.refl _ w3).drew | exact ((Below.refl _ w3).alloc (Nat.le_refl _) _).drew)) (.inr rfl) (by omega) (by omega)).mono ?_; rintro e w5 ⟨rfl, hb5⟩; have S1 := HKEEP.out w5 (by first | exact (Below.refl _ w3).drew.step hb5 (Nat.le_refl _) | exact ((Below.refl _ w3).alloc (Nat.le_refl _) _).drew.step hb5 (by simp)); first | (obtain ⟨⟨q0, q1, q2⟩, r0, r1, r2⟩ := three_kept hb5; clear hb5) | clear hb5)
          all_goals go_wp2_with fail
          all_goals go_meet
          all_goals first | exact ⟨_, rfl, rfl, OfCut.new S1⟩ | exact ⟨_, rfl, rfl, OfCut.old _ _ _ S1 hz3 q0 q1 q2⟩
        case rest =>
          obtain ⟨qb, rfl, rfl, hO, k0, k1, k2⟩ := hcut
          have HO := Lib.hid hO
          have c0 := hO.c0
          have c1 := hO.c1
          have c2 := hO.c2
          have f0 := hO.f0
          have f1 := hO.f1
          have f2 := hO.f2
          have hx0 := hO.x
          clear hO HKEEP HC hz3 hz3a hz3b
          cases ok with
          | true =>
            go_wp2_with fail
            obtain ⟨⟨z0, z1, z2⟩, hbb⟩ := HO.out.put (.int .u8 (cm.kind.toNat : Nat)) (.string ⟨cm.name.toArray⟩) (.string ⟨cm.value.toArray⟩)
            simp [bodyPost, results, Tryd.results14, go_sem, z0, z1, z2]
            rw [HE.out]
            exact ⟨⟨rfl, rfl, rfl⟩, hbb⟩
          | false =>
            have HBA := Lib.hid (barred_any ⟨t.text.toArray⟩ wc (HBR.out.step HO.out.below))
            cases hbr : barredB t.text with
            | true =>
              have HE := Lib.hid (show q = ⟨117, t.text, []⟩ by rw [HE.out, if_neg (by simp), if_pos hbr])
              have HBT := Lib.hid (show barredB (bytes ⟨t.text.toArray⟩) = true from hbr)
              clear hbr
              go_wp2_with fail
              refine HBA.out.mono ?_; rintro e w6 ⟨rfl, rfl⟩
              rw [HBT.out]
              go_wp2_with fail
              obtain ⟨⟨z0, z1, z2⟩, hbb⟩ := HO.out.put (.int .u8 117) (.string ⟨t.text.toArray⟩) (.string { data := #[] })
              simp [bodyPost, results, Tryd.results14, go_sem, z0, z1, z2]
              rw [HE.out]
              exact ⟨⟨rfl, rfl, rfl⟩, hbb⟩
            | false =>
              have HE := Lib.hid (show q = ⟨111, t.text, []⟩ by rw [HE.out, if_neg (by simp), if_neg (by rw [hbr]; simp)])
              have HBT := Lib.hid (show barredB (bytes ⟨t.text.toArray⟩) = false from hbr)
              clear hbr
              go_wp2_with fail
              refine HBA.out.mono ?_; rintro e w6 ⟨rfl, rfl⟩
              rw [HBT.out]
              go_wp2_with fail
              obtain ⟨⟨z0, z1, z2⟩, hbb⟩ := HO.out.put (.int .u8 111) (.string ⟨t.text.toArray⟩) (.string { data := #[] })
              simp [bodyPost, results, Tryd.results14, go_sem, z0, z1, z2]
              rw [HE.out]
              exact ⟨⟨rfl, rfl, rfl⟩, hbb⟩
      · have hc2 : (2 : Int) ≤ c := by omega
        go_enter Tryd.func14, Tryd.ntmps14
        go_upto_region 5 with (fail)
        have hO := OfAt.start w (.slice (some ⟨g, off, none⟩) n c) (.int .i64 lo) (.int .i64 hi) (.int .u8 (t.kind.toNat : Nat)) (.int .i64 alo) (.int .i64 ahi) t.text 37 27 25
        generalize (((w.alloc (Obj.cells #[.slice (some ⟨g, off, none⟩) n c, .int .i64 lo, .int .i64 hi] 37)).alloc (Obj.cells #[.int .u8 0, .string { data := #[] }, .string { data := #[] }] 27)).alloc (Obj.cells #[.int .u8 (t.kind.toNat : Nat), .string ⟨t.text.toArray⟩, .int .i64 alo, .int .i64 ahi] 25)) = w3 at hO ⊢
        have HO := Lib.hid hO
        have hv0 := hO.v; have hx0 := hO.x
        have hz3 := HO.out.lt
        have HB3 := Lib.hid (show ∀ W, Below w3.heap.size w3 W → Below w.heap.size w W from fun W h => HO.out.below.step h (by omega))
        have HKEEP := Lib.hid (fun W (h : Below w3.heap.size w3 W) => HO.out.step h)
        have hz3a : w.heap.size < w3.heap.size := by omega
        have hz3b : w.heap.size + 1 + 1 < w3.heap.size := by omega
        clear a0 a1 a2 a3 hO
        go_cut [4, 5] (fun s4 s5 wx => ∃ qb : Nat, s4 = .pointer (some ⟨qb, 0, none⟩) ∧ s5 = .bool ok ∧ OfCut w w.heap.size (.slice (some ⟨g, off, none⟩) n c) t.text (.int .u8 (cm.kind.toNat : Nat)) (.string ⟨cm.name.toArray⟩) (.string ⟨cm.value.toArray⟩) qb wx)
        case first =>
          go_region_with (go_at_call 26; refine (HC.out _ (some ⟨g, off + 4, none⟩) (n - 1) (c - 1) rfl (HB3.out _ (by first | exact (Below.refl _ w3).drew | exact ((Below.refl _ w3).alloc (Nat.le_refl _) _).drew)) (.inl rfl) (by omega) (by omega)).mono ?_; rintro e w5 ⟨rfl, hb5⟩; have S1 := HKEEP.out w5 (by first | exact (Below.refl _ w3).drew.step hb5 (Nat.le_refl _) | exact ((Below.refl _ w3).alloc (Nat.le_refl _) _).drew.step hb5 (by simp)); first | (obtain ⟨⟨q0, q1, q2⟩, r0, r1, r2⟩ := three_kept hb5; clear hb5) | clear hb5)
          all_goals go_wp2_with fail
          all_goals go_meet
          all_goals first | exact ⟨_, rfl, rfl, OfCut.new S1⟩ | exact ⟨_, rfl, rfl, OfCut.old _ _ _ S1 hz3 q0 q1 q2⟩
        case rest =>
          obtain ⟨qb, rfl, rfl, hO, k0, k1, k2⟩ := hcut
          have HO := Lib.hid hO
          have c0 := hO.c0
          have c1 := hO.c1
          have c2 := hO.c2
          have f0 := hO.f0
          have f1 := hO.f1
          have f2 := hO.f2
          have hx0 := hO.x
          clear hO HKEEP HC hz3 hz3a hz3b
          cases ok with
          | true =>
            go_wp2_with fail
            obtain ⟨⟨z0, z1, z2⟩, hbb⟩ := HO.out.put (.int .u8 (cm.kind.toNat : Nat)) (.string ⟨cm.name.toArray⟩) (.string ⟨cm.value.toArray⟩)
            simp [bodyPost, results, Tryd.results14, go_sem, z0, z1, z2]
            rw [HE.out]
            exact ⟨⟨rfl, rfl, rfl⟩, hbb⟩
          | false =>
            have HBA := Lib.hid (barred_any ⟨t.text.toArray⟩ wc (HBR.out.step HO.out.below))
            cases hbr : barredB t.text with
            | true =>
              have HE := Lib.hid (show q = ⟨117, t.text, []⟩ by rw [HE.out, if_neg (by simp), if_pos hbr])
              have HBT := Lib.hid (show barredB (bytes ⟨t.text.toArray⟩) = true from hbr)
              clear hbr
              go_wp2_with fail
              refine HBA.out.mono ?_; rintro e w6 ⟨rfl, rfl⟩
              rw [HBT.out]
              go_wp2_with fail
              obtain ⟨⟨z0, z1, z2⟩, hbb⟩ := HO.out.put (.int .u8 117) (.string ⟨t.text.toArray⟩) (.string { data := #[] })
              simp [bodyPost, results, Tryd.results14, go_sem, z0, z1, z2]
              rw [HE.out]
              exact ⟨⟨rfl, rfl, rfl⟩, hbb⟩
            | false =>
              have HE := Lib.hid (show q = ⟨111, t.text, []⟩ by rw [HE.out, if_neg (by simp), if_neg (by rw [hbr]; simp)])
              have HBT := Lib.hid (show barredB (bytes ⟨t.text.toArray⟩) = false from hbr)
              clear hbr
              go_wp2_with fail
              refine HBA.out.mono ?_; rintro e w6 ⟨rfl, rfl⟩
              rw [HBT.out]
              go_wp2_with fail
              obtain ⟨⟨z0, z1, z2⟩, hbb⟩ := HO.out.put (.int .u8 111) (.string ⟨t.text.toArray⟩) (.string { data := #[] })
              simp [bodyPost, results, Tryd.results14, go_sem, z0, z1, z2]
              rw [HE.out]
              exact ⟨⟨rfl, rfl, rfl⟩, hbb⟩
end Go.Proofs.YtgopajddloeclaaDoor

namespace Go.Proofs.YtgopajddloeclaaDoor

theorem toks_step {f n : Nat} {l : Bs} {a : UInt8} {q : Bs} {k : UInt8} {t r : Bs} (h : sk l 0 = some (a :: q)) (ht : token (a :: q) = some (k, t, r)) : toks (f + 1) n l = (toks f n r).map (⟨k, t, n - (a :: q).length, n - r.length⟩ :: ·) := by
  rw [toks_tk, h]
  show tk f n (a :: q) = _
  rw [tk, ht]
theorem toks_done {f n : Nat} {l : Bs} (h : sk l 0 = some []) : toks (f + 1) n l = some [] := by rw [toks_tk, h]; rfl

theorem dg_facts {c : UInt8} (h : dg c = true) : bw c = false ∧ c ≠ 101 ∧ c ≠ 69 ∧ c ≠ 34 ∧ c ≠ 39 ∧ c ≠ 45 ∧ c ≠ 47 ∧ c ≠ 43 ∧ blank c = false ∧ c ≠ 36 := by
  have h2 : 48 ≤ c.toNat ∧ c.toNat ≤ 57 := by simpa [dg, UInt8.le_iff_toNat_le] using h
  have hne : ∀ d : UInt8, (d.toNat < 48 ∨ 57 < d.toNat) → c ≠ d := fun d hd e => by subst e; omega
  refine ⟨?_, hne _ (by decide), hne _ (by decide), hne _ (by decide), hne _ (by decide), hne _ (by decide), hne _ (by decide), hne _ (by decide), ?_, hne _ (by decide)⟩
  · rw [← Bool.not_eq_true]
    simp [bw, UInt8.le_iff_toNat_le, ← UInt8.toNat_inj]
    omega
  · rw [← Bool.not_eq_true]
    simp [blank, ← UInt8.toNat_inj]
    omega

theorem tok_num {c : UInt8} {r : Bs} (h : dg c = true) : token (c :: r) = some (110, (c :: r).take (nl (c :: r)), (c :: r).drop (nl (c :: r))) := by
  obtain ⟨h1, h2, h3, h4, h5, _⟩ := dg_facts h
  rw [token, if_neg (fun e => e.1.elim h2 h3), if_neg (by rw [h1]; simp), if_neg h4, if_neg h5, if_pos (.inl h)]

theorem tok_sign {c : UInt8} {r : Bs} (h1 : bw c = false) (h2 : c ≠ 34) (h3 : c ≠ 39) (h4 : dg c = false) (h5 : ¬ (c = 46 ∧ dg (r.headD 0) = true)) (h6 : c ≠ 36) : token (c :: r) = some (111, [c], r) := by
  have e : tagOf (c :: r) = none := by rw [tagOf, if_neg (fun e => h6 e.1)]
  rw [token, if_neg (fun e => by rcases e.1 with rfl | rfl <;> exact absurd h1 (by decide)), if_neg (by rw [h1]; simp), if_neg h2, if_neg h3, if_neg (fun e => e.elim (fun h => by rw [h4] at h; cases h) h5), e]

theorem sk_first {x : UInt8} {r : Bs} (h0 : blank x = false) (h1 : ¬ (x = 45 ∧ r.head? = some 45)) (h2 : ¬ (x = 47 ∧ r.head? = some 42)) : sk (x :: r) 0 = some (x :: r) := by
  refine sk_here h0 ?_ ?_
  · rw [← Bool.not_eq_true]
    intro h
    cases r with
    | nil => simp [List.isPrefixOf] at h
    | cons y r => simp [List.isPrefixOf] at h; exact h1 ⟨h.1.symm, by simp [h.2]⟩
  · rw [← Bool.not_eq_true]
    intro h
    cases r with
    | nil => simp [List.isPrefixOf] at h
    | cons y r => simp [List.isPrefixOf] at h; exact h2 ⟨h.1.symm, by simp [h.2]⟩

theorem nl_e {a c : UInt8} {r : Bs} (ha : a = 101 ∨ a = 69) (hc : dg c = true) : nl (a :: c :: r) = 1 + nl (c :: r) := by
  have hf := dg_facts hc
  rw [nl_else (by rcases ha with rfl | rfl <;> decide), if_pos ha, if_neg (show ¬ ((c :: r).headD 0 = 43 ∨ (c :: r).headD 0 = 45) from fun e => e.elim hf.2.2.2.2.2.2.2.1 hf.2.2.2.2.2.1), if_pos (show dg ((c :: r).headD 0) = true from hc)]

theorem nl_e_sign {a b c : UInt8} {r : Bs} (ha : a = 101 ∨ a = 69) (hb : b = 43 ∨ b = 45) (hc : dg c = true) : nl (a :: b :: c :: r) = 2 + nl (c :: r) := by
  rw [nl_else (by rcases ha with rfl | rfl <;> decide), if_pos ha, if_pos (show (b :: c :: r).headD 0 = 43 ∨ (b :: c :: r).headD 0 = 45 from hb), if_pos (show dg ((b :: c :: r).tail.headD 0) = true from hc)]
  rfl

theorem nl_run (d r : Bs) (h : ∀ c ∈ d, dg c = true ∨ c = 46) : nl (d ++ r) = d.length + nl r := by
  induction d with
  | nil => simp
  | cons c d ih =>
    rw [List.cons_append, nl_on (h c (by simp)), ih (fun c hc => h c (by simp [hc])), List.length_cons]
    omega

/-- What the law writes as a number. -/
def Num (N : Bs) : Prop := ∃ da db P : Bs, N = da ++ (46 :: (db ++ P)) ∧ (da ≠ [] ∧ ∀ c ∈ da, dg c = true) ∧ (∀ c ∈ db, dg c = true) ∧ (P = [] ∨ ∃ dc : Bs, (dc ≠ [] ∧ ∀ c ∈ dc, dg c = true) ∧ (P = 101 :: dc ∨ P = 69 :: 45 :: dc))

theorem nl_tail : nl [45, 46, 120] = 0 := by
  rw [nl_else (by decide), if_neg (by decide)]

theorem nl_num {N : Bs} (h : Num N) : nl (N ++ [45, 46, 120]) = N.length := by
  obtain ⟨da, db, P, rfl, ⟨_, h1⟩, h2, h3⟩ := h
  have e : (da ++ 46 :: (db ++ P)) ++ [45, 46, 120] = (da ++ 46 :: db) ++ (P ++ [45, 46, 120]) := by simp
  rw [e, nl_run _ _ (by
    intro c hc
    rcases List.mem_append.1 hc with hc | hc
    · exact .inl (h1 c hc)
    · rcases List.mem_cons.1 hc with rfl | hc
      · exact .inr rfl
      · exact .inl (h2 c hc))]
  have hP : nl (P ++ [45, 46, 120]) = P.length := by
    rcases h3 with rfl | ⟨dc, ⟨hne, h4⟩, rfl | rfl⟩
    · exact nl_tail
    · obtain ⟨c, d, rfl⟩ := List.exists_cons_of_ne_nil hne
      have := nl_run (c :: d) [45, 46, 120] (fun x hx => .inl (h4 x hx))
      rw [List.cons_append] at this
      rw [List.cons_append, List.cons_append, nl_e (.inl rfl) (h4 c (by simp)), this, nl_tail]
      simp; omega
    · obtain ⟨c, d, rfl⟩ := List.exists_cons_of_ne_nil hne
      have := nl_run (c :: d) [45, 46, 120] (fun x hx => .inl (h4 x hx))
      rw [List.cons_append] at this
      rw [List.cons_append, List.cons_append, List.cons_append, nl_e_sign (.inr rfl) (.inr rfl) (h4 c (by simp)), this, nl_tail]
      simp; omega
  rw [hP]
  simp; omega

theorem num_tokens {N : Bs} (h : Num N) : ∃ a1 a2 a3 a4 a5 b1 b2 b3 b4 b5, tokens (45 :: (N ++ [45, 46, 120])) = some [⟨111, [45], a1, b1⟩, ⟨110, N, a2, b2⟩, ⟨111, [45], a3, b3⟩, ⟨111, [46], a4, b4⟩, ⟨119, [120], a5, b5⟩] := by
  have hnl := nl_num h
  have hcon : ∃ c q, N = c :: q ∧ dg c = true := by
    obtain ⟨da, db, P, rfl, ⟨hne, h1⟩, _⟩ := h
    obtain ⟨c, d, rfl⟩ := List.exists_cons_of_ne_nil hne
    exact ⟨c, _, rfl, h1 c (by simp)⟩
  have h0 : (0 : UInt8) ∉ 45 :: (N ++ [45, 46, 120]) := by
    obtain ⟨da, db, P, rfl, ⟨hne, h1⟩, h2, h3⟩ := h
    have hz : ∀ d : Bs, (∀ c ∈ d, dg c = true) → (0 : UInt8) ∉ d := fun d hd hm => absurd (hd 0 hm) (by decide)
    have hzP : (0 : UInt8) ∉ P := by
      rcases h3 with rfl | ⟨dc, ⟨_, h4⟩, rfl | rfl⟩
      · simp
      · have := hz dc h4; simp [this]
      · have := hz dc h4; simp [this]
    have := hz da h1
    have := hz db h2
    simp [*]
  obtain ⟨c, q, rfl, hc⟩ := hcon
  obtain ⟨hb1, _, _, _, _, h45, h47, _, hbl, _⟩ := dg_facts hc
  obtain ⟨F, hF⟩ : ∃ F, (45 :: ((c :: q) ++ [45, 46, 120])).length = F + 5 := ⟨q.length, by simp⟩
  rw [tokens, if_neg h0, hF]
  rw [toks_step (sk_first (by decide) (fun e => h45 (by simpa using e.2)) (fun e => absurd e.1 (by decide))) (tok_sign (by decide) (by decide) (by decide) (by decide) (fun e => absurd e.1 (by decide)) (by decide))]
  have t2 : token ((c :: q) ++ [45, 46, 120]) = some (110, c :: q, [45, 46, 120]) := by
    rw [List.cons_append, tok_num hc, ← List.cons_append, hnl, List.take_left, List.drop_left]
  have s2 : sk ((c :: q) ++ [45, 46, 120]) 0 = some ((c :: q) ++ [45, 46, 120]) := by
    rw [List.cons_append]
    exact sk_first hbl (fun e => h45 e.1) (fun e => h47 e.1)
  rw [List.cons_append] at t2 s2
  rw [List.cons_append, toks_step s2 t2]
  rw [toks_step (a := 45) (q := [46, 120]) (k := 111) (t := [45]) (r := [46, 120]) (by rfl) (by rfl)]
  rw [toks_step (a := 46) (q := [120]) (k := 111) (t := [46]) (r := [120]) (by rfl) (by rfl)]
  rw [toks_step (a := 120) (q := []) (k := 119) (t := [120]) (r := []) (by rfl) (by rfl)]
  rw [toks_done (by rfl)]
  exact ⟨_, _, _, _, _, _, _, _, _, _, rfl⟩
end Go.Proofs.YtgopajddloeclaaDoor
