/- Contracts and mathematics: YEvent, First, Take. -/
import Derived.Test.YtmofnkinclckoaaGreatDoorZ24
import Derived.Test.YtmofnkinclckoaaGreatDoorZ21
import Derived.Test.YtmofnkinclckoaaGreatDoorZ36
import Derived.Test.YtmofnkinclckoaaGreatDoorRows
import Derived.Test.YtmofnkinclckoaaGreatDoorZ7
import Derived.BigQuiet
import Derived.Deep.QuietTactic
import Derived.RegionTactic
import Derived.Defers
import Derived.Recover
import Derived.WalkLawsBesides
import Derived.WalkSpells
namespace Go.Proofs.YtmofnkinclckoaaGreatDoor
open Go.RowKit Go.Lib Go.WideShapes

/-- The cells of the document's front. -/
def DCell (w : World) (p : Nat) (s : ByteArray) (b o : Bool) : Prop := w.heap[p]? = some (.cells #[.string s, .bool b, .bool o] 28 (0, 0))
theorem DCell.cell {w : World} {p : Nat} {s : ByteArray} {b o : Bool} (h : DCell w p s b o) : w.cell? ⟨p, 0, none⟩ = some (.string s) ∧ w.cell? ⟨p, 1, none⟩ = some (.bool b) ∧ w.cell? ⟨p, 2, none⟩ = some (.bool o) := by
  refine ⟨?_, ?_, ?_⟩ <;> rw [cell_of_row w p _ _ _ (0, 0) h] <;> rfl
theorem DCell.frozen {w : World} {p : Nat} {s : ByteArray} {b o : Bool} (h : DCell w p s b o) (j : Nat) : w.frozen? ⟨p, j, none⟩ = false := by
  unfold DCell at h
  simp [World.frozen?, h]
theorem DCell.lt {w : World} {p : Nat} {s : ByteArray} {b o : Bool} (h : DCell w p s b o) : p < w.heap.size := (Array.getElem?_eq_some_iff.1 h).1
theorem DCell.same {w w' : World} {p : Nat} {s : ByteArray} {b o : Bool} (h : DCell w p s b o) (hb : w'.heap[p]? = w.heap[p]?) : DCell w' p s b o := hb.trans h
theorem DCell.putS {w : World} {p : Nat} {s : ByteArray} {b o : Bool} (h : DCell w p s b o) (x : ByteArray) : DCell (w.setCell ⟨p, 0, none⟩ (.string x)) p x b o := by
  unfold DCell at h ⊢
  rw [setCell_eq_setRow w p 0 _ _ (0, 0) _ h]
  exact setRow_heap w p _ _ _ _ h
theorem DCell.putB {w : World} {p : Nat} {s : ByteArray} {b o : Bool} (h : DCell w p s b o) (x : Bool) : DCell (w.setCell ⟨p, 1, none⟩ (.bool x)) p s x o := by
  unfold DCell at h ⊢
  rw [setCell_eq_setRow w p 1 _ _ (0, 0) _ h]
  exact setRow_heap w p _ _ _ _ h
theorem DCell.putO {w : World} {p : Nat} {s : ByteArray} {b o : Bool} (h : DCell w p s b o) (x : Bool) : DCell (w.setCell ⟨p, 2, none⟩ (.bool x)) p s b x := by
  unfold DCell at h ⊢
  rw [setCell_eq_setRow w p 2 _ _ (0, 0) _ h]
  exact setRow_heap w p _ _ _ _ h
theorem turned_below {w w' : World} {p : Nat} (h : Below w.heap.size w w') : Turned w w' p none := ⟨h.os, h.tape, h.output, h.size, fun k hk _ _ => h.block k hk⟩
theorem turned_set (w : World) (p i : Nat) (v : Value) : Turned w (w.setCell ⟨p, i, none⟩ v) p none := ⟨rfl, rfl, rfl, by rw [World.size_setCell]; exact Nat.le_refl _, fun k _ hk _ => Below.heap_setCell _ _ _ _ hk⟩
theorem five_sets (w : World) (q : Nat) (x0 x1 x2 x3 x4 : Value) (k : Nat) (hk : k ≠ q) : (((((w.setCell ⟨q, 0, none⟩ x0).setCell ⟨q, 1, none⟩ x1).setCell ⟨q, 2, none⟩ x2).setCell ⟨q, 3, none⟩ x3).setCell ⟨q, 4, none⟩ x4).heap[k]? = w.heap[k]? := by
  rw [Below.heap_setCell _ _ _ _ hk, Below.heap_setCell _ _ _ _ hk, Below.heap_setCell _ _ _ _ hk, Below.heap_setCell _ _ _ _ hk, Below.heap_setCell _ _ _ _ hk]
theorem turned_then {w w1 w' : World} {p : Nat} {row : Option Nat} (h : Turned w w1 p row) (hb : Below w1.heap.size w1 w') (_ : w.heap.size ≤ w1.heap.size) : Turned w w' p row :=
  ⟨hb.os.trans h.os, hb.tape.trans h.tape, hb.output.trans h.output, Nat.le_trans h.size hb.size, fun k hk hp hr => (hb.block k (Nat.lt_of_lt_of_le hk h.size)).trans (h.block k hk hp hr)⟩
theorem turned_one {w w1 : World} {p q : Nat} (i : Nat) (v : Value) (hq : w.heap.size ≤ q) (h : Turned w w1 p none) : Turned w (w1.setCell ⟨q, i, none⟩ v) p none :=
  ⟨h.os, h.tape, h.output, by rw [World.size_setCell]; exact h.size, fun k hk hp hr => (Below.heap_setCell _ _ _ _ (show k ≠ q by omega)).trans (h.block k hk hp hr)⟩
theorem turned_sets {w w1 : World} {p q : Nat} {x0 x1 x2 x3 x4 : Value} (hq : w.heap.size ≤ q) (h : Turned w w1 p none) : Turned w (((((w1.setCell ⟨q, 0, none⟩ x0).setCell ⟨q, 1, none⟩ x1).setCell ⟨q, 2, none⟩ x2).setCell ⟨q, 3, none⟩ x3).setCell ⟨q, 4, none⟩ x4) p none :=
  turned_one _ _ hq (turned_one _ _ hq (turned_one _ _ hq (turned_one _ _ hq (turned_one _ _ hq h))))
/-- An event that is not written yet. -/
def EvCell (w : World) (q : Nat) : Prop := w.heap[q]? = some (.cells #[.int .u8 0, .string { data := #[] }, .string { data := #[] }, .string { data := #[] }, .slice none 0 0] 36 (0, 0))
theorem EvCell.cell {w : World} {q : Nat} (h : EvCell w q) : (w.cell? ⟨q, 0, none⟩ = some (.int .u8 0) ∧ w.cell? ⟨q, 1, none⟩ = some (.string { data := #[] }) ∧ w.cell? ⟨q, 2, none⟩ = some (.string { data := #[] }) ∧ w.cell? ⟨q, 3, none⟩ = some (.string { data := #[] }) ∧ w.cell? ⟨q, 4, none⟩ = some (.slice none 0 0)) ∧ (w.frozen? ⟨q, 0, none⟩ = false ∧ w.frozen? ⟨q, 1, none⟩ = false ∧ w.frozen? ⟨q, 2, none⟩ = false ∧ w.frozen? ⟨q, 3, none⟩ = false ∧ w.frozen? ⟨q, 4, none⟩ = false) := by
  have f : ∀ j, w.frozen? ⟨q, j, none⟩ = false := fun j => by unfold EvCell at h; simp [World.frozen?, h]
  refine ⟨⟨?_, ?_, ?_, ?_, ?_⟩, f 0, f 1, f 2, f 3, f 4⟩ <;> rw [cell_of_row w q _ _ _ (0, 0) h] <;> rfl
theorem own_from {w : World} {base n k c : Nat} {e : TypeId} {a : Option Addr} {xs : List Value} (h : w.ownsRow base e 1 (.slice a k c) n xs) : ∀ g off, a = some ⟨g, off, none⟩ → base ≤ g := by
  rintro g off rfl
  rcases h.2 with ⟨h0, _⟩ | ⟨g', cap, cur, e1, hb, _⟩
  · cases h0
  · cases e1; exact hb
/-- What the event of a frame leaves. -/
def Evt18 (w : World) (p : Nat) (s : ByteArray) (b : Bool) (E : Ev) (e : Ending) (w' : World) : Prop := ∃ sl, e = .returned (evV E sl) ∧ EvNums w' (fun g => w.heap.size ≤ g) E.n sl ∧ DCell w' p s b false ∧ Turned w w' p none
theorem evt_below {w w' : World} {p : Nat} {s : ByteArray} {b : Bool} {E : Ev} {sl : Value} {e : Ending} (h : DCell w p s b false) (he : e = .returned (evV E sl)) (hn : E.n = []) (hs : sl = .slice none 0 0) (hb : Below w.heap.size w w') : Evt18 w p s b E e w' :=
  ⟨sl, he, by rw [hn, hs]; exact evNums_nil _ _, h.same (hb.block p h.lt), turned_below hb⟩
set_option maxRecDepth 100000 in
set_option maxHeartbeats 32000000 in
theorem event18_any (p : Nat) (s : ByteArray) (b : Bool) (c : UInt8) (S : Bs) (w : World) (h : DCell w p s b false) (hl : S.length ≤ 9900) (h0 : b = false → c = 0) :
    Calls Tryz.prog 19 #[.pointer (some ⟨p, 0, none⟩), .agg #[.int .u8 (c.toNat : Nat), .string ⟨S.toArray⟩]] w (Evt18 w p s (b || (readL false c S).isSome) (eventE b c (readL false c S))) := by
  obtain ⟨ci, hci⟩ : ∃ ci : Int, ci = (c.toNat : Nat) := ⟨_, rfl⟩
  obtain ⟨sb, hsb⟩ : ∃ sb : ByteArray, sb = ⟨S.toArray⟩ := ⟨_, rfl⟩
  obtain ⟨W0, hW0⟩ : ∃ x, x = (w.alloc (.cells #[.int .u8 ci, .string sb] 58)).alloc (.cells #[.int .u8 0, .string { data := #[] }, .string { data := #[] }, .string { data := #[] }, .slice none 0 0] 36) := ⟨_, rfl⟩
  have hz : W0.heap.size = w.heap.size + 1 + 1 := by rw [hW0]; simp
  have HB := Lib.hid (show Below w.heap.size w W0 by rw [hW0]; exact ((Below.refl _ _).alloc (Nat.le_refl _) _).alloc (by simp) _)
  have HQ := Lib.hid (show EvCell W0 (w.heap.size + 1) from by
    rw [hW0]
    have := heap_alloc_new (w.alloc (.cells #[.int .u8 ci, .string sb] 58)) (.cells #[.int .u8 0, .string { data := #[] }, .string { data := #[] }, .string { data := #[] }, .slice none 0 0] 36)
    rw [World.size_alloc] at this; exact this)
  have HRE := Lib.hid (rdecode_any W0 false c S hl)
  rw [← hci, ← hsb] at HRE
  rw [← hci, ← hsb]
  have HE := Lib.hid hW0; have HZ := Lib.hid hz; have HCI := Lib.hid hci
  have HD := Lib.hid h
  have hpz := h.lt
  have HC0 := Lib.hid h0; have HL := Lib.hid hl
  obtain ⟨R, hR⟩ : ∃ z, z = readL false c S := ⟨_, rfl⟩
  have HR := Lib.hid hR
  have HRD := Lib.hid (show readD false c S = R from by rw [hR]; exact if_neg (by omega))
  rw [← hR] at HRE ⊢
  obtain ⟨bb, hbb⟩ : ∃ z, z = (b || R.isSome) := ⟨_, rfl⟩
  obtain ⟨EE, hEE⟩ : ∃ z, z = eventE b c R := ⟨_, rfl⟩
  have HBB := Lib.hid hbb; have HEE := Lib.hid hEE
  rw [← hbb, ← hEE]
  clear hW0 hz hci hsb hR h h0 hl hbb hEE
  go_enter Tryz.func19, Tryz.ntmps19
  go_wp2_with fail
  rw [← HE.out]
  cases R with
  | none =>
    refine HRE.out.mono ?_; rintro e w2 ⟨rfl, hb⟩
    obtain ⟨⟨k0, k1, k2, k3, k4⟩, f0, f1, f2, f3, f4⟩ := EvCell.cell (hb.block _ (by rw [HZ.out]; omega) |>.trans HQ.out : EvCell w2 (w.heap.size + 1))
    have HB2 := Lib.hid (HB.out.step hb HB.out.size)
    have hz2 : w.heap.size + 1 < w2.heap.size := by have := hb.size; have := HZ.out; omega
    clear hb
    obtain rfl : bb = b := by rw [HBB.out]; cases b <;> rfl
    have HX := Lib.hid (show EE = wrongEv c_bytes from HEE.out)
    go_wp2_with fail
    simp [bodyPost, results, Tryz.results19, go_sem, k0, k1, k2, k3, k4, hz2]
    rw [HX.out]
    refine evt_below HD.out rfl rfl rfl (((((((HB2.out.setCell (Nat.le_succ _) _).setCell (Nat.le_succ _) _).setCell (Nat.le_succ _) _).setCell (Nat.le_succ _) _).setCell (Nat.le_succ _) _)).alloc (by simp only [World.size_setCell]; omega) _)
  | some P =>
    obtain ⟨T, N⟩ := P
    refine HRE.out.mono ?_; rintro e w2 ⟨tv, nv, rfl, hT, hN, hb⟩
    have hq2 : EvCell w2 (w.heap.size + 1) := (hb.block _ (by rw [HZ.out]; omega)).trans HQ.out
    have HQ2 := Lib.hid hq2
    have hd2 : DCell w2 p s b false := HD.out.same ((HB.out.step hb HB.out.size).block p hpz)
    have HD2 := Lib.hid hd2
    obtain ⟨x0, x1, x2⟩ := hd2.cell
    have z1 := hd2.frozen 1
    have HB2 := Lib.hid (HB.out.step hb HB.out.size)
    have hz2 : w.heap.size + 1 < w2.heap.size := by have := hb.size; have := HZ.out; omega
    have hp2 : p < w2.heap.size := by omega
    have HT2 := Lib.hid (own_textsIn hT); have HN2 := Lib.hid (own_numsIn hN)
    have HTL := Lib.hid (show T.length ≤ 800000 from by have := (read_bounds HR.out.symm).2; have := HL.out; omega)
    obtain ⟨ta, tc, rfl⟩ := ownsRow_form hT
    obtain ⟨na, nc, rfl⟩ := ownsRow_form hN
    have HNB := Lib.hid (own_from hN)
    rw [← HCI.out]
    obtain rfl : bb = true := by rw [HBB.out]; cases b <;> rfl
    clear hT hN hb hq2 hd2
    cases b with
    | false =>
      obtain rfl := HC0.out rfl
      have HF0 := Lib.hid (read_first HRD.out)
      have HFU := Lib.hid (read_full HRD.out)
      obtain ⟨W3, hW3⟩ : ∃ x, x = (w2.setCell ⟨p, 1, none⟩ (.bool true)).alloc (.cells #[.int .u8 ci, .slice ta T.length tc, .slice na N.length nc] 72) := ⟨_, rfl⟩
      have hT3 : TextsIn W3 (.slice ta T.length tc) T := by rw [hW3]; exact (texts_flag HT2.out x1 _).mono ((Below.refl _ _).alloc (Nat.le_refl _) _)
      have hN3 : NumsIn W3 (.slice na N.length nc) N := by rw [hW3]; exact (nums_flag HN2.out x1 _).mono ((Below.refl _ _).alloc (Nat.le_refl _) _)
      have HFC := Lib.hid (first_any18 ci _ _ _ _ _ _ T N W3 hT3 hN3 HTL.out HF0.out HFU.out)
      have HB3 := Lib.hid (show Below (w2.setCell ⟨p, 1, none⟩ (.bool true)).heap.size (w2.setCell ⟨p, 1, none⟩ (.bool true)) W3 by rw [hW3]; exact (Below.refl _ _).alloc (Nat.le_refl _) _)
      have HZ3 := Lib.hid (show w2.heap.size < W3.heap.size by rw [hW3]; simp)
      have HQ3 := Lib.hid (show EvCell W3 (w.heap.size + 1) from (HB3.out.block _ (by rw [World.size_setCell]; omega)).trans ((Below.heap_setCell _ _ _ _ (by show w.heap.size + 1 ≠ p; omega)).trans HQ2.out))
      have HD3 := Lib.hid (show DCell W3 p s true false from (HD2.out.putB true).same (HB3.out.block _ (by rw [World.size_setCell]; exact hp2)))
      have HE3 := Lib.hid hW3
      have HTU := Lib.hid (show Turned w W3 p none from ⟨HB3.out.os.trans HB2.out.os, HB3.out.tape.trans HB2.out.tape, HB3.out.output.trans HB2.out.output, by have := HZ3.out; have := HB2.out.size; omega, fun k hk hkp _ => (HB3.out.block k (by rw [World.size_setCell]; omega)).trans ((Below.heap_setCell _ _ _ _ hkp).trans (HB2.out.block k hk))⟩)
      obtain ⟨E, hE⟩ : ∃ z, z = beginE T N := ⟨_, rfl⟩
      obtain rfl : EE = E := by rw [HEE.out, hE]; rfl
      rw [← hE] at HFC
      clear hW3 hT3 hN3 hE
      go_wp2_with fail
      rw [← HE3.out]
      refine HFC.out.mono ?_; rintro e w5 ⟨sl, rfl, hEN, hb⟩
      have HB5 := Lib.hid hb
      obtain ⟨⟨k0, k1, k2, k3, k4⟩, f0, f1, f2, f3, f4⟩ := EvCell.cell ((hb.block _ (by have := HZ3.out; omega)).trans HQ3.out : EvCell w5 (w.heap.size + 1))
      obtain ⟨b', m', d', rfl, hNN, hQQ⟩ := hEN
      have HNN := Lib.hid (nums_event hNN k0 k1 k2 k3 k4)
      have HQQ := Lib.hid hQQ
      clear hb hNN hQQ x0 x1 x2 z1
      go_wp2_with fail
      simp [bodyPost, results, Tryz.results19, go_sem, k0, k1, k2, k3, k4]
      exact ⟨_, rfl, ⟨b', m', d', rfl, HNN.out _ _ _ _ _, fun hne g off he => by
        obtain ⟨off2, e2⟩ := HQQ.out hne g off he
        have := HNB.out g off2 e2
        have := HZ.out
        omega⟩, HD3.out.same (((five_sets _ _ _ _ _ _ _ p (by omega)).trans (HB5.out.block p (by have := HZ3.out; omega)))), turned_sets (by omega) (turned_then HTU.out HB5.out (by have := HZ3.out; omega))⟩
    | true =>
      have HX := Lib.hid (show EE = laterE c T from HEE.out)
      obtain ⟨⟨k0, k1, k2, k3, k4⟩, f0, f1, f2, f3, f4⟩ := EvCell.cell HQ2.out
      have HTX := Lib.hid (fun hc => read_text (c := c) hc HRD.out)
      clear z1
      by_cases h81 : c = 81
      · subst h81
        obtain rfl : ci = 81 := HCI.out
        obtain ⟨t, rfl⟩ := HTX.out (.inl rfl)
        obtain ⟨a', n', c', hva, hlt, hnc, hc9, hr⟩ := HT2.out
        injection hva with e1 e2 e3
        subst e1 e3
        rcases hr with hr | ⟨g, off, rfl, hg, hc⟩
        · cases hr
        have ct := hc 0 t rfl
        rw [Nat.add_zero] at ct
        have hcc : (1 : Int) ≤ tc := by rw [← e2] at hnc; simp at hnc; omega
        clear hlt hc hc9 hnc e2
        have HS := Lib.hid (show EE = ⟨113, [], [], t, []⟩ from HX.out)
        go_wp2_with fail
        simp [bodyPost, results, Tryz.results19, go_sem, k0, k1, k2, k3, k4, hz2]
        rw [HS.out]
        refine evt_below HD.out rfl rfl rfl (((((((HB2.out.setCell (Nat.le_succ _) _).setCell (Nat.le_succ _) _).setCell (Nat.le_succ _) _).setCell (Nat.le_succ _) _).setCell (Nat.le_succ _) _)).alloc (by simp only [World.size_setCell]; omega) _)
      by_cases h112 : c = 112
      · subst h112
        obtain rfl : ci = 112 := HCI.out
        obtain ⟨t, rfl⟩ := HTX.out (.inr rfl)
        obtain ⟨a', n', c', hva, hlt, hnc, hc9, hr⟩ := HT2.out
        injection hva with e1 e2 e3
        subst e1 e3
        rcases hr with hr | ⟨g, off, rfl, hg, hc⟩
        · cases hr
        have ct := hc 0 t rfl
        rw [Nat.add_zero] at ct
        have hcc : (1 : Int) ≤ tc := by rw [← e2] at hnc; simp at hnc; omega
        clear hlt hc hc9 hnc e2
        have HS := Lib.hid (show EE = ⟨112, [], [], t, []⟩ from HX.out)
        go_wp2_with fail
        simp [bodyPost, results, Tryz.results19, go_sem, k0, k1, k2, k3, k4, hz2]
        rw [HS.out]
        refine evt_below HD.out rfl rfl rfl (((((((HB2.out.setCell (Nat.le_succ _) _).setCell (Nat.le_succ _) _).setCell (Nat.le_succ _) _).setCell (Nat.le_succ _) _).setCell (Nat.le_succ _) _)).alloc (by simp only [World.size_setCell]; omega) _)
      by_cases h83 : c = 83
      · subst h83
        obtain rfl : ci = 83 := HCI.out
        have HS := Lib.hid (show EE = ⟨121, [], [], [], []⟩ from HX.out)
        go_wp2_with fail
        simp [bodyPost, results, Tryz.results19, go_sem, k0, k1, k2, k3, k4, hz2]
        rw [HS.out]
        refine evt_below HD.out rfl rfl rfl (((((((HB2.out.setCell (Nat.le_succ _) _).setCell (Nat.le_succ _) _).setCell (Nat.le_succ _) _).setCell (Nat.le_succ _) _).setCell (Nat.le_succ _) _)).alloc (by simp only [World.size_setCell]; omega) _)
      by_cases h88 : c = 88
      · subst h88
        obtain rfl : ci = 88 := HCI.out
        have HS := Lib.hid (show EE = ⟨120, [], [], [], []⟩ from HX.out)
        go_wp2_with fail
        simp [bodyPost, results, Tryz.results19, go_sem, k0, k1, k2, k3, k4, hz2]
        rw [HS.out]
        refine evt_below HD.out rfl rfl rfl (((((((HB2.out.setCell (Nat.le_succ _) _).setCell (Nat.le_succ _) _).setCell (Nat.le_succ _) _).setCell (Nat.le_succ _) _).setCell (Nat.le_succ _) _)).alloc (by simp only [World.size_setCell]; omega) _)
      have d1 : (ci == 81) = false := by rw [HCI.out]; simpa using fun e : (c.toNat : Int) = 81 => h81 (UInt8.toNat_inj.1 (by show c.toNat = 81; omega))
      have d2 : (ci == 112) = false := by rw [HCI.out]; simpa using fun e : (c.toNat : Int) = 112 => h112 (UInt8.toNat_inj.1 (by show c.toNat = 112; omega))
      have d3 : (ci == 83) = false := by rw [HCI.out]; simpa using fun e : (c.toNat : Int) = 83 => h83 (UInt8.toNat_inj.1 (by show c.toNat = 83; omega))
      have d4 : (ci == 88) = false := by rw [HCI.out]; simpa using fun e : (c.toNat : Int) = 88 => h88 (UInt8.toNat_inj.1 (by show c.toNat = 88; omega))
      have HS := Lib.hid (show EE = ⟨117, [], [], [], []⟩ from by rw [HX.out]; unfold laterE; rw [if_neg h81, if_neg h112, if_neg h83, if_neg h88])
      clear h81 h112 h83 h88
      go_wp2_with fail
      simp [bodyPost, results, Tryz.results19, go_sem, k0, k1, k2, k3, k4, hz2]
      rw [HS.out]
      refine evt_below HD.out rfl rfl rfl (((((((HB2.out.setCell (Nat.le_succ _) _).setCell (Nat.le_succ _) _).setCell (Nat.le_succ _) _).setCell (Nat.le_succ _) _).setCell (Nat.le_succ _) _)).alloc (by simp only [World.size_setCell]; omega) _)
end Go.Proofs.YtmofnkinclckoaaGreatDoor

namespace Go.Proofs.YtmofnkinclckoaaGreatDoor
open Go.RowKit Go.Lib

@[go_sem, simp] theorem setCell_drewNM (w : World) (k : Nat) (a : Addr) (v : Value) : (w.drewN k).setCell a v = (w.setCell a v).drewN k := rfl

/-- The three blocks that the results lie in. -/
def three (w : World) (t : Int) (s : ByteArray) (n e : Int) : World :=
  ((w.alloc (.cells #[.int .u8 t, .string s] 50)).alloc (.cells #[.int .i64 n] 3)).alloc (.cells #[.int .i64 e] 40)

theorem three_below (w : World) (t : Int) (s : ByteArray) (n e : Int) : Below w.heap.size w (three w t s n e) :=
  (((Below.refl _ _).alloc (Nat.le_refl _) _).alloc (by simp) _).alloc (by simp; omega) _

end Go.Proofs.YtmofnkinclckoaaGreatDoor

namespace Go.Proofs.YtmofnkinclckoaaGreatDoor
open Go.RowKit Go.Lib

theorem frame_good {s : ByteArray} {bare : Bool} (h : frameE s bare = 0) : headN bare ≤ s.size ∧ 4 ≤ num s (headN bare - 4) ∧ num s (headN bare - 4) ≤ 10004 ∧ frameN s bare ≤ s.size ∧ (bare = false → 0 < headT s bare) := by
  unfold frameE at h
  repeat' split at h
  all_goals first | (exfalso; omega) | skip
  rename_i h1 h2 h3 h4
  refine ⟨by omega, by omega, by omega, by omega, fun hb => ?_⟩
  have : ¬ headT s bare = 0 := fun e => h2 (Or.inr ⟨hb, e⟩)
  omega

end Go.Proofs.YtmofnkinclckoaaGreatDoor
