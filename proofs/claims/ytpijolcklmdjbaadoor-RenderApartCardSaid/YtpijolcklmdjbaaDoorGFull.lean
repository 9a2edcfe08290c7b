/- Package render: a name in full. -/
import Derived.Test.YtpijolcklmdjbaaDoorGSplit
import Derived.Test.YtpijolcklmdjbaaDoorNGood
import Derived.Test.YtpijolcklmdjbaaDoorShelf
import Derived.Deep.LoopGhost
namespace Go.Proofs.YtpijolcklmdjbaaDoor
open Go.RowKit Go.Lib Go.WideShapes

/-- What the cells hold when k parts are done. -/
def doneL (L : List Bs) (k : Nat) : List Bs := (L.take k).map identB ++ L.drop k
theorem doneL_zero (L : List Bs) : doneL L 0 = L := rfl
theorem doneL_all (L : List Bs) : doneL L L.length = L.map identB := by unfold doneL; simp
theorem doneL_at {L : List Bs} {k : Nat} (h : k < L.length) : (doneL L k)[k]? = some L[k] := by
  unfold doneL
  have hl : ((L.take k).map identB).length = k := by rw [List.length_map, List.length_take]; omega
  rw [List.getElem?_append_right (by omega), hl, Nat.sub_self, List.getElem?_drop, Nat.add_zero, List.getElem?_eq_getElem h]
theorem doneL_next {L : List Bs} {k : Nat} (h : k < L.length) (j : Nat) : (doneL L (k + 1))[j]? = if j = k then some (identB L[k]) else (doneL L k)[j]? := by
  have e : doneL L (k + 1) = (doneL L k).set k (identB L[k]) := by
    unfold doneL
    have hl : ((L.take k).map identB).length = k := by rw [List.length_map, List.length_take]; omega
    rw [List.set_append_right _ _ (by omega), hl, Nat.sub_self, List.take_succ_eq_append_getElem h, List.map_append, List.drop_eq_getElem_cons h, List.set_cons_zero, List.append_assoc]; rfl
  rw [e, List.getElem?_set]
  have hl : k < (doneL L k).length := by unfold doneL; rw [List.length_append, List.length_map, List.length_take, List.length_drop]; omega
  by_cases hj : j = k
  · subst hj; rw [if_pos rfl, if_pos rfl, if_pos hl]
  · rw [if_neg (fun e => hj e.symm), if_neg hj]
theorem doneL_length (L : List Bs) {k : Nat} (h : k ≤ L.length) : (doneL L k).length = L.length := by unfold doneL; rw [List.length_append, List.length_map, List.length_take, List.length_drop]; omega
/-- A row of texts that this call made. -/
structure PartsAt (w : World) (b : Nat) (X : List Bs) : Prop where
  lt : b < w.heap.size
  cell : ∀ (j : Nat) x, X[j]? = some x → w.cell? ⟨b, j, none⟩ = some (.string ⟨x.toArray⟩)
  free : ∀ (j : Nat) x, X[j]? = some x → w.frozen? ⟨b, j, none⟩ = false
theorem PartsAt.new (w : World) (X : List Bs) (t : TypeId) : PartsAt (w.alloc (.cells ((X.map fun l => (⟨l.toArray⟩ : ByteArray)).map Value.string).toArray t)) w.heap.size X := by
  refine ⟨by rw [World.size_alloc]; omega, fun j x hx => ?_, fun j x hx => ?_⟩
  · rw [World.cell?_alloc_new]
    simp [hx]
  · simp [go_sem]
theorem PartsAt.step {w w' : World} {b : Nat} {X : List Bs} (h : PartsAt w b X) (hb : Below w.heap.size w w') : PartsAt w' b X :=
  ⟨Nat.lt_of_lt_of_le h.lt hb.size, fun j x hx => (hb.cell (p := ⟨b, j, none⟩) h.lt).trans (h.cell j x hx), fun j x hx => (hb.frozen (p := ⟨b, j, none⟩) h.lt).trans (h.free j x hx)⟩
theorem PartsAt.set {w : World} {b k : Nat} {L : List Bs} (h : PartsAt w b (doneL L k)) (hk : k < L.length) : PartsAt (w.setCell ⟨b, k, none⟩ (.string ⟨(identB L[k]).toArray⟩)) b (doneL L (k + 1)) := by
  have hc := h.cell k _ (doneL_at hk)
  refine ⟨by rw [World.size_setCell]; exact h.lt, fun j x hx => ?_, fun j x hx => ?_⟩
  · rw [doneL_next hk] at hx
    by_cases hj : j = k
    · subst hj
      rw [if_pos rfl] at hx
      cases hx
      exact World.cell?_setCell_same _ _ _ hc
    · rw [if_neg hj] at hx
      rw [World.cell?_setCell_other _ _ _ _ (show (⟨b, k, none⟩ : Addr) ≠ ⟨b, j, none⟩ from fun e => hj (congrArg Addr.off e).symm)]
      exact h.cell j x hx
  · rw [World.frozen?_setCell]
    rw [doneL_next hk] at hx
    by_cases hj : j = k
    · subst hj; exact h.free j _ (doneL_at hk)
    · rw [if_neg hj] at hx; exact h.free j x hx

theorem full_facts {l : Bs} (hg : goodB l = true) : ∃ L, gsp 46 l = L ∧ l.count 46 + 1 = L.length ∧ L.length ≤ 2 ∧ fullB l = Lib.join (L.map identB) [46] ∧ ∀ x ∈ L, x.length ≤ l.length := by
  rcases good_split hg with ⟨hd, hs⟩ | ⟨a, b, rfl, hd, ha, hb, hs⟩
  · refine ⟨_, hs, by rw [List.count_eq_zero_of_not_mem hd]; rfl, by simp, ?_, fun x hx => ?_⟩
    · rw [full_one hd, List.map_cons, List.map_nil, Lib.join_one]
    · rw [List.mem_singleton.1 hx]; exact Nat.le_refl _
  · refine ⟨_, hs, ?_, by simp, ?_, fun x hx => ?_⟩
    · rw [List.count_append, List.count_cons_self, List.count_eq_zero_of_not_mem hd, List.count_eq_zero_of_not_mem (partB_nodot hb)]; rfl
    · rw [full_two hd]; simp [Lib.join, List.intercalate]
    · simp only [List.mem_cons, List.not_mem_nil, or_false] at hx
      rcases hx with rfl | rfl <;> (rw [List.length_append, List.length_cons]; omega)

set_option maxRecDepth 100000 in
set_option maxHeartbeats 4000000 in
theorem full_any (s : ByteArray) (m : Int) (w : World) (hg : goodB (bytes s) = true) (hm : w.cell? ⟨1, 0, none⟩ = some (.int .i64 m)) (hT : TakenAt w) :
    Calls Tryd.prog 12 #[.string s] w fun e w' => e = .returned (.string ⟨(fullB (bytes s)).toArray⟩) ∧ Below w.heap.size w w' := by
  have hgl := good_len hg
  rw [bytes_len] at hgl
  have hfl := full_length (bytes s)
  rw [bytes_len] at hfl
  obtain ⟨L, hL, hn, h2, hF, hx⟩ := full_facts hg
  rw [← count_list (s := s)] at hn
  have HS := Lib.hid (Tryd.strings_Split s ⟨#[46]⟩ m w (by omega) hm (by decide))
  rw [split_list hL, hn] at HS
  rw [hF] at hfl ⊢
  have HJ := Lib.hid (fun (W : World) (hb : PartsAt W w.heap.size (L.map identB)) => Tryd.strings_Join w.heap.size 0 L.length ((L.map identB).map fun l => (⟨l.toArray⟩ : ByteArray)) ⟨#[46]⟩ W (fun j x hx => by
    rw [List.getElem?_map] at hx
    cases hy : (L.map identB)[j]? with
    | none => rw [hy] at hx; cases hx
    | some y => rw [hy] at hx; cases hx; rw [Nat.zero_add]; exact hb.cell j y hy) hb.lt (by simp; omega) (by simp) (by
    rw [List.map_map, show ((fun x : ByteArray => x.data.toList) ∘ fun l : Bs => (⟨l.toArray⟩ : ByteArray)) = id from rfl, List.map_id]
    show (Lib.join (L.map identB) [46]).length ≤ _
    omega))
  rw [List.length_map, List.length_map, List.map_map, show ((fun x : ByteArray => x.data.toList) ∘ fun l : Bs => (⟨l.toArray⟩ : ByteArray)) = id from rfl, List.map_id] at HJ
  have HX := Lib.hid (fun (k : Nat) (h : k < L.length) => show (L[k]).length ≤ 63 from Nat.le_trans (hx _ (List.getElem_mem h)) (by rw [bytes_len]; exact hgl))
  have HI := Lib.hid (fun (S : ByteArray) (W : World) h1 h2 h3 => ident_any S m W h1 h2 h3)
  have HM := Lib.hid hm
  have HW0 := Lib.hid (World.block_lt_of_cell? w ⟨1, 0, none⟩ hm)
  have HT := Lib.hid hT
  obtain ⟨n, hnL⟩ : ∃ n, n = L.length := ⟨_, rfl⟩
  rw [← hnL] at HS HJ
  have HNL := Lib.hid hnL
  have hn2 : (n : Int) ≤ 2 := by omega
  clear hm hT hg hgl hfl hL hn h2 hF hx hnL
  go_enter Tryd.func12, Tryd.ntmps12
  go_wp2_with fail
  refine HS.out.mono ?_; rintro e w1 ⟨rfl, hw1⟩
  have hP1 : PartsAt w1 w.heap.size L := by rw [hw1]; exact PartsAt.new w L _
  have hB1 : Below w.heap.size w w1 := by rw [hw1]; exact (Below.refl _ _).alloc (Nat.le_refl _) _
  clear hw1
  have HP1 := Lib.hid hP1; have HB1 := Lib.hid hB1
  clear hP1 hB1
  go_wp2_with fail
  go_loopg [10] n (fun g v wr => ∃ k : Nat, v = .int .i64 k ∧ k ≤ n ∧ g = n - k ∧ PartsAt wr w.heap.size (doneL L k) ∧ Below w.heap.size w wr)
  case atStart => exact ⟨0, rfl, Nat.zero_le _, rfl, HP1.out, HB1.out⟩
  case round =>
    obtain ⟨k, rfl, hk, hg, hP, hb⟩ := hrel
    have HP := Lib.hid hP; have HBB := Lib.hid hb; have HG := Lib.hid hg
    clear hP hb hg
    have hkn : (k : Int) ≤ n := by omega
    by_cases hlt : k < n
    · have hlt' : (k : Int) < n := by omega
      have HK := Lib.hid (show k < L.length by rw [← HNL.out]; exact hlt)
      have hc := HP.out.cell k _ (doneL_at HK.out)
      have hf := HP.out.free k _ (doneL_at HK.out)
      have HLK := Lib.hid (HX.out k HK.out)
      have HPS := Lib.hid (fun W (h : PartsAt W w.heap.size (doneL L k)) => h.set HK.out)
      have HDX := Lib.hid (doneL_at HK.out)
      generalize hx : L[k]'HK.out = x at hc hf HLK HPS HDX
      clear hx
      have HM1 := Lib.hid ((HBB.out.cell (p := ⟨1, 0, none⟩) HW0.out).trans HM.out)
      have HT1 := Lib.hid (show TakenAt wr from HT.out.step HBB.out)
      go_wp2_with fail
      refine (HI.out ⟨x.toArray⟩ wr (by rw [bsize]; have := HLK.out; omega) HM1.out HT1.out).mono ?_; rintro e w2 ⟨rfl, hb2⟩
      rw [show bytes (⟨x.toArray⟩ : ByteArray) = x by simp [bytes]]
      have HP2 := Lib.hid (HP.out.step hb2)
      have HB2 := Lib.hid (HBB.out.step hb2 HBB.out.size)
      have HP3 := Lib.hid (HPS.out w2 HP2.out)
      have hc2 := HP2.out.cell k x HDX.out
      have hf2 := HP2.out.free k x HDX.out
      clear hb2 hc hf
      go_wp2_with fail
      go_roundg (n - (k + 1))
      case measure => have := HG.out; omega
      case rel => exact ⟨k + 1, by go_num, by omega, rfl, HP3.out, HB2.out.setCell (Nat.le_refl _) _⟩
    · obtain rfl : k = n := by omega
      have HPE := Lib.hid (show PartsAt wr w.heap.size (L.map identB) by have := HP.out; rw [HNL.out, doneL_all] at this; exact this)
      go_wp2_with fail
      refine (HJ.out wr HPE.out).mono ?_; rintro e w2 ⟨rfl, hb2⟩
      have HB2 := Lib.hid (HBB.out.step hb2 HBB.out.size)
      clear hb2
      go_wp2_with fail
      go_ret
      exact ⟨rfl, HB2.out⟩
end Go.Proofs.YtpijolcklmdjbaaDoor
