/- Contracts and mathematics: GM, GSplit, GFull. -/
import Derived.Test.YtpijolcklmdjbaaGreatDoorZ28
import Derived.Lib.SplitLaws
import Derived.Lib.Join
import Derived.Test.YtpijolcklmdjbaaGreatDoorZ13
import Derived.Test.YtpijolcklmdjbaaGreatDoorShelf
import Derived.Deep.LoopGhost
namespace Go.Proofs.YtpijolcklmdjbaaGreatDoor
open Go.RowKit Go.Lib Go.WideShapes

abbrev g_set : Bs := [83, 69, 84, 32]
abbrev g_setl : Bs := [83, 69, 84, 32, 76, 79, 67, 65, 76, 32]
abbrev g_reset : Bs := [82, 69, 83, 69, 84, 32]
abbrev g_all : Bs := [82, 69, 83, 69, 84, 32, 65, 76, 76]
abbrev g_discard : Bs := [68, 73, 83, 67, 65, 82, 68, 32, 65, 76, 76]
abbrev g_begin : Bs := [66, 69, 71, 73, 78]
abbrev g_commit : Bs := [67, 79, 77, 77, 73, 84]
abbrev g_rollback : Bs := [82, 79, 76, 76, 66, 65, 67, 75]
/-- The text of a command that sets a value. -/
def asgT (w n v : Bs) : Bs := w ++ (fullB n ++ (32 :: 84 :: 79 :: 32 :: quoted 39 v))
def okV (v : Bs) : Bool := decide (v.length ≤ 60) && decide ((0 : UInt8) ∉ v)
def asgO (w n v : Bs) : Option Bs := if okV v then some (asgT w n v) else none
/-- The statement of a command, if there is one. -/
def statT (k : UInt8) (n v : Bs) : Option Bs :=
  if k = 115 then (if goodB n then asgO g_set n v else none)
  else if k = 108 then (if goodB n then asgO g_setl n v else none)
  else if k = 114 then (if goodB n then some (g_reset ++ fullB n) else none)
  else if k = 97 then some g_all
  else if k = 120 then some g_discard
  else if k = 98 then some g_begin
  else if k = 99 then some g_commit
  else if k = 107 then some g_rollback
  else none
theorem good_len {n : Bs} (h : goodB n = true) : n.length ≤ 63 := by
  unfold goodB at h
  simp only [Bool.and_eq_true, decide_eq_true_eq] at h
  exact h.1
end Go.Proofs.YtpijolcklmdjbaaGreatDoor

namespace Go.Proofs.YtpijolcklmdjbaaGreatDoor
open Go.RowKit Go.Lib Go.WideShapes

/-- A text at each of a sign. -/
def gsp (c : UInt8) : Bs → List Bs
  | [] => [[]]
  | x :: l => if x = c then [] :: gsp c l else match gsp c l with
    | [] => [[x]]
    | a :: r => (x :: a) :: r
theorem gsp_one {c : UInt8} : ∀ {a : Bs}, c ∉ a → gsp c a = [a]
  | [], _ => rfl
  | x :: a, h => by
    unfold gsp
    rw [if_neg (fun e => h (by rw [e]; exact List.mem_cons_self)), gsp_one (fun hm => h (List.mem_cons_of_mem _ hm))]
theorem gsp_cons {c : UInt8} : ∀ {a b : Bs}, c ∉ a → gsp c (a ++ c :: b) = a :: gsp c b
  | [], b, _ => by show gsp c (c :: b) = [] :: gsp c b; rw [show gsp c (c :: b) = [] :: gsp c b from by rw [gsp, if_pos rfl]]
  | x :: a, b, h => by
    show gsp c (x :: (a ++ c :: b)) = _
    have ih := gsp_cons (a := a) (b := b) (fun hm => h (List.mem_cons_of_mem _ hm))
    rw [gsp, if_neg (fun e => h (by rw [e]; exact List.mem_cons_self)), ih]
theorem gindex_byte (c : UInt8) : ∀ l : Bs, if c ∈ l then indexByte l c = ((l.takeWhile (· != c)).length : Nat) else indexByte l c = -1
  | [] => rfl
  | x :: l => by
    have ih := gindex_byte c l
    have e : indexByte (x :: l) c = if x == c then 0 else if indexByte l c == -1 then -1 else indexByte l c + 1 := rfl
    rw [e]
    by_cases h : x = c
    · subst h; simp
    · have hb : (x == c) = false := by simpa using h
      have hb' : (x != c) = true := by simpa using h
      rw [hb, List.takeWhile_cons, if_pos hb']
      by_cases hc : c ∈ l
      · rw [if_pos hc] at ih
        rw [if_pos (List.mem_cons_of_mem _ hc)]
        have hne : (indexByte l c == -1) = false := by rw [beq_eq_false_iff_ne]; omega
        rw [hne, ih]
        simp
      · rw [if_neg hc] at ih
        rw [if_neg (by simp [hc]; exact fun e => h e.symm), ih]; rfl
theorem gat_first {c : UInt8} : ∀ {l : Bs}, c ∈ l → ∃ a b, l = a ++ c :: b ∧ c ∉ a
  | [], h => by cases h
  | x :: l, h => by
    by_cases e : x = c
    · subst e; exact ⟨[], l, rfl, by simp⟩
    · obtain ⟨a, b, h1, h2⟩ := gat_first (l := l) ((List.mem_cons.1 h).resolve_left fun e' => e e'.symm)
      exact ⟨x :: a, b, by rw [h1]; rfl, by simp [h2]; exact fun e' => e e'.symm⟩
theorem gsplit_sp (c : UInt8) : ∀ (k : Nat) (l : Bs), l.count c ≤ k → splitK [c] 0 k l = gsp c l
  | k, l, hk => by
    by_cases hc : c ∈ l
    · obtain ⟨a, b, rfl, ha⟩ := gat_first hc
      have hi : indexByte (a ++ c :: b) c = (a.length : Nat) := by
        have h := gindex_byte c (a ++ c :: b)
        rw [if_pos (by simp)] at h
        have hall : ∀ x ∈ a, (x != c) = true := fun x hx => by rw [bne_iff_ne]; rintro rfl; exact ha hx
        rw [List.takeWhile_append_of_pos hall, List.takeWhile_cons, if_neg (by simp), List.append_nil] at h
        exact h
      rw [List.count_append, List.count_cons_self, List.count_eq_zero_of_not_mem ha] at hk
      obtain ⟨k, rfl⟩ : ∃ k', k = k' + 1 := ⟨k - 1, by omega⟩
      unfold splitK
      rw [index_one, hi, if_neg (by simp), Int.toNat_natCast, gsp_cons ha, List.take_left' (by omega)]
      have hd : (a ++ c :: b).drop (a.length + [c].length) = b := by
        rw [← List.drop_drop, List.drop_left, List.length_singleton, List.drop_succ_cons, List.drop_zero]
      rw [hd, gsplit_sp c k b (by omega)]
    · rw [gsp_one hc]
      have h := gindex_byte c l
      rw [if_neg hc] at h
      cases k with
      | zero => rfl
      | succ k => unfold splitK; rw [index_one, h, if_pos (by decide)]
termination_by k _ _ => k
theorem gsplit_bytes (c : UInt8) (s : ByteArray) : (splitB ⟨#[c]⟩ 0 (countB s ⟨#[c]⟩) s).map (·.data.toList) = gsp c (bytes s) := by
  rw [splitB_data]
  show splitK [c] 0 (count (bytes s) [c]) (bytes s) = _
  rw [count_one]
  exact gsplit_sp c _ _ (Nat.le_refl _)

theorem good_split {l : Bs} (h : goodB l = true) : ((46 : UInt8) ∉ l ∧ gsp 46 l = [l]) ∨ ∃ a b, l = a ++ 46 :: b ∧ (46 : UInt8) ∉ a ∧ partB a = true ∧ partB b = true ∧ gsp 46 l = [a, b] := by
  rcases good_cases h with hd | ⟨a, b, rfl, ha, hb⟩
  · exact .inl ⟨hd, gsp_one hd⟩
  · exact .inr ⟨a, b, rfl, partB_nodot ha, ha, hb, by rw [gsp_cons (partB_nodot ha), gsp_one (partB_nodot hb)]⟩
theorem split_list {s : ByteArray} {L : List Bs} (h : gsp 46 (bytes s) = L) : Lib.splitB ⟨#[46]⟩ 0 (Lib.countB s ⟨#[46]⟩) s = L.map (fun l => (⟨l.toArray⟩ : ByteArray)) := by
  rw [← h, ← gsplit_bytes, List.map_map]
  symm
  have : ∀ X : List ByteArray, X.map ((fun l : Bs => (⟨l.toArray⟩ : ByteArray)) ∘ fun x => x.data.toList) = X := by
    intro X
    induction X with
    | nil => rfl
    | cons x X ih => rw [List.map_cons, ih]; rfl
  exact this _
theorem count_list {s : ByteArray} : Lib.countB s ⟨#[46]⟩ = (bytes s).count 46 := by
  show Lib.count (bytes s) [46] = _
  rw [count_one]
theorem full_one {l : Bs} (h : (46 : UInt8) ∉ l) : fullB l = identB l := by unfold fullB; rw [if_neg h]
theorem full_two {a : Bs} (h : (46 : UInt8) ∉ a) (b : Bs) : fullB (a ++ 46 :: b) = identB a ++ 46 :: identB b := by unfold fullB; rw [if_pos (by simp), cut_at h]
end Go.Proofs.YtpijolcklmdjbaaGreatDoor

namespace Go.Proofs.YtpijolcklmdjbaaGreatDoor
open Go.RowKit Go.Lib Go.WideShapes

/-- What the cells hold when k parts are done. -/
def doneL (L : List Bs) (k : Nat) : List Bs := (L.take k).map identB ++ L.drop k
theorem doneL_all (L : List Bs) : doneL L L.length = L.map identB := by unfold doneL; simp
theorem doneL_at {L : List Bs} {k : Nat} (h : k < L.length) : (doneL L k)[k]? = some L[k] := by
  unfold doneL
  have hl : ((L.take k).map identB).length = k := by rw [List.length_map, List.length_take]; omega
  rw [List.getElem?_append_right (by omega), hl, Nat.sub_self, List.getElem?_drop, Nat.add_zero, List.getElem?_eq_getElem h]
theorem doneL_next {L : List Bs} {k : Nat} (h : k < L.length) (j : Nat) : (doneL L (k + 1))[j]? = if j = k then some (identB L[k]) else (doneL L k)[j]? := by
  have e : doneL L (k + 1) = (doneL L k).set k (identB L[k]) := by
    unfold doneL
    have hl : ((L.take k).map identB).length = k := by rw [List.length_map, List.length_take]; omega
    rw [List.set_append_right _ _ (by omega), hl, Nat.sub_self, List.take_succ_eq_append_getElem h, List.map_append, List.drop_eq_getElem_cons h, List.set_cons_zero, List.append_assoc]; rfl
  rw [e, List.getElem?_set]
  have hl : k < (doneL L k).length := by unfold doneL; rw [List.length_append, List.length_map, List.length_take, List.length_drop]; omega
  by_cases hj : j = k
  · subst hj; rw [if_pos rfl, if_pos rfl, if_pos hl]
  · rw [if_neg (fun e => hj e.symm), if_neg hj]
/-- A row of texts that this call made. -/
structure PartsAt (w : World) (b : Nat) (X : List Bs) : Prop where
  lt : b < w.heap.size
  cell : ∀ (j : Nat) x, X[j]? = some x → w.cell? ⟨b, j, none⟩ = some (.string ⟨x.toArray⟩)
  free : ∀ (j : Nat) x, X[j]? = some x → w.frozen? ⟨b, j, none⟩ = false
theorem PartsAt.new (w : World) (X : List Bs) (t : TypeId) : PartsAt (w.alloc (.cells ((X.map fun l => (⟨l.toArray⟩ : ByteArray)).map Value.string).toArray t)) w.heap.size X := by
  refine ⟨by rw [World.size_alloc]; omega, fun j x hx => ?_, fun j x hx => ?_⟩
  · rw [World.cell?_alloc_new]
    simp [hx]
  · simp [go_sem]
theorem PartsAt.step {w w' : World} {b : Nat} {X : List Bs} (h : PartsAt w b X) (hb : Below w.heap.size w w') : PartsAt w' b X :=
  ⟨Nat.lt_of_lt_of_le h.lt hb.size, fun j x hx => (hb.cell (p := ⟨b, j, none⟩) h.lt).trans (h.cell j x hx), fun j x hx => (hb.frozen (p := ⟨b, j, none⟩) h.lt).trans (h.free j x hx)⟩
theorem PartsAt.set {w : World} {b k : Nat} {L : List Bs} (h : PartsAt w b (doneL L k)) (hk : k < L.length) : PartsAt (w.setCell ⟨b, k, none⟩ (.string ⟨(identB L[k]).toArray⟩)) b (doneL L (k + 1)) := by
  have hc := h.cell k _ (doneL_at hk)
  refine ⟨by rw [World.size_setCell]; exact h.lt, fun j x hx => ?_, fun j x hx => ?_⟩
  · rw [doneL_next hk] at hx
    by_cases hj : j = k
    · subst hj
      rw [if_pos rfl] at hx
      cases hx
      exact World.cell?_setCell_same _ _ _ hc
    · rw [if_neg hj] at hx
      rw [World.cell?_setCell_other _ _ _ _ (show (⟨b, k, none⟩ : Addr) ≠ ⟨b, j, none⟩ from fun e => hj (congrArg Addr.off e).symm)]
      exact h.cell j x hx
  · rw [World.frozen?_setCell]
    rw [doneL_next hk] at hx
    by_cases hj : j = k
    · subst hj; exact h.free j _ (doneL_at hk)
    · rw [if_neg hj] at hx; exact h.free j x hx

theorem full_facts {l : Bs} (hg : goodB l = true) : ∃ L, gsp 46 l = L ∧ l.count 46 + 1 = L.length ∧ L.length ≤ 2 ∧ fullB l = Lib.join (L.map identB) [46] ∧ ∀ x ∈ L, x.length ≤ l.length := by
  rcases good_split hg with ⟨hd, hs⟩ | ⟨a, b, rfl, hd, ha, hb, hs⟩
  · refine ⟨_, hs, by rw [List.count_eq_zero_of_not_mem hd]; rfl, by simp, ?_, fun x hx => ?_⟩
    · rw [full_one hd, List.map_cons, List.map_nil, Lib.join_one]
    · rw [List.mem_singleton.1 hx]; exact Nat.le_refl _
  · refine ⟨_, hs, ?_, by simp, ?_, fun x hx => ?_⟩
    · rw [List.count_append, List.count_cons_self, List.count_eq_zero_of_not_mem hd, List.count_eq_zero_of_not_mem (partB_nodot hb)]; rfl
    · rw [full_two hd]; simp [Lib.join, List.intercalate]
    · simp only [List.mem_cons, List.not_mem_nil, or_false] at hx
      rcases hx with rfl | rfl <;> (rw [List.length_append, List.length_cons]; omega)

set_option maxRecDepth 100000 in
set_option maxHeartbeats 4000000 in
theorem full_any (s : ByteArray) (m : Int) (w : World) (hg : goodB (bytes s) = true) (hm : w.cell? ⟨2, 0, none⟩ = some (.int .i64 m)) (hT : TakenAt w) :
    Calls Tryz.prog 18 #[.string s] w fun e w' => e = .returned (.string ⟨(fullB (bytes s)).toArray⟩) ∧ Below w.heap.size w w' := by
  have hgl := good_len hg
  rw [bytes_len] at hgl
  have hfl := full_length (bytes s)
  rw [bytes_len] at hfl
  obtain ⟨L, hL, hn, h2, hF, hx⟩ := full_facts hg
  rw [← count_list (s := s)] at hn
  have HS := Lib.hid (Tryz.strings_Split s ⟨#[46]⟩ m w (by omega) hm (by decide))
  rw [split_list hL, hn] at HS
  rw [hF] at hfl ⊢
  have HJ := Lib.hid (fun (W : World) (hb : PartsAt W w.heap.size (L.map identB)) => Tryz.strings_Join w.heap.size 0 L.length ((L.map identB).map fun l => (⟨l.toArray⟩ : ByteArray)) ⟨#[46]⟩ W (fun j x hx => by
    rw [List.getElem?_map] at hx
    cases hy : (L.map identB)[j]? with
    | none => rw [hy] at hx; cases hx
    | some y => rw [hy] at hx; cases hx; rw [Nat.zero_add]; exact hb.cell j y hy) hb.lt (by simp; omega) (by simp) (by
    rw [List.map_map, show ((fun x : ByteArray => x.data.toList) ∘ fun l : Bs => (⟨l.toArray⟩ : ByteArray)) = id from rfl, List.map_id]
    show (Lib.join (L.map identB) [46]).length ≤ _
    omega))
  rw [List.length_map, List.length_map, List.map_map, show ((fun x : ByteArray => x.data.toList) ∘ fun l : Bs => (⟨l.toArray⟩ : ByteArray)) = id from rfl, List.map_id] at HJ
  have HX := Lib.hid (fun (k : Nat) (h : k < L.length) => show (L[k]).length ≤ 63 from Nat.le_trans (hx _ (List.getElem_mem h)) (by rw [bytes_len]; exact hgl))
  have HI := Lib.hid (fun (S : ByteArray) (W : World) h1 h2 h3 => ident_any S m W h1 h2 h3)
  have HM := Lib.hid hm
  have HW0 := Lib.hid (World.block_lt_of_cell? w ⟨2, 0, none⟩ hm)
  have HT := Lib.hid hT
  obtain ⟨n, hnL⟩ : ∃ n, n = L.length := ⟨_, rfl⟩
  rw [← hnL] at HS HJ
  have HNL := Lib.hid hnL
  have hn2 : (n : Int) ≤ 2 := by omega
  clear hm hT hg hgl hfl hL hn h2 hF hx hnL
  go_enter Tryz.func18, Tryz.ntmps18
  go_wp2_with fail
  refine HS.out.mono ?_; rintro e w1 ⟨rfl, hw1⟩
  have hP1 : PartsAt w1 w.heap.size L := by rw [hw1]; exact PartsAt.new w L _
  have hB1 : Below w.heap.size w w1 := by rw [hw1]; exact (Below.refl _ _).alloc (Nat.le_refl _) _
  clear hw1
  have HP1 := Lib.hid hP1; have HB1 := Lib.hid hB1
  clear hP1 hB1
  go_wp2_with fail
  go_loopg [10] n (fun g v wr => ∃ k : Nat, v = .int .i64 k ∧ k ≤ n ∧ g = n - k ∧ PartsAt wr w.heap.size (doneL L k) ∧ Below w.heap.size w wr)
  case atStart => exact ⟨0, rfl, Nat.zero_le _, rfl, HP1.out, HB1.out⟩
  case round =>
    obtain ⟨k, rfl, hk, hg, hP, hb⟩ := hrel
    have HP := Lib.hid hP; have HBB := Lib.hid hb; have HG := Lib.hid hg
    clear hP hb hg
    have hkn : (k : Int) ≤ n := by omega
    by_cases hlt : k < n
    · have hlt' : (k : Int) < n := by omega
      have HK := Lib.hid (show k < L.length by rw [← HNL.out]; exact hlt)
      have hc := HP.out.cell k _ (doneL_at HK.out)
      have hf := HP.out.free k _ (doneL_at HK.out)
      have HLK := Lib.hid (HX.out k HK.out)
      have HPS := Lib.hid (fun W (h : PartsAt W w.heap.size (doneL L k)) => h.set HK.out)
      have HDX := Lib.hid (doneL_at HK.out)
      generalize hx : L[k]'HK.out = x at hc hf HLK HPS HDX
      clear hx
      have HM1 := Lib.hid ((HBB.out.cell (p := ⟨2, 0, none⟩) HW0.out).trans HM.out)
      have HT1 := Lib.hid (show TakenAt wr from HT.out.step HBB.out)
      go_wp2_with fail
      refine (HI.out ⟨x.toArray⟩ wr (by rw [bsize]; have := HLK.out; omega) HM1.out HT1.out).mono ?_; rintro e w2 ⟨rfl, hb2⟩
      rw [show bytes (⟨x.toArray⟩ : ByteArray) = x by simp [bytes]]
      have HP2 := Lib.hid (HP.out.step hb2)
      have HB2 := Lib.hid (HBB.out.step hb2 HBB.out.size)
      have HP3 := Lib.hid (HPS.out w2 HP2.out)
      have hc2 := HP2.out.cell k x HDX.out
      have hf2 := HP2.out.free k x HDX.out
      clear hb2 hc hf
      go_wp2_with fail
      go_roundg (n - (k + 1))
      case measure => have := HG.out; omega
      case rel => exact ⟨k + 1, by go_num, by omega, rfl, HP3.out, HB2.out.setCell (Nat.le_refl _) _⟩
    · obtain rfl : k = n := by omega
      have HPE := Lib.hid (show PartsAt wr w.heap.size (L.map identB) by have := HP.out; rw [HNL.out, doneL_all] at this; exact this)
      go_wp2_with fail
      refine (HJ.out wr HPE.out).mono ?_; rintro e w2 ⟨rfl, hb2⟩
      have HB2 := Lib.hid (HBB.out.step hb2 HBB.out.size)
      clear hb2
      go_wp2_with fail
      go_ret
      exact ⟨rfl, HB2.out⟩
end Go.Proofs.YtpijolcklmdjbaaGreatDoor
