/- Rows of integers: what reads them; slices.Index, Clone, Delete of one. -/
import Derived.Test.YtcklfdpmggoafaaBase
namespace Go.Proofs.Ytcklfdpmggoafaa
open Go.RowKit Go.Lib Go.WideShapes

theorem Try.info3 : (Try.prog.info? 3).map (fun i => (i.zero, i.size, i.bytes)) = some (some (.int .i64 0), 1, 8) := by kernel_rfl
theorem Try.zeroV3 (w : World) : (zeroValue 3).run Try.prog w = .ok (.int .i64 0) w := by kernel_rfl

def intCells (l : List Int) : List Value := l.map (Value.int .i64)
theorem intCells_length (l : List Int) : (intCells l).length = l.length := by simp [intCells]
theorem intCells_append (a b : List Int) : intCells (a ++ b) = intCells a ++ intCells b := by simp [intCells]
theorem intCells_at (l : List Int) (j : Nat) (h : j < l.length) : (intCells l)[j]? = some (.int .i64 l[j]) := by simp [intCells, h]
theorem int_cells_one (l : List Int) : ∀ u ∈ intCells l, u.oneCell' = true := by
  intro u hu
  obtain ⟨x, _, rfl⟩ := List.mem_map.1 hu
  rfl
theorem int_take (l : List Int) (i : Nat) : (intCells l).take i = intCells (l.take i) := by simp [intCells, List.map_take]
theorem int_drop (l : List Int) (i : Nat) : (intCells l).drop i = intCells (l.drop i) := by simp [intCells, List.map_drop]

/-- v reads the integers of l. -/
def HoldsI (w : World) (v : Value) (l : List Int) : Prop :=
  ∃ a c, v = .slice a l.length c ∧ l.length ≤ c ∧ c ≤ maxLen ∧ (a = none → c = 0) ∧ (l = [] ∨ ∃ b off, a = some ⟨b, off, none⟩ ∧ b < w.heap.size ∧ ∀ i (h : i < l.length), w.cell? ⟨b, off + i, none⟩ = some (.int .i64 l[i]))

theorem HoldsI.form {w : World} {v : Value} {l : List Int} (h : HoldsI w v l) : ∃ a c, v = .slice a l.length c := by
  obtain ⟨a, c, hv, _⟩ := h
  exact ⟨a, c, hv⟩

theorem HoldsI.open {w : World} {a : Option Addr} {c : Nat} {l : List Int} (h : HoldsI w (.slice a l.length c) l) (h0 : 0 < l.length) : ∃ b off, a = some ⟨b, off, none⟩ ∧ b < w.heap.size ∧ ∀ i (h : i < l.length), w.cell? ⟨b, off + i, none⟩ = some (.int .i64 l[i]) := by
  obtain ⟨a', c', hv, _, _, _, h⟩ := h
  simp only [Value.slice.injEq] at hv
  obtain ⟨rfl, _, rfl⟩ := hv
  rcases h with rfl | h
  · simp at h0
  · exact h

theorem HoldsI.len {w : World} {v : Value} {l : List Int} (h : HoldsI w v l) : l.length ≤ 9223372036854775807 := by
  obtain ⟨a, c, hv, hc, hm, _⟩ := h
  unfold maxLen at hm; omega

theorem HoldsI.nil (w : World) : HoldsI w (.slice none 0 0) [] := ⟨none, 0, rfl, Nat.le_refl _, by decide, fun _ => rfl, .inl rfl⟩

theorem HoldsI.grown {w w' : World} {v : Value} {l : List Int} (h : HoldsI w v l) {B : Nat} (hb : Below B w w') (hB : w.heap.size ≤ B) : HoldsI w' v l := by
  obtain ⟨a, c, hv, hc, hm, hn, h⟩ := h
  refine ⟨a, c, hv, hc, hm, hn, h.imp id ?_⟩
  rintro ⟨b, off, ha, hlt, hcell⟩
  exact ⟨b, off, ha, by have := hb.size; omega, fun i hi => (hb.cell (p := ⟨b, _, none⟩) (by show b < B; omega)).trans (hcell i hi)⟩

theorem own_holdsI {w : World} {base : Nat} {e : TypeId} {v : Value} {l : List Int} (h : w.ownsRow base e 1 v l.length (intCells l)) : HoldsI w v l := by
  rcases h.2 with ⟨rfl, h0⟩ | ⟨b, cap, cur, rfl, hb, hg, hn, hc, hcs, ht⟩
  · rw [List.eq_nil_of_length_eq_zero h0]; exact HoldsI.nil w
  · refine ⟨_, cap, rfl, hn, hc, by simp, .inr ⟨b, 0, rfl, (Array.getElem?_eq_some_iff.1 hg).1, fun i hi => ?_⟩⟩
    rw [Nat.zero_add]
    exact (h.cellAt i (by omega)).trans (intCells_at l i hi)

theorem HoldsI.cellsAdd {w : World} {ad : Addr} {c : Nat} {l : List Int} (h : HoldsI w (.slice (some ad) l.length c) l) : ∀ j u, (intCells l)[j]? = some u → w.cell? (ad.add j) = some u := by
  intro j u hu
  have hj : j < l.length := by rw [← intCells_length]; exact (List.getElem?_eq_some_iff.1 hu).1
  obtain ⟨b, off, ha, _, hc⟩ := h.open (by omega)
  simp only [Option.some.injEq] at ha
  subst ha
  rw [add_plain, hc j hj, ← hu, intCells_at l j hj]

/-- The first place of x, or -1. -/
def idx (x : Int) : List Int → Nat → Int
  | [], _ => -1
  | y :: l, k => if x = y then k else idx x l (k + 1)

theorem idx_drop {l : List Int} {x : Int} {k : Nat} (hk : k < l.length) : idx x (l.drop k) k = if x = l[k] then (k : Int) else idx x (l.drop (k + 1)) (k + 1) := by
  rw [List.drop_eq_getElem_cons hk, idx]

set_option maxHeartbeats 1000000 in
theorem index_any (v : Value) (l : List Int) (x : Int) (w : World) (h : HoldsI w v l) :
    Calls Try.prog 23 #[v, .int .i64 x] w fun e w' => e = .returned (.int .i64 (idx x l 0)) ∧ w = w' := by
  obtain ⟨a, c, rfl⟩ := h.form
  have hlen := h.len
  have H := Lib.hid h
  clear h
  go_enter Try.func23, Try.ntmps23
  go_wp2_with fail
  go_loop [8, 8] (fun i _ => ∃ k : Nat, k ≤ l.length ∧ i = .int .i64 k ∧ idx x (l.drop k) k = idx x l 0) (fun i _ => l.length - (intOf i).toNat)
  case atStart => exact ⟨0, Nat.zero_le _, rfl, rfl⟩
  case round =>
    obtain ⟨k, hk, rfl, hG⟩ := hrel
    have HG := Lib.hid hG
    by_cases hlt : k < l.length
    · obtain ⟨b, off, rfl, hb, hc⟩ := H.out.open (by omega)
      have c0 := hc k hlt
      have HD := Lib.hid (idx_drop (x := x) hlt)
      obtain ⟨y, hy⟩ : ∃ y, y = l[k] := ⟨_, rfl⟩
      rw [← hy] at c0 HD
      clear hc hG hy
      by_cases e : x = y
      · subst e
        go_wp2_with fail
        go_ret
        have := HD.out
        rw [HG.out] at this
        first | rw [if_pos rfl] at this | rw [if_pos trivial] at this
        exact ⟨by rw [this]; rfl, rfl⟩
      · have he : (x == y) = false := by simpa using e
        go_wp2_with fail
        go_round
        case rel =>
          have := HD.out
          rw [if_neg e, HG.out] at this
          exact ⟨k + 1, by omega, by go_num, this.symm⟩
        case measure => simp [intOf]; omega
    · obtain rfl : k = l.length := by omega
      clear hG
      go_wp2_with fail
      go_ret
      have := HG.out
      rw [List.drop_length, idx] at this
      exact ⟨by rw [← this]; rfl, rfl⟩

set_option maxHeartbeats 2000000 in
theorem clone_any (v : Value) (l : List Int) (w : World) (h : HoldsI w v l) (hsz : l.length ≤ 7000) :
    Calls Try.prog 25 #[v] w fun e w' => ∃ u, e = .returned u ∧ w'.ownsRow w.heap.size 3 1 u l.length (intCells l) ∧ Below w.heap.size w w' := by
  obtain ⟨i0, hi, y0, y1, y2⟩ := info_parts Try.info3
  have q22 : ∀ (w : World) (a : Option Addr) (n c n' c' : Nat), (binOp .eql 37 (.slice a n c) (.slice none n' c')).run Try.prog w = .ok (.bool a.isNone) w := fun w a n c n' c' => Lib.run_eql_slice_nil w _ _ a n c n' c' Try.underlying37
  obtain ⟨a, c, rfl⟩ := h.form
  have H := Lib.hid h
  cases a with
  | none =>
    have hg : l = [] := by
      cases l with
      | nil => rfl
      | cons p g => obtain ⟨b, off, h0, _⟩ := h.open (by simp); cases h0
    subst hg
    clear h
    go_enter Try.func25, Try.ntmps25
    go_wp2
    go_ret
    exact ⟨_, rfl, World.ownsRow_nil _ _ _ _, Below.refl _ _⟩
  | some ad =>
    clear h
    go_enter Try.func25, Try.ntmps25
    go_wp2_with (at_builtin; refine wpList_append_own_wide _ rfl _ _ 37 rfl w.heap.size 3 i0 (.int .i64 0) 1 8 Try.underlying37 hi y0 y1 y2 rfl (by decide) _ _ _ rfl (World.ownsRow_made w #[] 0 (Nat.le_refl _) (Nat.zero_le _) (by simp)) ad l.length c (intCells l) rfl ?c1 ?c2 ?c3 ?c4 ?c5 ?c6 ?_)
    case c1 => rw [intCells_length, Nat.mul_one]
    case c2 => intro j u hj; exact Lib.cell?_alloc_some _ (H.out.cellsAdd j u hj)
    case c3 => exact int_cells_one l
    case c4 => unfold maxLen; omega
    case c5 => omega
    case c6 => simp
    intro v' w1 hown hgrow _
    go_wp2
    go_ret
    exact ⟨v', rfl, by simpa using hown, below_grown ((Below.refl _ w).alloc (Nat.le_refl _) _) (by simp) hgrow (by intro k hk; simp [Value.ownBlock] at hk; omega)⟩

set_option maxHeartbeats 4000000 in
theorem delete_any (gb cap : Nat) (l : List Int) (i base : Nat) (w : World) (h : w.ownsRow base 3 1 (.slice (some ⟨gb, 0, none⟩) l.length cap) l.length (intCells l)) (hi : i < l.length) :
    Calls Try.prog 24 #[.slice (some ⟨gb, 0, none⟩) l.length cap, .int .i64 i, .int .i64 ((i : Int) + 1)] w fun e w' => ∃ u, e = .returned u ∧ u.ownBlock = some gb ∧ w'.ownsRow base 3 1 u (l.take i ++ l.drop (i + 1)).length (intCells (l.take i ++ l.drop (i + 1))) ∧ w.grownBy w' (some gb) := by
  obtain ⟨i0, hi0, y0, y1, y2⟩ := info_parts Try.info3
  obtain ⟨hnc, hcm, _, hgw, hsh, hfz, hsp⟩ := own_room h
  rw [Nat.mul_one] at hsp
  have hcm' : cap ≤ 9223372036854775807 := by unfold maxLen at hcm; omega
  obtain ⟨n, hn⟩ : ∃ n, n = l.length := ⟨_, rfl⟩
  obtain ⟨news, hnews⟩ : ∃ news, news = intCells (l.drop (i + 1)) := ⟨_, rfl⟩
  have hlen : news.length = (n - (i + 1)) * 1 := by rw [hnews, intCells_length, List.length_drop, hn, Nat.mul_one]
  have hH : HoldsI w (.slice (some ⟨gb, 0, none⟩) l.length cap) l := own_holdsI h
  obtain ⟨A, hA, hsrc⟩ : ∃ A : Addr, (if cap = i + 1 then some (⟨gb, 0, none⟩ : Addr) else some ⟨gb, i + 1, none⟩) = some A ∧ Hid (∀ t u, news[t]? = some u → w.drew.cell? (A.add t) = some u) := by
    by_cases hc : cap = i + 1
    · refine ⟨⟨gb, 0, none⟩, by simp [hc], fun t u hu => ?_⟩
      have h0 : news.length = 0 := by rw [hlen]; omega
      rw [List.length_eq_zero_iff.1 h0] at hu
      simp at hu
    · refine ⟨⟨gb, i + 1, none⟩, by simp [hc], fun t u hu => ?_⟩
      rw [add_plain]
      have h2 : (intCells l)[i + 1 + t]? = some u := by
        rw [hnews, ← int_drop, List.getElem?_drop] at hu
        exact hu
      have := hH.cellsAdd _ _ h2
      rw [add_plain, Nat.zero_add] at this
      exact this
  have s1 : Hid (∀ u ∈ news, u.oneCell' = true) := by rw [hnews]; exact int_cells_one _
  have s3 : Hid (∀ t, t < news.length → (w.drew.cell? ⟨gb, 0 + i * 1 + t, none⟩).isSome = true ∧ w.drew.frozen? ⟨gb, 0 + i * 1 + t, none⟩ = false) := by
    intro t ht
    rw [hlen] at ht
    exact ⟨hsp _ (by omega), hfz _⟩
  obtain ⟨W1, hW1⟩ : ∃ W1, W1 = w.drew.setCells gb (0 + i * 1) news := ⟨_, rfl⟩
  have hd : w.drew.ownsRow base 3 1 (.slice (some ⟨gb, 0, none⟩) l.length cap) l.length (intCells l) := h.drew
  obtain ⟨hO1, hG1⟩ := own_stored hd news (0 + i * 1)
  rw [← hW1] at hO1 hG1
  have hset : setL (intCells l) (0 + i * 1) news = intCells (l.take i ++ l.drop (i + 1)) ++ (intCells l).drop (i + (n - (i + 1))) := by
    rw [setL_eq _ _ _ (by rw [hlen, intCells_length, ← hn]; omega), Nat.zero_add, hlen, Nat.mul_one, Nat.mul_one, intCells_append, ← hnews, List.append_assoc, int_take]
  have hl1 : (l.take i ++ l.drop (i + 1)).length = n - 1 := by rw [List.length_append, List.length_take, List.length_drop]; omega
  have hcut := own_cut hO1 (m := n - 1) (by omega)
  rw [hset, List.take_left' (by rw [intCells_length, hl1, Nat.mul_one])] at hcut
  obtain ⟨_, _, _, hgw1, _, hfz1, hsp1⟩ := own_room hcut
  rw [Nat.mul_one] at hsp1
  obtain ⟨hO2, hG2⟩ := own_stored hcut [.int .i64 0] (n - 1)
  rw [setL_out _ _ _ (by rw [intCells_length, hl1]; omega)] at hO2
  have hfin : (W1.setCells gb (n - 1) [.int .i64 0]).ownsRow base 3 1 (.slice (some ⟨gb, 0, none⟩) (n - 1) cap) (l.take i ++ l.drop (i + 1)).length (intCells (l.take i ++ l.drop (i + 1))) := by rw [hl1]; exact hO2
  have hgr : w.grownBy (W1.setCells gb (n - 1) [.int .i64 0]) (some gb) :=
    ⟨hG2.os.trans hG1.os, hG2.tape.trans hG1.tape, hG2.output.trans hG1.output, Nat.le_trans hG1.size hG2.size, fun k hk hne => (hG2.block k (Nat.lt_of_lt_of_le hk hG1.size) hne).trans (hG1.block k hk hne)⟩
  have hcl : ∀ ty, (Builtin.clear_ #[37] ty #[.slice (some ⟨gb, i + (n - (i + 1)), none⟩) (n - (i + (n - (i + 1)))) (cap - (i + (n - (i + 1))))]).run Try.prog W1 = .ok (.tuple #[]) (W1.setCells gb (i + (n - (i + 1))) [.int .i64 0]) := fun ty => by
    rw [show i + (n - (i + 1)) = n - 1 by omega, show n - (n - 1) = 1 by omega]
    exact run_clear_cells W1 _ _ ty _ Try.underlying37 Try.zeroV3 gb (n - 1) 1 _ (by decide) _ (by kernel_rfl) (by intro v hv; simp at hv; subst hv; rfl) (fun j hj => hsp1 _ (by simp at hj; omega)) (fun j _ => hfz1 _)
  rw [show n - 1 = i + (n - (i + 1)) by omega] at hfin hgr
  rw [← hn]
  have HF := Lib.hid hfin; have HGR := Lib.hid hgr; have HW := Lib.hid hW1; have HLEN := Lib.hid hlen; have HN := Lib.hid hn
  have hin : i < n := by omega
  have hnc' : n ≤ cap := by omega
  clear hfin hgr hW1 hnews hlen hH hsh hfz hsp hd hO1 hG1 hset hl1 hcut hgw1 hfz1 hsp1 hO2 hG2 h hn hi hnc hcm hgw
  have q1 : (0 : Int) ≤ (i : Int) + 1 := by omega
  have q2 : ((i : Int) + 1).toNat = i + 1 := by omega
  have q3 : (i : Int) + 1 ≤ n := by omega
  go_enter Try.func24, Try.ntmps24
  go_wp2_with fail
  have hic : i ≤ cap := by omega
  have hjc : i + 1 ≤ cap := by omega
  go_region_law (refine step_append_room rfl (.tmp 22) (.tmp 25) 37 rfl 3 i0 1 Try.underlying37 hi0 y1 gb 0 i cap (by simp [Act.eval, Act.put]) A (n - (i + 1)) (cap - (i + 1)) news (by simp [Act.eval, Act.put]) HLEN.out hsrc.out s1.out (by omega) s3.out ?_; rw [← HW.out])
  all_goals
    go_wp2_with fail
    go_ret
    exact ⟨_, rfl, rfl, HF.out, HGR.out⟩
end Go.Proofs.Ytcklfdpmggoafaa
