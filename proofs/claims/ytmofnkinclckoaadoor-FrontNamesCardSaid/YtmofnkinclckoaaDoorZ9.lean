/- Contracts and mathematics: KBegin, ReadOwn, Pack, Reader, Next, Boxes, KEvent. -/
import Derived.Test.YtmofnkinclckoaaDoorZ8
import Derived.Deep.RegionHeld3
import Derived.Test.YtmofnkinclckoaaDoorZ4
import Derived.Deep.DeepAppendWide
import Derived.Test.YtmofnkinclckoaaDoorRows
import Derived.Deep.RegionWith
import Derived.Deep.DeepCutAuto
namespace Go.Proofs.YtmofnkinclckoaaDoor
open Go.RowKit Go.Lib Go.WideShapes

theorem behind_drop {T : List Bs} {x : Bs} : ∀ (j : Nat), (∀ i, i < j → T[2 * i]? ≠ some x) → 2 * j ≤ T.length → behindB T x = behindB (T.drop (2 * j)) x := by
  intro j
  induction j generalizing T with
  | zero => intro _ _; rfl
  | succ j ih =>
    intro h hl
    match T, hl with
    | a :: b :: r, hl =>
      have h0 : a ≠ x := fun e => h 0 (by omega) (by rw [e]; rfl)
      have e1 : behindB (a :: b :: r) x = behindB r x := by
        show (if a = x then b else behindB r x) = _
        rw [if_neg h0]
      rw [e1, show 2 * (j + 1) = 2 * j + 1 + 1 by omega]
      show behindB r x = behindB ((a :: b :: r).drop (2 * j + 1 + 1)) x
      rw [List.drop_succ_cons, List.drop_succ_cons]
      refine ih (fun i hi => ?_) (by simp at hl; omega)
      have := h (i + 1) (by omega)
      rw [show 2 * (i + 1) = 2 * i + 1 + 1 by omega] at this
      simpa using this
    | [a], hl => simp at hl; omega
    | [], hl => simp at hl
theorem behind_at {T : List Bs} {x a b : Bs} {j : Nat} (h : ∀ i, i < j → T[2 * i]? ≠ some x) (ha : T[2 * j]? = some a) (hb : T[2 * j + 1]? = some b) (hx : a = x) : behindB T x = b := by
  have hl : 2 * j < T.length := (List.getElem?_eq_some_iff.1 ha).1
  rw [behind_drop j h (by omega)]
  have h0 : (T.drop (2 * j))[0]? = some a := by rw [List.getElem?_drop]; exact ha
  have h1 : (T.drop (2 * j))[1]? = some b := by rw [List.getElem?_drop]; exact hb
  match hd : T.drop (2 * j), h0, h1 with
  | c :: d :: r, h0, h1 =>
    cases h0; cases h1
    show (if a = x then b else behindB r x) = b
    rw [if_pos hx]
theorem behind_end {T : List Bs} {x : Bs} {j : Nat} (h : ∀ i, i < j → T[2 * i]? ≠ some x) (hl : 2 * j ≤ T.length) (he : T.length ≤ 2 * j + 1) : behindB T x = [] := by
  rw [behind_drop j h hl]
  match hd : T.drop (2 * j) with
  | [] => rfl
  | [a] => rfl
  | a :: b :: r =>
    have := congrArg List.length hd
    rw [List.length_drop] at this
    simp at this
    omega

set_option maxRecDepth 100000 in
set_option maxHeartbeats 4000000 in
theorem behind_any (x : ByteArray) (g n c : Nat) (a : Option Addr) (T : List Bs) (w : World) (hT : TextsIn w (.slice a n c) T) (hg : w.cell? ⟨g, 0, none⟩ = some (.slice a n c)) (_ : n ≤ 800000) :
    Calls Tryd.prog 61 #[.string x, .pointer (some ⟨g, 0, none⟩)] w fun e w' => e = .returned (.string ⟨(behindB T (bytes x)).toArray⟩) ∧ w' = w := by
  obtain ⟨a', n', c', hva, hl, hnc, hc9, hr⟩ := hT
  injection hva with e1 e2 e3
  subst e1 e2 e3
  have HR := Lib.hid hr; have HL := Lib.hid hl
  clear hr hl
  go_enter Tryd.func61, Tryd.ntmps61
  go_wp2_with fail
  go_loopg [4] n (fun m i wr => ∃ k : Nat, i = .int .i64 ((2 * k : Nat) : Int) ∧ 2 * k ≤ n ∧ m = n - 2 * k ∧ wr = w ∧ ∀ i : Nat, i < k → T[2 * i]? ≠ some (bytes x))
  case atStart => exact ⟨0, rfl, Nat.zero_le _, rfl, rfl, fun i h => absurd h (Nat.not_lt_zero _)⟩
  case round =>
    obtain ⟨k, rfl, hk, hm, rfl, ho⟩ := hrel
    have HO := Lib.hid ho; have HGK := Lib.hid hm
    clear ho hm
    by_cases hlt : 2 * k + 1 < n
    · have hlt' : ((2 * k : Nat) : Int) + 1 < n := by omega
      rcases HR.out with h0 | ⟨q, off, rfl, hq, hc⟩
      · have := HL.out; rw [h0] at this; simp at this; omega
      obtain ⟨s0, hs0⟩ : ∃ s0, T[2 * k]? = some s0 := ⟨_, List.getElem?_eq_getElem (by rw [HL.out]; omega)⟩
      obtain ⟨s1, hs1⟩ : ∃ s1, T[2 * k + 1]? = some s1 := ⟨_, List.getElem?_eq_getElem (by rw [HL.out]; omega)⟩
      have c0 := hc _ _ hs0
      have c1 := hc _ _ hs1
      have HS0 := Lib.hid hs0; have HS1 := Lib.hid hs1
      by_cases he : s0 = bytes x
      · have hbeq : (s0 == x.toList) = true := by rw [Lib.toList_data]; simpa [bytes] using he
        have HRES := Lib.hid (behind_at HO.out hs0 hs1 he)
        clear hc hs0 hs1
        go_wp2_with fail
        go_ret
        exact ⟨by rw [HRES.out]; rfl, rfl⟩
      · have hbeq : (s0 == x.toList) = false := by rw [Lib.toList_data]; simpa [bytes] using he
        have HN := Lib.hid (show ∀ i : Nat, i < k + 1 → T[2 * i]? ≠ some (bytes x) from fun i hi => by
          by_cases hik : i = k
          · subst hik
            rw [HS0.out]
            exact fun e => he (Option.some.inj e)
          · exact HO.out i (by omega))
        clear hc hs0 hs1 he
        go_wp2_with fail
        go_roundg (n - 2 * (k + 1))
        case measure => have := HGK.out; omega
        case rel => exact ⟨k + 1, by go_num, by omega, rfl, rfl, HN.out⟩
    · have HRES := Lib.hid (behind_end HO.out (by rw [HL.out]; exact hk) (by rw [HL.out]; omega))
      have hge : ¬ ((2 * k : Nat) : Int) + 1 < n := by omega
      go_wp2_with fail
      go_ret
      exact ⟨by rw [HRES.out]; rfl, rfl⟩

/-- An event's value. -/
abbrev evV (e : Ev) (sl : Value) : Value := .agg #[.int .u8 (e.k.toNat : Nat), .string ⟨e.u.toArray⟩, .string ⟨e.d.toArray⟩, .string ⟨e.t.toArray⟩, sl]
theorem str_empty {b : ByteArray} {l : Bs} (h : b = ⟨l.toArray⟩) (h0 : l = []) : b = { data := #[] } := by rw [h, h0]
theorem str_full {b : ByteArray} {l : Bs} (h : b = ⟨l.toArray⟩) (h0 : ¬ l = []) : b.toList.isEmpty = false := by
  rw [Lib.toList_data, h]
  cases l with
  | nil => exact absurd rfl h0
  | cons _ _ => rfl
set_option maxRecDepth 100000 in
set_option maxHeartbeats 4000000 in
theorem start_any (n c : Nat) (a : Option Addr) (T : List Bs) (w : World) (hT : TextsIn w (.slice a n c) T) (hn : n ≤ 800000) :
    Calls Tryd.prog 38 #[.slice a n c] w fun e w' => e = .returned (evV (startE T) (.slice none 0 0)) ∧ Below w.heap.size w w' := by
  obtain ⟨W0, hW0⟩ : ∃ x, x = (w.alloc (.cells #[.slice a n c] 27)).alloc (.cells #[.int .u8 0, .string { data := #[] }, .string { data := #[] }, .string { data := #[] }, .slice none 0 0] 36) := ⟨_, rfl⟩
  have hb0 : Below w.heap.size w W0 := by rw [hW0]; exact ((Below.refl _ _).alloc (Nat.le_refl _) _).alloc (by simp) _
  have hk : W0.cell? ⟨w.heap.size, 0, none⟩ = some (.slice a n c) := by rw [hW0]; simp [go_sem]
  obtain ⟨ub, hub⟩ : ∃ x : ByteArray, x = ⟨(behindB T k_user).toArray⟩ := ⟨_, rfl⟩
  obtain ⟨db, hdb⟩ : ∃ x : ByteArray, x = ⟨(behindB T k_database).toArray⟩ := ⟨_, rfl⟩
  have HU := Lib.hid (show Calls Tryd.prog 61 #[.string { data := #[117, 115, 101, 114] }, .pointer (some ⟨w.heap.size, 0, none⟩)] W0 fun e w' => e = .returned (.string ub) ∧ w' = W0 from by rw [hub]; exact behind_any _ w.heap.size n c a T W0 (hT.mono hb0) hk hn)
  have HD := Lib.hid (show Calls Tryd.prog 61 #[.string { data := #[100, 97, 116, 97, 98, 97, 115, 101] }, .pointer (some ⟨w.heap.size, 0, none⟩)] W0 fun e w' => e = .returned (.string db) ∧ w' = W0 from by rw [hdb]; exact behind_any _ w.heap.size n c a T W0 (hT.mono hb0) hk hn)
  have HE := Lib.hid hW0
  have HUB := Lib.hid hub; have HDB := Lib.hid hdb
  obtain ⟨ev, hev⟩ : ∃ v, v = evV (startE T) (.slice none 0 0) := ⟨_, rfl⟩
  rw [← hev]
  have HV := Lib.hid hev
  clear hb0 hk hW0 hT hub hdb hev
  go_enter Tryd.func38, Tryd.ntmps38
  go_wp2_with fail
  rw [← HE.out]
  refine HU.out.mono ?_; rintro e w1 ⟨rfl, hw1⟩
  subst hw1
  go_wp2_with fail
  refine HD.out.mono ?_; rintro e w1 ⟨rfl, hw1⟩
  subst hw1
  rw [HE.out]
  have hbw : ∀ x0 x1 x2 x3 x4, Below w.heap.size w ((w.alloc (.cells #[.slice a n c] 27)).alloc (.cells #[x0, x1, x2, x3, x4] 36)) := fun x0 x1 x2 x3 x4 => ((Below.refl _ _).alloc (Nat.le_refl _) _).alloc (by simp) _
  have HBW := Lib.hid hbw
  clear hbw HE
  by_cases hu : behindB T k_user = []
  · have hue := str_empty HUB.out hu
    have HS := Lib.hid (show startE T = wrongEv c_bytes from if_pos hu)
    clear HUB HU HD hu
    subst hue
    go_wp2_with fail
    simp [bodyPost, results, Tryd.results38, go_sem]
    refine ⟨?_, HBW.out _ _ _ _ _⟩
    rw [HV.out, HS.out]; rfl
  · have hue := str_full HUB.out hu
    by_cases hd : behindB T k_database = []
    · have hde := str_empty HDB.out hd
      have HS := Lib.hid (show startE T = ⟨115, behindB T k_user, behindB T k_user, [], []⟩ from by unfold startE; rw [if_neg hu, if_pos hd])
      clear HU HD hu hd
      subst hde
      go_wp2_with fail
      simp [bodyPost, results, Tryd.results38, go_sem]
      refine ⟨?_, HBW.out _ _ _ _ _⟩
      rw [HV.out, HS.out, HUB.out]; rfl
    · have hde := str_full HDB.out hd
      have HS := Lib.hid (show startE T = ⟨115, behindB T k_user, behindB T k_database, [], []⟩ from by unfold startE; rw [if_neg hu, if_neg hd])
      clear HU HD hu hd
      go_wp2_with fail
      simp [bodyPost, results, Tryd.results38, go_sem]
      refine ⟨?_, HBW.out _ _ _ _ _⟩
      rw [HV.out, HS.out, HUB.out, HDB.out]; rfl
end Go.Proofs.YtmofnkinclckoaaDoor

namespace Go.Proofs.YtmofnkinclckoaaDoor
open Go.Lib Go.RowKit

/-- v reads s, and owns the row that it lies in, to the row's end; the row is not block p. -/
def OwnB (w : World) (e : TypeId) (p : Nat) (v : Value) (s : ByteArray) : Prop :=
  (v = .slice none 0 0 ∧ s.size = 0) ∨ ∃ g o cap cur, v = .slice (some ⟨g, o, none⟩) s.size cap ∧ g ≠ p ∧ w.heap[g]? = some (.cells cur e (0, 0)) ∧ s.size ≤ cap ∧ cap ≤ maxLen ∧ cur.size = o + cap ∧ (cur.toList.drop o).take s.size = cellsOf s.data.toList

theorem OwnB.kept {w w' : World} {e : TypeId} {p : Nat} {v : Value} {s : ByteArray} (h : OwnB w e p v s) (hw : ∀ k, v.ownBlock = some k → w'.heap[k]? = w.heap[k]?) : OwnB w' e p v s := by
  rcases h with h | ⟨g, o, cap, cur, rfl, h1, h2, h3⟩
  · exact .inl h
  · exact .inr ⟨g, o, cap, cur, rfl, h1, (hw g rfl).trans h2, h3⟩

theorem empty_of_size {s : ByteArray} (h : s.size = 0) : s = { data := #[] } := by
  apply bytes_ext
  have := size_list s
  rw [h] at this
  simpa using List.eq_nil_of_length_eq_zero this

section
variable {P : Program} (w : World)

theorem run_append_room_at (t u ty e : TypeId) (i : TypeInfo) (ht : P.underlying t = some (.slice e)) (hu : P.underlying u = some .string) (hi : P.info? e = some i) (hs1 : i.size = 1)
    (g o sLen sCap : Nat) (cur : Array Value) (hg : w.heap[g]? = some (.cells cur e (0, 0))) (s : ByteArray)
    (hroom : sLen + s.size ≤ sCap) (hfit : o + sLen + s.size ≤ cur.size) :
    (Builtin.append_ #[t, u] ty #[.slice (some ⟨g, o, none⟩) sLen sCap, .string s]).run P w =
      .ok (.slice (some ⟨g, o, none⟩) (sLen + s.size) sCap) (w.setRow g (cur.toList.take (o + sLen) ++ strCells s ++ cur.toList.drop (o + sLen + s.size)).toArray) := by
  have hf := run_firstCells_string (P := P) w 1 s
  have hst := run_storeCells_at P g (o + sLen) e (strCells s) 0 cur w hg (by simpa [strCells_length] using hfit) (strCells_oneCell s)
  simp only [Nat.add_zero, strCells_length] at hst
  have hadd : (⟨g, o, none⟩ : Addr).add sLen = ⟨g, o + sLen, none⟩ := by unfold Addr.add; split <;> simp_all
  simp [Builtin.append_, run_underlying ht, run_underlying hu, sizeOf, typeInfo, hi, hs1, Builtin.lenOf, hroom, hf, hadd, hst]

theorem run_feed (t u ty e : TypeId) (i : TypeInfo) (ht : P.underlying t = some (.slice e)) (hu : P.underlying u = some .string) (hi : P.info? e = some i) (hz : i.zero = some (.int .u8 0)) (hsize : i.size = 1) (hby : i.bytes = 1)
    (p : Nat) (hp : p < w.heap.size) (v : Value) (s x : ByteArray) (hv : OwnB w e p v s) (hx : x.size ≤ 140737488355328) (hb : s.size + x.size ≤ 200000000000000) :
    ∃ v' w', (Builtin.append_ #[t, u] ty #[v, .string x]).run P w = .ok v' w' ∧ OwnB w' e p v' (s ++ x) ∧ w.grownBy w' v.ownBlock ∧ (∀ k, v'.ownBlock = some k → v.ownBlock = some k ∨ w.heap.size ≤ k) := by
  have hm : s.size + x.size ≤ maxLen := by unfold maxLen; omega
  rcases hv with ⟨rfl, h0⟩ | ⟨g, o, cap, cur, rfl, hgp, hg, hc, hcm, hcs, hr⟩
  · obtain ⟨v', w', hrun, hown, hgr, _⟩ := run_append_own_string (P := P) w w.heap.size t u ty e i ht hu hi hz hsize hby (.slice none 0 0) 0 [] (World.ownsRow_nil _ _ _ _) x (by omega) (by omega) (Nat.le_refl _)
    have hsx : s ++ x = x := by rw [empty_of_size h0]; apply bytes_ext; rw [append_list]; rfl
    refine ⟨v', w', hrun, ?_, hgr, fun k hk => .inr (hown.lt k hk).1⟩
    rw [hsx]
    obtain ⟨hl, hcase⟩ := hown
    rcases hcase with ⟨rfl, hn⟩ | ⟨g, cap, cur, rfl, hb', hg, hn, hcm, hcs, htake⟩
    · exact .inl ⟨rfl, by omega⟩
    · refine .inr ⟨g, 0, cap, cur, by rw [Nat.zero_add], by omega, hg, by omega, hcm, by omega, ?_⟩
      simp only [Nat.mul_one, Nat.zero_add, List.nil_append] at htake
      rw [List.drop_zero, htake, strCells_eq']
  · have hlen : (cellsOf s.data.toList).length = s.size := by rw [cellsOf_length, size_list]
    have hsz : (s ++ x).size = s.size + x.size := append_size s x
    have hcl : cellsOf (s ++ x).data.toList = cellsOf s.data.toList ++ strCells x := by rw [append_list, cellsOf_append, strCells_eq']
    by_cases hroom : s.size + x.size ≤ cap
    · have hrun := run_append_room_at (P := P) w t u ty e i ht hu hi hsize g o s.size cap cur hg x hroom (by omega)
      refine ⟨_, _, hrun, .inr ⟨g, o, cap, _, by rw [hsz], hgp, setRow_heap w g cur _ e _ hg, by omega, hcm, ?_, ?_⟩, ⟨rfl, rfl, rfl, by simp, fun k _ hk => setRow_other w g k _ (fun e => hk (by simp [Value.ownBlock, e]))⟩, fun k hk => .inl hk⟩
      · simp only [List.size_toArray, List.length_append, List.length_take, List.length_drop, Array.length_toList, strCells_length]
        omega
      · rw [hsz, hcl]
        show ((cur.toList.take (o + s.size) ++ strCells x ++ cur.toList.drop (o + s.size + x.size)).drop o).take (s.size + x.size) = _
        have hl2 : (cur.toList.take (o + s.size)).length = o + s.size := by rw [List.length_take, Array.length_toList]; omega
        rw [List.append_assoc, List.drop_append_of_le_length (by omega), List.drop_take, show o + s.size - o = s.size by omega, hr, ← List.append_assoc]
        have e3 : (cellsOf s.data.toList ++ strCells x).length = s.size + x.size := by rw [List.length_append, hlen, strCells_length]
        rw [← e3, List.take_left]
    · have holds : ∀ j u, (cellsOf s.data.toList)[j]? = some u → w.cell? ((⟨g, o, none⟩ : Addr).add j) = some u := by
        intro j u hu
        have hadd : (⟨g, o, none⟩ : Addr).add j = ⟨g, o + j, none⟩ := by unfold Addr.add; split <;> simp_all
        rw [hadd, cell_of_row w g (o + j) cur e (0, 0) hg]
        rw [← hr, List.getElem?_take] at hu
        split at hu
        · rw [List.getElem?_drop] at hu; simpa using hu
        · cases hu
      have hrun := run_append_grow_string (P := P) w t u ty e i (.int .u8 0) ht hu hi hz ⟨g, o, none⟩ s.size cap (cellsOf s.data.toList) (by rw [hsize, hlen]; omega) holds x (by omega) (by omega) (by rw [hby]; exact Go.growslice_fits_wide (by omega) (by omega))
      refine ⟨_, _, hrun, .inr ⟨w.heap.size, 0, _, _, by rw [hsz], by omega, heap_alloc_new w.drew _, ?_, grownCap_le_maxLen w _ _ _ hm, ?_, ?_⟩, ⟨rfl, rfl, rfl, by simp, fun k hk _ => heap_alloc_old w.drew _ hk⟩, fun k hk => .inr (by simp [Value.ownBlock] at hk; omega)⟩
      · rw [hsz]; exact grownCap_ge w _ _ _
      · have hz1 : (Value.int IntKind.u8 0).cells.size = 1 := rfl
        have hge := grownCap_ge w (s.size + x.size) cap e
        simp only [Array.size_append, List.size_toArray, size_zeroCells, hz1, hlen, strCells_length]
        omega
      · rw [hsz, hcl, List.drop_zero]
        simp only [Array.toList_append, List.append_assoc]
        have e3 : (cellsOf s.data.toList ++ strCells x).length = s.size + x.size := by rw [List.length_append, hlen, strCells_length]
        rw [← List.append_assoc, ← e3, List.take_left]
end
end Go.Proofs.YtmofnkinclckoaaDoor

namespace Go.Proofs.YtmofnkinclckoaaDoor
open Go.RowKit Go.Lib

theorem infoU8M : (Tryd.prog.info? 5).map (fun i => (i.zero, i.size, i.bytes)) = some (some (.int .u8 0), 1, 1) := by kernel_rfl

theorem four_cells (w : World) (a b c d : Value) (T : TypeId) : ∀ j u, [a, b, c, d][j]? = some u → (w.alloc (.cells #[a, b, c, d] T)).cell? ((⟨w.heap.size, 0, none⟩ : Addr).add j) = some u := by
  intro j u hj
  match j, hj with
  | 0, hj => simp at hj; subst hj; simp [Addr.add, go_sem]
  | 1, hj => simp at hj; subst hj; simp [Addr.add, go_sem]
  | 2, hj => simp at hj; subst hj; simp [Addr.add, go_sem]
  | 3, hj => simp at hj; subst hj; simp [Addr.add, go_sem]
  | n + 4, hj => simp at hj

theorem one_cell (w : World) (a : Value) (T : TypeId) : ∀ j u, [a][j]? = some u → (w.alloc (.cells #[a] T)).cell? ((⟨w.heap.size, 0, none⟩ : Addr).add j) = some u := by
  intro j u hj
  match j, hj with
  | 0, hj => simp at hj; subst hj; simp [Addr.add, go_sem]
  | n + 1, hj => simp at hj

theorem ownsRow_is {w : World} {base : Nat} {e : TypeId} {v : Value} {n : Nat} {xs : List Value} (R : ByteArray) (h : w.ownsRow base e 1 v n xs) (hx : xs = strCells R) : w.ownsRow base e 1 v R.size (strCells R) := by
  subst hx
  have hn : n = R.size := by have := h.1; rw [strCells_length] at this; omega
  subst hn; exact h

theorem pack_cells (t : Int) (s : ByteArray) (hs : s.size ≤ 10000) (pre : List Value) (hp : pre = cellsOf (if t = 0 then [] else [UInt8.ofNat t.toNat])) :
    pre ++ [.int .u8 (((s.size : Int) + 4) / 16777216), .int .u8 (((s.size : Int) + 4) / 65536), .int .u8 (((s.size : Int) + 4) / 256), .int .u8 (((s.size : Int) + 4) % 256)] ++ strCells s = strCells (packB t s) := by
  rw [strCells_eq', strCells_eq', packB_list, packL, cellsOf_append, cellsOf_append, size_list, be4_cells _ (by omega), hp]
  simp

set_option maxRecDepth 100000 in
set_option maxHeartbeats 4000000 in
theorem pack_bare (s : ByteArray) (w : World) (hs : s.size ≤ 10000) :
    Calls Tryd.prog 17 #[.agg #[.int .u8 0, .string s]] w fun e w' => e = .returned (.tuple #[.string (packB 0 s), .int .i64 0]) ∧ Below w.heap.size w w' := by
  obtain ⟨i0, hi, hz0, hz1, hz2⟩ := info_parts infoU8M
  go_enter Tryd.func17, Tryd.ntmps17
  go_wp2_with (at_make; refine wpList_make_own _ rfl _ _ 57 rfl (w.heap.size + 1) 5 i0 (.int .u8 0) 1 Tryd.underlying57 hi hz0 hz1 _ _ _ (5 + s.size) rfl rfl ?bb ?b1 ?b2 ?b3 ?_)
  case bb => simp
  case b1 => rw [hz2]; omega
  case b2 => simp [maxLen]; omega
  case b3 => simp
  intro w1 hown hgrow
  have hc0 : w1.cell? ⟨w.heap.size, 0, none⟩ = some (.int .u8 0) := hgrow.cell (by simp [go_sem]) (by simp)
  have hc1 : w1.cell? ⟨w.heap.size, 1, none⟩ = some (.string s) := hgrow.cell (by simp [go_sem]) (by simp)
  have hB : Below w.heap.size w w1 := ((Below.refl _ _).alloc (Nat.le_refl _) _).grown hgrow (by simp) (by simp)
  have hz3 : w.heap.size + 1 < w1.heap.size := (hown.lt _ rfl).2
  clear hgrow
  go_wp2_with (at_builtin; refine wpList_append_own _ rfl (.tmp 28) (.tmp 40) 57 rfl (w.heap.size + 1) 5 i0 (.int .u8 0) 1 1 Tryd.underlying57 hi hz0 hz1 hz2 rfl (by decide) _ _ _ rfl (hown.alloc _) ⟨w1.heap.size, 0, none⟩ 4 4 [.int .u8 (((s.size : Int) + 4) / 16777216), .int .u8 (((s.size : Int) + 4) / 65536), .int .u8 (((s.size : Int) + 4) / 256), .int .u8 (((s.size : Int) + 4) % 256)] rfl rfl (four_cells _ _ _ _ _ _) (by simp [Value.oneCell']) (by unfold maxLen; omega) (by omega) (by simp; omega) ?_)
  intro v3 w3 hown3 hgrow3 _
  have hlt := (hown.lt)
  have hB3 : Below w.heap.size w w3 := (hB.alloc (by omega) _).grown hgrow3 (by simp; omega) (by intro k hk; have := (hlt k hk).1; omega)
  have hc13 : w3.cell? ⟨w.heap.size, 1, none⟩ = some (.string s) := hgrow3.cell ((World.cell?_alloc_past _ _ _ (by show w.heap.size < _; omega)).trans hc1) (by intro hk; have : w.heap.size + 1 ≤ w.heap.size := (hlt _ hk.symm).1; omega)
  have hz5 : w.heap.size + 1 < w3.heap.size := by have := hgrow3.size; simp at this; omega
  clear hgrow3 hlt hown hc0 hc1 hz3 hB
  go_wp2_with (at_builtin; refine wpList_append_own_string _ rfl (.tmp 42) (.tmp 44) 57 9 rfl (w.heap.size + 1) 5 i0 Tryd.underlying57 Tryd.underlying9 hi hz0 hz1 hz2 _ _ _ rfl hown3 s rfl (by unfold maxLen; omega) (by omega) (by omega) ?_)
  intro v4 w4 hown4 hgrow4 _
  have hlt := (hown3.lt)
  have hB4 : Below w.heap.size w w4 := hB3.grown hgrow4 (by omega) (by intro k hk; have := (hlt k hk).1; omega)
  have hconv := conv_str (P := Tryd.prog) (src := 57) (e := 5) (dst := 9) (packB 0 s) Tryd.underlying57 Tryd.underlying5 Tryd.underlying9 (ownsRow_is (packB 0 s) hown4 (by exact pack_cells 0 s hs [] (by simp [cellsOf])))
  clear hgrow4 hlt hown4 hown3 hB3 hz5 hc13
  go_wp2
  go_ret2
  exact ⟨rfl, hB4⟩

set_option maxRecDepth 100000 in
set_option maxHeartbeats 4000000 in
theorem pack_type (t : Int) (s : ByteArray) (w : World) (hs : s.size ≤ 10000) (h0 : 0 < t) (h1 : t < 256) :
    Calls Tryd.prog 17 #[.agg #[.int .u8 t, .string s]] w fun e w' => e = .returned (.tuple #[.string (packB t s), .int .i64 0]) ∧ Below w.heap.size w w' := by
  obtain ⟨i0, hi, hz0, hz1, hz2⟩ := info_parts infoU8M
  have htb : (t == 0) = false := by simp; omega
  have htn : (t != 0) = true := by simp; omega
  go_enter Tryd.func17, Tryd.ntmps17
  go_wp2_with (at_make; refine wpList_make_own _ rfl _ _ 57 rfl (w.heap.size + 1) 5 i0 (.int .u8 0) 1 Tryd.underlying57 hi hz0 hz1 _ _ _ (5 + s.size) rfl rfl ?bb ?b1 ?b2 ?b3 ?_)
  case bb => simp
  case b1 => rw [hz2]; omega
  case b2 => simp [maxLen]; omega
  case b3 => simp
  intro w1 hown hgrow
  have hc0 : w1.cell? ⟨w.heap.size, 0, none⟩ = some (.int .u8 t) := hgrow.cell (by simp [go_sem]) (by simp)
  have hc1 : w1.cell? ⟨w.heap.size, 1, none⟩ = some (.string s) := hgrow.cell (by simp [go_sem]) (by simp)
  have hB : Below w.heap.size w w1 := ((Below.refl _ _).alloc (Nat.le_refl _) _).grown hgrow (by simp) (by simp)
  have hz3 : w.heap.size + 1 < w1.heap.size := (hown.lt _ rfl).2
  clear hgrow
  go_wp2_with (at_builtin; refine wpList_append_own _ rfl (.tmp 23) (.tmp 26) 57 rfl (w.heap.size + 1) 5 i0 (.int .u8 0) 1 1 Tryd.underlying57 hi hz0 hz1 hz2 rfl (by decide) _ _ _ rfl (hown.alloc _) ⟨w1.heap.size, 0, none⟩ 1 1 [.int .u8 t] rfl rfl (one_cell _ _ _) (by simp [Value.oneCell']) (by unfold maxLen; omega) (by omega) (by simp; omega) ?_)
  intro v2 w2 hown2 hgrow2 _
  have hB2 : Below w.heap.size w w2 := (hB.alloc (by omega) _).grown hgrow2 (by simp; omega) (by intro k hk; simp [Value.ownBlock] at hk; omega)
  have hc02 : w2.cell? ⟨w.heap.size, 0, none⟩ = some (.int .u8 t) := hgrow2.cell ((World.cell?_alloc_past _ _ _ (by show w.heap.size < _; omega)).trans hc0) (by simp [Value.ownBlock])
  have hc12 : w2.cell? ⟨w.heap.size, 1, none⟩ = some (.string s) := hgrow2.cell ((World.cell?_alloc_past _ _ _ (by show w.heap.size < _; omega)).trans hc1) (by simp [Value.ownBlock])
  have hz4 : w.heap.size + 1 < w2.heap.size := by have := hgrow2.size; simp at this; omega
  clear hgrow2 hown hc0 hc1 hz3 hB
  go_wp2_with (at_builtin; refine wpList_append_own _ rfl (.tmp 28) (.tmp 40) 57 rfl (w.heap.size + 1) 5 i0 (.int .u8 0) 1 1 Tryd.underlying57 hi hz0 hz1 hz2 rfl (by decide) _ _ _ rfl (hown2.alloc _) ⟨w2.heap.size, 0, none⟩ 4 4 [.int .u8 (((s.size : Int) + 4) / 16777216), .int .u8 (((s.size : Int) + 4) / 65536), .int .u8 (((s.size : Int) + 4) / 256), .int .u8 (((s.size : Int) + 4) % 256)] rfl rfl (four_cells _ _ _ _ _ _) (by simp [Value.oneCell']) (by unfold maxLen; omega) (by omega) (by simp; omega) ?_)
  intro v3 w3 hown3 hgrow3 _
  have hlt := (hown2.lt)
  have hB3 : Below w.heap.size w w3 := (hB2.alloc (by omega) _).grown hgrow3 (by simp; omega) (by intro k hk; have := (hlt k hk).1; omega)
  have hc13 : w3.cell? ⟨w.heap.size, 1, none⟩ = some (.string s) := hgrow3.cell ((World.cell?_alloc_past _ _ _ (by show w.heap.size < _; omega)).trans hc12) (by intro hk; have : w.heap.size + 1 ≤ w.heap.size := (hlt _ hk.symm).1; omega)
  have hz5 : w.heap.size + 1 < w3.heap.size := by have := hgrow3.size; simp at this; omega
  clear hgrow3 hlt hown2 hc02 hc12 hz4 hB2
  go_wp2_with (at_builtin; refine wpList_append_own_string _ rfl (.tmp 42) (.tmp 44) 57 9 rfl (w.heap.size + 1) 5 i0 Tryd.underlying57 Tryd.underlying9 hi hz0 hz1 hz2 _ _ _ rfl hown3 s rfl (by unfold maxLen; omega) (by omega) (by omega) ?_)
  intro v4 w4 hown4 hgrow4 _
  have hlt := (hown3.lt)
  have hB4 : Below w.heap.size w w4 := hB3.grown hgrow4 (by omega) (by intro k hk; have := (hlt k hk).1; omega)
  have hconv := conv_str (P := Tryd.prog) (src := 57) (e := 5) (dst := 9) (packB t s) Tryd.underlying57 Tryd.underlying5 Tryd.underlying9 (ownsRow_is (packB t s) hown4 (by exact pack_cells t s hs [.int .u8 t] (by rw [if_neg (by omega)]; simp [cellsOf]; omega)))
  clear hgrow4 hlt hown4 hown3 hB3 hz5 hc13
  go_wp2
  go_ret2
  exact ⟨rfl, hB4⟩

end Go.Proofs.YtmofnkinclckoaaDoor

namespace Go.Proofs.YtmofnkinclckoaaDoor
open Go.RowKit Go.Lib

/-- The reader in block p: what it holds, whether its next frame is bare, the error that ended it. -/
structure RIs (w : World) (p : Nat) (v : Value) (s : ByteArray) (bare : Bool) (e : Int) : Prop where
  heap : w.heap[p]? = some (.cells #[v, .bool bare, .int .i64 e] 59 (0, 0))
  own : OwnB w 5 p v s

/-- Nothing that was there has turned, but for block p and one row. -/
structure Turned (w w' : World) (p : Nat) (row : Option Nat) : Prop where
  os : w'.os = w.os
  tape : w'.tape = w.tape
  output : w'.output = w.output
  size : w.heap.size ≤ w'.heap.size
  block : ∀ k, k < w.heap.size → k ≠ p → some k ≠ row → w'.heap[k]? = w.heap[k]?

theorem Turned.below {w w' : World} {p : Nat} {row : Option Nat} {B : Nat} (h : Turned w w' p row) (hB : B ≤ w.heap.size) (hp : B ≤ p) (hr : ∀ k, row = some k → B ≤ k) : Below B w w' :=
  ⟨h.os, h.tape, h.output, h.size, fun k hk => h.block k (by omega) (by omega) (fun e => by have := hr k e.symm; omega)⟩

theorem Turned.refl (w : World) (p : Nat) (row : Option Nat) : Turned w w p row := ⟨rfl, rfl, rfl, Nat.le_refl _, fun _ _ _ _ => rfl⟩

theorem RIs.cell {w : World} {p : Nat} {v : Value} {s : ByteArray} {bare : Bool} {e : Int} (h : RIs w p v s bare e) :
    w.cell? ⟨p, 0, none⟩ = some v ∧ w.cell? ⟨p, 1, none⟩ = some (.bool bare) ∧ w.cell? ⟨p, 2, none⟩ = some (.int .i64 e) := by
  refine ⟨?_, ?_, ?_⟩ <;> rw [cell_of_row w p _ _ _ (0, 0) h.heap] <;> rfl

theorem RIs.frozen {w : World} {p : Nat} {v : Value} {s : ByteArray} {bare : Bool} {e : Int} (h : RIs w p v s bare e) (i : Nat) : w.frozen? ⟨p, i, none⟩ = false := by
  simp [World.frozen?, h.heap]

theorem RIs.lt {w : World} {p : Nat} {v : Value} {s : ByteArray} {bare : Bool} {e : Int} (h : RIs w p v s bare e) : p < w.heap.size := (Array.getElem?_eq_some_iff.1 h.heap).1

theorem OwnB.form {w : World} {e : TypeId} {p : Nat} {v : Value} {s : ByteArray} (h : OwnB w e p v s) : ∃ a c, v = .slice a s.size c := by
  rcases h with ⟨rfl, h0⟩ | ⟨g, o, cap, cur, rfl, _⟩
  · exact ⟨none, 0, by rw [h0]⟩
  · exact ⟨_, _, rfl⟩

theorem OwnB.ne {w : World} {e : TypeId} {p : Nat} {v : Value} {s : ByteArray} (h : OwnB w e p v s) : some p ≠ v.ownBlock := by
  rcases h with ⟨rfl, h0⟩ | ⟨g, o, cap, cur, rfl, hg, _⟩
  · simp [Value.ownBlock]
  · simp [Value.ownBlock]; omega

theorem OwnB.lt {w : World} {e : TypeId} {p : Nat} {v : Value} {s : ByteArray} (h : OwnB w e p v s) : ∀ k, v.ownBlock = some k → k < w.heap.size := by
  rcases h with ⟨rfl, h0⟩ | ⟨g, o, cap, cur, rfl, hg, h1, _⟩
  · simp [Value.ownBlock]
  · intro k hk
    simp [Value.ownBlock] at hk
    subst hk
    exact (Array.getElem?_eq_some_iff.1 h1).1

theorem OwnB.reads {w : World} {e : TypeId} {p : Nat} {v : Value} {s : ByteArray} (h : OwnB w e p v s) : Reads w v s := by
  rcases h with h | ⟨g, o, cap, cur, rfl, hg, h1, hc, hcm, hcs, hr⟩
  · exact .inl h
  · refine .inr ⟨g, o, cap, rfl, hc, (Array.getElem?_eq_some_iff.1 h1).1, fun i hi => ?_⟩
    rw [cell_of_row w g (o + i) cur e (0, 0) h1, ← hr, List.getElem?_take_of_lt hi, List.getElem?_drop]
    simp

theorem wpList_feed {P : Program} {w : World} {ops : Array Oper} {rest : List Oper} {o : Oper} {a : Act} {Q : Exit → Act → World → Prop} (hgd : o.guard = none) (sl x : Operand) (t u e : TypeId)
    (ho : o.op = .call { callee := .builtin .append, args := #[sl, x], argTypes := #[t, u] })
    (i : TypeInfo) (ht : P.underlying t = some (.slice e)) (hu : P.underlying u = some .string) (hi : P.info? e = some i) (hz : i.zero = some (.int .u8 0)) (hsize : i.size = 1) (hby : i.bytes = 1)
    (p : Nat) (hp : p < w.heap.size) (v : Value) (s y : ByteArray) (hv : OwnB w e p v s) (hy : y.size ≤ 140737488355328) (hb : s.size + y.size ≤ 200000000000000) (hs : a.eval sl = v) (hx : a.eval x = .string y)
    (h : ∀ v' w', OwnB w' e p v' (s ++ y) → w.grownBy w' v.ownBlock → (∀ k, v'.ownBlock = some k → v.ownBlock = some k ∨ w.heap.size ≤ k) → wpList P ops Q rest (a.put o.dst v') w') : wpList P ops Q (o :: rest) a w := by
  refine wpList_plain hgd fun K hK => ?_
  obtain ⟨v', w', hr, h2, h3, h4⟩ := run_feed (P := P) w t u o.type e i ht hu hi hz hsize hby p hp v s y hv hy hb
  unfold Oper.wp execOp
  simp only [ho, resolve, invoke, builtin, Sem.run_bind, Sem.run_pure, Result.andThen_ok, List.map_toArray, List.map_cons, List.map_nil, hs, hx, hr]
  exact hK _ _ (h v' w' h2 h3 h4)

theorem new_any (bare : Bool) (w : World) :
    Calls Tryd.prog 15 #[.bool bare] w fun e w' => e = .returned (.pointer (some ⟨w.heap.size, 0, none⟩)) ∧ w' = w.alloc (.cells #[.slice none 0 0, .bool bare, .int .i64 0] 59) := by
  go_enter Tryd.func15, Tryd.ntmps15
  go_wp2
  go_ret
  exact ⟨rfl, rfl⟩

def Fed (p : Nat) (v : Value) (s x : ByteArray) (bare : Bool) (w : World) (e : Ending) (w' : World) : Prop :=
  e = .returned (.tuple #[]) ∧ ∃ v', RIs w' p v' (s ++ x) bare 0 ∧ Turned w w' p v.ownBlock ∧ (∀ k, v'.ownBlock = some k → v.ownBlock = some k ∨ w.heap.size ≤ k)

theorem fed_end {p : Nat} {v v1 : Value} {s x : ByteArray} {bare : Bool} {w w1 : World} (hown : OwnB w1 5 p v1 (s ++ x)) (h : RIs w p v s bare 0) (hgr : w.grownBy w1 v.ownBlock) (hnew : ∀ k, v1.ownBlock = some k → v.ownBlock = some k ∨ w.heap.size ≤ k) :
    Fed p v s x bare w (.returned (.tuple #[])) (w1.setCell ⟨p, 0, none⟩ v1) := by
  have hkeep : w1.heap[p]? = w.heap[p]? := hgr.block p h.lt h.own.ne
  have h1 := hkeep.trans h.heap
  have hput : (w1.setCell ⟨p, 0, none⟩ v1).heap[p]? = some (.cells #[v1, .bool bare, .int .i64 0] 59 (0, 0)) := by
    rw [setCell_eq_setRow w1 p 0 _ _ (0, 0) v1 h1]
    exact setRow_heap w1 p _ _ _ _ h1
  have hoth : ∀ k, k ≠ p → (w1.setCell ⟨p, 0, none⟩ v1).heap[k]? = w1.heap[k]? := fun k hk => Below.heap_setCell _ _ _ _ hk
  refine ⟨rfl, v1, ⟨hput, hown.kept (fun k hk => hoth k (fun e => hown.ne (by rw [hk, e])))⟩, ⟨hgr.os, hgr.tape, hgr.output, ?_, fun k hk hkp hkr => (hoth k hkp).trans (hgr.block k hk hkr)⟩, hnew⟩
  simpa [World.setCell] using hgr.size

set_option maxHeartbeats 800000 in
theorem feed_wide (p : Nat) (v : Value) (s x : ByteArray) (bare : Bool) (w : World) (h : RIs w p v s bare 0) (hy : x.size ≤ 140737488355328) (hb : s.size + x.size ≤ 200000000000000) :
    Calls Tryd.prog 19 #[.pointer (some ⟨p, 0, none⟩), .string x] w (Fed p v s x bare w) := by
  obtain ⟨i0, hi, hz0, hz1, hz2⟩ := info_parts infoU8M
  obtain ⟨c0, c1, c2⟩ := h.cell
  have f0 := h.frozen 0
  have hp := h.lt
  obtain ⟨a, c, hv⟩ := h.own.form
  have HV := Lib.hid hv
  have c0' := c0
  rw [hv] at c0'
  clear hv c0
  have H := Lib.hid h
  clear h
  go_enter Tryd.func19, Tryd.ntmps19
  go_wp2_with (at_builtin; refine wpList_feed rfl (.tmp 13) (.tmp 14) 57 9 5 rfl i0 Tryd.underlying57 Tryd.underlying9 hi hz0 hz1 hz2 p hp v s x H.out.own hy hb HV.out.symm rfl ?_)
  intro v1 w1 hown hgr hnew
  have hkeep : w1.heap[p]? = w.heap[p]? := hgr.block p hp H.out.own.ne
  obtain ⟨a1, c3, hv1⟩ := hown.form
  rw [append_size] at hv1
  have hc1 : w1.cell? ⟨p, 0, none⟩ = some (.slice a s.size c) := (World.cell?_of_block (a := ⟨p, 0, none⟩) hkeep).trans c0'
  have hf1 : w1.frozen? ⟨p, 0, none⟩ = false := (World.frozen?_of_block (a := ⟨p, 0, none⟩) hkeep).trans f0
  have hfin := Lib.hid (fed_end hown H.out hgr hnew)
  rw [hv1] at hfin ⊢
  clear hown hgr hnew hkeep c0' f0 hv1 HV H
  go_wp2
  go_end0
  exact hfin.out

theorem feed_any (p : Nat) (v : Value) (s x : ByteArray) (bare : Bool) (w : World) (h : RIs w p v s bare 0) (hb : s.size + x.size ≤ 140737488355328) :
    Calls Tryd.prog 19 #[.pointer (some ⟨p, 0, none⟩), .string x] w (Fed p v s x bare w) :=
  feed_wide p v s x bare w h (by omega) (by omega)

def Dropped (p : Nat) (v : Value) (s : ByteArray) (n : Nat) (bare : Bool) (er : Int) (w : World) (e : Ending) (w' : World) : Prop :=
  e = .returned (.tuple #[]) ∧ ∃ v', RIs w' p v' (s.extract n s.size) bare er ∧ Turned w w' p none ∧ (∀ k, v'.ownBlock = some k → v.ownBlock = some k)

/-- What a reader is behind stores into its first cell. -/
theorem put_left {p : Nat} {v v1 : Value} {s s1 : ByteArray} {bare : Bool} {er : Int} {w : World} (h : RIs w p v s bare er) (hown : OwnB w 5 p v1 s1) (hsub : ∀ k, v1.ownBlock = some k → v.ownBlock = some k) :
    ∃ v', RIs (w.setCell ⟨p, 0, none⟩ v1) p v' s1 bare er ∧ Turned w (w.setCell ⟨p, 0, none⟩ v1) p none ∧ (∀ k, v'.ownBlock = some k → v.ownBlock = some k) := by
  have hput : (w.setCell ⟨p, 0, none⟩ v1).heap[p]? = some (.cells #[v1, .bool bare, .int .i64 er] 59 (0, 0)) := by
    rw [setCell_eq_setRow w p 0 _ _ (0, 0) v1 h.heap]
    exact setRow_heap w p _ _ _ _ h.heap
  have hoth : ∀ k, k ≠ p → (w.setCell ⟨p, 0, none⟩ v1).heap[k]? = w.heap[k]? := fun k hk => Below.heap_setCell _ _ _ _ hk
  exact ⟨v1, ⟨hput, hown.kept (fun k hk => hoth k (fun e => hown.ne (by rw [hk, e])))⟩, ⟨rfl, rfl, rfl, by simp [World.setCell], fun k _ hkp _ => hoth k hkp⟩, hsub⟩

theorem cut_own {w : World} {e : TypeId} {p g o cap n : Nat} {s : ByteArray} (h : OwnB w e p (.slice (some ⟨g, o, none⟩) s.size cap) s) (hn : n < s.size) :
    OwnB w e p (.slice (some ⟨g, o + n, none⟩) (s.size - n) (cap - n)) (s.extract n s.size) := by
  have hz : (s.extract n s.size).size = s.size - n := by simp
  rcases h with ⟨h0, _⟩ | ⟨g', o', cap', cur, hv, hg, h1, hc, hcm, hcs, hr⟩
  · cases h0
  · obtain ⟨rfl, rfl, rfl⟩ : g = g' ∧ o = o' ∧ cap = cap' := by simp at hv; omega
    refine .inr ⟨g, o + n, cap - n, cur, by rw [hz], hg, h1, by omega, by omega, by omega, ?_⟩
    have e1 : (s.extract n s.size).data.toList = s.data.toList.drop n := by
      rw [extract_data]; exact List.take_of_length_le (by rw [List.length_drop, size_list]; omega)
    have e2 : cellsOf (s.data.toList.drop n) = (cellsOf s.data.toList).drop n := by simp [cellsOf, List.map_drop]
    rw [hz, e1, e2, ← hr, List.drop_take, List.drop_drop]

/-- A store into the first cell, and one more. -/
theorem put_twice {p : Nat} {v x : Value} {s : ByteArray} {bare : Bool} {er : Int} {w : World} (h : RIs w p v s bare er) :
    RIs ((w.setCell ⟨p, 0, none⟩ x).setCell ⟨p, 0, none⟩ (.slice none 0 0)) p (.slice none 0 0) (s.extract s.size s.size) bare er ∧ Turned w ((w.setCell ⟨p, 0, none⟩ x).setCell ⟨p, 0, none⟩ (.slice none 0 0)) p none := by
  have h1 : (w.setCell ⟨p, 0, none⟩ x).heap[p]? = some (.cells #[x, .bool bare, .int .i64 er] 59 (0, 0)) := by
    rw [setCell_eq_setRow w p 0 _ _ (0, 0) x h.heap]
    exact setRow_heap w p _ _ _ _ h.heap
  have h2 : ((w.setCell ⟨p, 0, none⟩ x).setCell ⟨p, 0, none⟩ (.slice none 0 0)).heap[p]? = some (.cells #[.slice none 0 0, .bool bare, .int .i64 er] 59 (0, 0)) := by
    rw [setCell_eq_setRow _ p 0 _ _ (0, 0) _ h1]
    exact setRow_heap _ p _ _ _ _ h1
  refine ⟨⟨h2, .inl ⟨rfl, by simp⟩⟩, ⟨rfl, rfl, rfl, by simp [World.setCell], fun k _ hkp _ => ?_⟩⟩
  exact (Below.heap_setCell _ _ _ _ hkp).trans (Below.heap_setCell _ _ _ _ hkp)

set_option maxHeartbeats 800000 in
theorem drop_some (p g o cap : Nat) (s : ByteArray) (n : Nat) (bare : Bool) (er : Int) (w : World) (h : RIs w p (.slice (some ⟨g, o, none⟩) s.size cap) s bare er) (hn : n < s.size) (hc : s.size ≤ cap) :
    Calls Tryd.prog 25 #[.pointer (some ⟨p, 0, none⟩), .int .i64 n] w (Dropped p (.slice (some ⟨g, o, none⟩) s.size cap) s n bare er w) := by
  obtain ⟨c0, c1, c2⟩ := h.cell
  have f0 := h.frozen 0
  have hcn : ¬ cap = n := by omega
  have hlen : ((s.size : Int) - n == 0) = false := by simp; omega
  have hlen2 : ((s.size - n : Nat) : Int) = (s.size : Int) - n := by omega
  have hfin := Lib.hid (put_left h (cut_own h.own hn) (fun k hk => hk))
  clear h
  go_enter Tryd.func25, Tryd.ntmps25
  go_wp2
  go_end0
  exact ⟨rfl, hfin.out⟩

set_option maxHeartbeats 800000 in
theorem drop_all (p g o cap : Nat) (s : ByteArray) (bare : Bool) (er : Int) (w : World) (h : RIs w p (.slice (some ⟨g, o, none⟩) s.size cap) s bare er) (hc : s.size ≤ cap) :
    Calls Tryd.prog 25 #[.pointer (some ⟨p, 0, none⟩), .int .i64 s.size] w (Dropped p (.slice (some ⟨g, o, none⟩) s.size cap) s s.size bare er w) := by
  obtain ⟨c0, c1, c2⟩ := h.cell
  have f0 := h.frozen 0
  have HF := fun x => Lib.hid (put_twice (x := x) h)
  clear h
  by_cases hcn : cap = s.size
  · subst hcn
    go_enter Tryd.func25, Tryd.ntmps25
    go_wp2
    go_end0
    exact ⟨rfl, _, (HF _).out.1, (HF _).out.2, by simp [Value.ownBlock]⟩
  · go_enter Tryd.func25, Tryd.ntmps25
    go_wp2
    go_end0
    exact ⟨rfl, _, (HF _).out.1, (HF _).out.2, by simp [Value.ownBlock]⟩

theorem drop_any (p : Nat) (v : Value) (s : ByteArray) (n : Nat) (bare : Bool) (er : Int) (w : World) (h : RIs w p v s bare er) (h0 : 0 < n) (hn : n ≤ s.size) :
    Calls Tryd.prog 25 #[.pointer (some ⟨p, 0, none⟩), .int .i64 n] w (Dropped p v s n bare er w) := by
  rcases h.own with ⟨_, hz⟩ | ⟨g, o, cap, cur, rfl, hg, h1, hc, _⟩
  · omega
  · by_cases hlt : n < s.size
    · exact drop_some p g o cap s n bare er w h hlt hc
    · obtain rfl : n = s.size := by omega
      exact drop_all p g o cap s bare er w h hc
end Go.Proofs.YtmofnkinclckoaaDoor

namespace Go.Proofs.YtmofnkinclckoaaDoor
open Go.RowKit Go.Lib

theorem Reads.grown {w w' : World} {v : Value} {s : ByteArray} (h : Reads w v s) (hb : Below w.heap.size w w') : Reads w' v s := by
  rcases h with h | ⟨g, o, cap, rfl, hc, hg, hl⟩
  · exact .inl h
  · exact .inr ⟨g, o, cap, rfl, hc, Nat.lt_of_lt_of_le hg hb.size, fun i hi => (hb.cell (p := ⟨g, o + i, none⟩) hg).trans (hl i hi)⟩

/-- What stands behind a call that makes memory, with a box laid ahead of it: the box, the reader's cells. -/
theorem next_behind {w w1 : World} {A : Array Value} {T : TypeId} {p : Nat} {x0 x1 x2 : Value} (hp : p < w.heap.size) (c0 : w.cell? ⟨p, 0, none⟩ = some x0) (c1 : w.cell? ⟨p, 1, none⟩ = some x1) (c2 : w.cell? ⟨p, 2, none⟩ = some x2)
    (hb : Below (w.alloc (.cells A T)).drew.heap.size (w.alloc (.cells A T)).drew w1) :
    Below w.heap.size w w1 ∧ w1.cell? ⟨p, 0, none⟩ = some x0 ∧ w1.cell? ⟨p, 1, none⟩ = some x1 ∧ w1.cell? ⟨p, 2, none⟩ = some x2 ∧ (∀ i : Nat, w1.cell? ⟨w.heap.size, i, none⟩ = A[i]?) ∧ (∀ i : Nat, w1.frozen? ⟨w.heap.size, i, none⟩ = false) ∧ w.heap.size < w1.heap.size ∧ p < w1.heap.size := by
  have h1 : Below (w.alloc (.cells A T)).heap.size (w.alloc (.cells A T)) w1 := (Below.refl _ (w.alloc (.cells A T))).drew.step hb (by simp)
  obtain ⟨h2, h3, h4⟩ := one_box h1
  have hB : Below w.heap.size w w1 := ((Below.refl _ _).alloc (Nat.le_refl _) _).step h1 (by simp)
  exact ⟨hB, (hB.cell (p := ⟨p, 0, none⟩) hp).trans c0, (hB.cell (p := ⟨p, 1, none⟩) hp).trans c1, (hB.cell (p := ⟨p, 2, none⟩) hp).trans c2, h2, h3, h4, by omega⟩

theorem next_before {w w1 : World} {A B : Array Value} {T U : TypeId} {p : Nat} {x0 x1 x2 : Value} (hp : p < w.heap.size) (c0 : w.cell? ⟨p, 0, none⟩ = some x0) (c1 : w.cell? ⟨p, 1, none⟩ = some x1) (c2 : w.cell? ⟨p, 2, none⟩ = some x2)
    (hb : Below ((w.alloc (.cells A T)).alloc (.cells B U)).drew.heap.size ((w.alloc (.cells A T)).alloc (.cells B U)).drew w1) :
    Below w.heap.size w w1 ∧ w1.cell? ⟨p, 0, none⟩ = some x0 ∧ w1.cell? ⟨p, 1, none⟩ = some x1 ∧ w1.cell? ⟨p, 2, none⟩ = some x2 ∧ (∀ i : Nat, w1.cell? ⟨w.heap.size, i, none⟩ = A[i]?) ∧ (∀ i : Nat, w1.frozen? ⟨w.heap.size, i, none⟩ = false) ∧ w.heap.size < w1.heap.size ∧ p < w1.heap.size ∧
      (∀ i : Nat, w1.cell? ⟨w.heap.size + 1, i, none⟩ = B[i]?) ∧ (∀ i : Nat, w1.frozen? ⟨w.heap.size + 1, i, none⟩ = false) ∧ w.heap.size + 1 < w1.heap.size := by
  have h1 : Below (w.alloc (.cells A T)).heap.size (w.alloc (.cells A T)) w1 := ((Below.refl _ (w.alloc (.cells A T))).alloc (Nat.le_refl _) _).drew.step hb (by simp)
  obtain ⟨h2, h3, h4⟩ := one_box h1
  have h5 : Below ((w.alloc (.cells A T)).alloc (.cells B U)).heap.size ((w.alloc (.cells A T)).alloc (.cells B U)) w1 := (Below.refl _ ((w.alloc (.cells A T)).alloc (.cells B U))).drew.step hb (by simp)
  have h6 := one_box h5
  simp only [World.size_alloc] at h6
  have hB : Below w.heap.size w w1 := ((Below.refl _ _).alloc (Nat.le_refl _) _).step h1 (by simp)
  exact ⟨hB, (hB.cell (p := ⟨p, 0, none⟩) hp).trans c0, (hB.cell (p := ⟨p, 1, none⟩) hp).trans c1, (hB.cell (p := ⟨p, 2, none⟩) hp).trans c2, h2, h3, h4, by omega, h6.1, h6.2.1, h6.2.2⟩

/-- What stands behind the reading of the next frame: it lies in block q; the result's block, and all that was there, as before. -/
def Behind (w : World) (T : Int) (B : ByteArray) (q : Nat) (wx : World) : Prop :=
  (∀ i : Nat, wx.cell? ⟨q, i, none⟩ = (#[.int .u8 T, .string B] : Array Value)[i]?) ∧ (∀ i : Nat, wx.cell? ⟨w.heap.size, i, none⟩ = (#[.int .u8 0, .string { data := #[] }] : Array Value)[i]?) ∧ (∀ i : Nat, wx.frozen? ⟨w.heap.size, i, none⟩ = false) ∧
    w.heap.size < q ∧ q < wx.heap.size ∧ Below w.heap.size w wx

theorem behind_new {w w1 : World} {T : Int} {B : ByteArray} (hB : Below w.heap.size w w1) (x : ∀ i : Nat, w1.cell? ⟨w.heap.size, i, none⟩ = (#[.int .u8 0, .string { data := #[] }] : Array Value)[i]?) (y : ∀ i : Nat, w1.frozen? ⟨w.heap.size, i, none⟩ = false) (hz : w.heap.size < w1.heap.size) :
    Behind w T B w1.heap.size (w1.alloc (.cells #[.int .u8 T, .string B] 45)) :=
  ⟨fun i => World.cell?_alloc_new _ _ _ _, fun i => (World.cell?_alloc_past _ _ _ hz).trans (x i), fun i => (World.frozen?_alloc_old _ _ ⟨w.heap.size, i, none⟩ (by simp; omega)).trans (y i), hz, by simp, hB.alloc (by omega) _⟩

theorem behind_old {w w1 : World} {T : Int} {B : ByteArray} (hB : Below w.heap.size w w1) (x : ∀ i : Nat, w1.cell? ⟨w.heap.size, i, none⟩ = (#[.int .u8 0, .string { data := #[] }] : Array Value)[i]?) (y : ∀ i : Nat, w1.frozen? ⟨w.heap.size, i, none⟩ = false) (hz : w.heap.size + 1 < w1.heap.size)
    (x' : ∀ i : Nat, w1.cell? ⟨w.heap.size + 1, i, none⟩ = (#[.int .u8 0, .string { data := #[] }] : Array Value)[i]?) :
    Behind w T B (w.heap.size + 1) ((w1.setCell ⟨w.heap.size + 1, 0, none⟩ (.int .u8 T)).setCell ⟨w.heap.size + 1, 1, none⟩ (.string B)) := by
  refine ⟨fun i => ?_, fun i => ?_, fun i => ?_, by omega, by simp [World.setCell]; omega, (hB.setCell (by simp) _).setCell (by simp) _⟩
  · match i with
    | 0 => simp [go_sem, x']
    | 1 => simp [go_sem, x']
    | n + 2 => simp [go_sem, x']
  · have := x i
    simp [go_sem, this]
  · have := y i
    simp [go_sem, this]

theorem RIs.grown {w w' : World} {p : Nat} {v : Value} {s : ByteArray} {b : Bool} {e : Int} (h : RIs w p v s b e) (hb : Below w.heap.size w w') : RIs w' p v s b e :=
  ⟨(hb.block p h.lt).trans h.heap, h.own.kept (fun k hk => hb.block k (h.own.lt k hk))⟩

/-- A store into one of the reader's cells. -/
theorem RIs.stored {w : World} {p : Nat} {v : Value} {s : ByteArray} {b : Bool} {e : Int} (h : RIs w p v s b e) (i : Nat) (x : Value) :
    (w.setCell ⟨p, i, none⟩ x).heap[p]? = some (.cells ((#[v, .bool b, .int .i64 e] : Array Value).setIfInBounds i x) 59 (0, 0)) ∧ (∀ k, k ≠ p → (w.setCell ⟨p, i, none⟩ x).heap[k]? = w.heap[k]?) := by
  refine ⟨?_, fun k hk => Below.heap_setCell _ _ _ _ hk⟩
  rw [setCell_eq_setRow w p i _ _ (0, 0) x h.heap]
  exact setRow_heap w p _ _ _ _ h.heap

theorem RIs.setBare {w : World} {p : Nat} {v : Value} {s : ByteArray} {b : Bool} {e : Int} (h : RIs w p v s b e) (b' : Bool) : RIs (w.setCell ⟨p, 1, none⟩ (.bool b')) p v s b' e :=
  ⟨(h.stored 1 (.bool b')).1, h.own.kept (fun k hk => (h.stored 1 (.bool b')).2 k (fun e => h.own.ne (by rw [hk, e])))⟩

/-- What Next leaves of a reader. -/
def Nexted (p : Nat) (v : Value) (s' : ByteArray) (b' : Bool) (e' : Int) (w w' : World) : Prop :=
  ∃ v', RIs w' p v' s' b' e' ∧ Turned w w' p none ∧ (∀ k, v'.ownBlock = some k → v.ownBlock = some k)

/-- The result's block is written behind all. -/
theorem nexted_end {w wx : World} {p h : Nat} {v v' : Value} {s' : ByteArray} {b' : Bool} {e' : Int} {x y : Value} (hR : RIs wx p v' s' b' e') (hT : Turned w wx p none) (hsub : ∀ k, v'.ownBlock = some k → v.ownBlock = some k) (hv : ∀ k, v.ownBlock = some k → k < w.heap.size) (hh : w.heap.size ≤ h) (hp : p < w.heap.size) :
    Nexted p v s' b' e' w ((wx.setCell ⟨h, 0, none⟩ x).setCell ⟨h, 1, none⟩ y) := by
  have ho : ∀ k, k ≠ h → ((wx.setCell ⟨h, 0, none⟩ x).setCell ⟨h, 1, none⟩ y).heap[k]? = wx.heap[k]? := fun k hk =>
    (Below.heap_setCell _ _ _ _ hk).trans (Below.heap_setCell _ _ _ _ hk)
  refine ⟨v', ⟨(ho p (by omega)).trans hR.heap, hR.own.kept (fun k hk => ho k (by have := hv k (hsub k hk); omega))⟩, ⟨hT.os, hT.tape, hT.output, by simpa [World.setCell] using hT.size, fun k hk hkp hkr => (ho k (by omega)).trans (hT.block k hk hkp hkr)⟩, hsub⟩

theorem wrong_end {w wc : World} {p : Nat} {v : Value} {s : ByteArray} {b : Bool} {x y : Value} {E : Int} (h : RIs w p v s b 0) (hB : Below w.heap.size w wc) :
    Nexted p v { data := #[] } b E w ((((wc.setCell ⟨p, 2, none⟩ (.int .i64 E)).setCell ⟨p, 0, none⟩ (.slice none 0 0)).setCell ⟨w.heap.size, 0, none⟩ x).setCell ⟨w.heap.size, 1, none⟩ y) := by
  have hR := h.grown hB
  have e1 : (wc.setCell ⟨p, 2, none⟩ (.int .i64 E)).heap[p]? = some (.cells #[v, .bool b, .int .i64 E] 59 (0, 0)) := (hR.stored 2 (.int .i64 E)).1
  have e2 : ((wc.setCell ⟨p, 2, none⟩ (.int .i64 E)).setCell ⟨p, 0, none⟩ (.slice none 0 0)).heap[p]? = some (.cells #[.slice none 0 0, .bool b, .int .i64 E] 59 (0, 0)) := by
    rw [setCell_eq_setRow _ p 0 _ _ (0, 0) _ e1]
    exact setRow_heap _ p _ _ _ _ e1
  refine nexted_end (v' := .slice none 0 0) ⟨e2, .inl ⟨rfl, rfl⟩⟩ ⟨hB.os, hB.tape, hB.output, by simpa [World.setCell] using hB.size, fun k hk hkp _ => ?_⟩ (by simp [Value.ownBlock]) h.own.lt (Nat.le_refl _) h.lt
  exact (Below.heap_setCell _ _ _ _ hkp).trans ((Below.heap_setCell _ _ _ _ hkp).trans (hB.block k hk))

/-- Behind the drop: what the rest of Next reads, and what it leaves. -/
theorem good_end {w wc w2 : World} {p q : Nat} {v v' : Value} {s s' : ByteArray} {b : Bool} {T : Int} {B : ByteArray} (h : RIs w p v s b 0) (hB : Below w.heap.size w wc) (hx : ∀ i : Nat, wc.cell? ⟨q, i, none⟩ = (#[.int .u8 T, .string B] : Array Value)[i]?) (hy : ∀ i : Nat, wc.cell? ⟨w.heap.size, i, none⟩ = (#[.int .u8 0, .string { data := #[] }] : Array Value)[i]?)
    (hyf : ∀ i : Nat, wc.frozen? ⟨w.heap.size, i, none⟩ = false) (hq1 : w.heap.size < q) (hq2 : q < wc.heap.size) (hR2 : RIs w2 p v' s' false 0) (hT2 : Turned (wc.setCell ⟨p, 1, none⟩ (.bool false)) w2 p none) (hs2 : ∀ k, v'.ownBlock = some k → v.ownBlock = some k) :
    (∀ i : Nat, w2.cell? ⟨q, i, none⟩ = (#[.int .u8 T, .string B] : Array Value)[i]?) ∧ (∀ i : Nat, w2.cell? ⟨w.heap.size, i, none⟩ = (#[.int .u8 0, .string { data := #[] }] : Array Value)[i]?) ∧ (∀ i : Nat, w2.frozen? ⟨w.heap.size, i, none⟩ = false) ∧
      Nexted p v s' false 0 w ((w2.setCell ⟨w.heap.size, 0, none⟩ (.int .u8 T)).setCell ⟨w.heap.size, 1, none⟩ (.string B)) := by
  have hp := h.lt
  have hz := hB.size
  have hk : ∀ k, k < wc.heap.size → k ≠ p → w2.heap[k]? = wc.heap[k]? := fun k hk hkp =>
    (hT2.block k (by simpa [World.setCell] using hk) hkp (by simp)).trans (Below.heap_setCell _ _ _ _ hkp)
  refine ⟨fun i => (World.cell?_of_block (a := ⟨q, i, none⟩) (hk q hq2 (by omega))).trans (hx i), fun i => (World.cell?_of_block (a := ⟨w.heap.size, i, none⟩) (hk w.heap.size (by omega) (by omega))).trans (hy i), fun i => (World.frozen?_of_block (a := ⟨w.heap.size, i, none⟩) (hk w.heap.size (by omega) (by omega))).trans (hyf i), ?_⟩
  refine nexted_end hR2 ⟨hT2.os.trans hB.os, hT2.tape.trans hB.tape, hT2.output.trans hB.output, ?_, fun k h1 hkp _ => (hk k (by omega) hkp).trans (hB.block k h1)⟩ hs2 h.own.lt (Nat.le_refl _) hp
  have := hT2.size
  simp [World.setCell] at this
  omega
end Go.Proofs.YtmofnkinclckoaaDoor

namespace Go.Proofs.YtmofnkinclckoaaDoor
open Go.RowKit Go.Lib

theorem Turned.box {w w' : World} {p k : Nat} {row : Option Nat} {A : Array Value} (h : Turned w w' p row) (hA : ∀ i : Nat, w.cell? ⟨k, i, none⟩ = A[i]?) (hk : k < w.heap.size) (hp : k ≠ p) (hr : some k ≠ row) : ∀ i : Nat, w'.cell? ⟨k, i, none⟩ = A[i]? :=
  fun i => (World.cell?_of_block (a := ⟨k, i, none⟩) (h.block k hk hp hr)).trans (hA i)

theorem RIs.alloc {w : World} {p : Nat} {v : Value} {s : ByteArray} {b : Bool} {e : Int} (h : RIs w p v s b e) (o : Obj) : RIs (w.alloc o) p v s b e :=
  h.grown ((Below.refl _ _).alloc (Nat.le_refl _) o)

theorem RIs.turned {w w' : World} {p q : Nat} {v : Value} {s : ByteArray} {b : Bool} {e : Int} {row : Option Nat} (h : RIs w p v s b e) (ht : Turned w w' q row) (hp : p ≠ q) (hr : some p ≠ row) (hv : ∀ k, v.ownBlock = some k → k ≠ q ∧ some k ≠ row) : RIs w' p v s b e :=
  ⟨(ht.block p h.lt hp hr).trans h.heap, h.own.kept (fun k hk => ht.block k (h.own.lt k hk) (hv k hk).1 (hv k hk).2)⟩

end Go.Proofs.YtmofnkinclckoaaDoor

namespace Go.Proofs.YtmofnkinclckoaaDoor
open Go.RowKit Go.Lib Go.WideShapes

/-- The numbers of an event, that lie where Q says. -/
def EvNums (w : World) (Q : Nat → Prop) (n : List Int) (sl : Value) : Prop := ∃ b m d, sl = .slice b m d ∧ NumsIn w (.slice b m d) n ∧ (n ≠ [] → ∀ g off, b = some ⟨g, off, none⟩ → Q g)
theorem numsK_nil (w : World) : NumsIn w (.slice none 0 0) [] := ⟨none, 0, 0, rfl, rfl, Nat.le_refl _, by omega, .inl rfl⟩
theorem evNums_nil (w : World) (Q : Nat → Prop) : EvNums w Q [] (.slice none 0 0) := ⟨none, 0, 0, rfl, numsK_nil w, fun h => absurd rfl h⟩
theorem EvNums.mono {w w' : World} {Q : Nat → Prop} {n : List Int} {sl : Value} (h : EvNums w Q n sl) (hb : Below w.heap.size w w') : EvNums w' Q n sl := by
  obtain ⟨b, m, d, h1, h2, h3⟩ := h
  exact ⟨b, m, d, h1, h2.mono hb, h3⟩
theorem nums_tail {w : World} {g off c k : Nat} {x : Int} {N : List Int} (h : NumsIn w (.slice (some ⟨g, off, none⟩) (k + 1) c) (x :: N)) : NumsIn w (.slice (some ⟨g, off + 1, none⟩) k (c - 1)) N := by
  obtain ⟨a', n', c', hva, hl, hnc, hc9, hr⟩ := h
  injection hva with e1 e2 e3
  subst e1 e2 e3
  refine ⟨_, k, c - 1, rfl, by simpa using hl, by omega, by omega, ?_⟩
  rcases hr with hr | ⟨g', off', e, hg, hc⟩
  · cases hr
  · cases e
    refine .inr ⟨g, off + 1, rfl, hg, fun i t ht => ?_⟩
    have := hc (i + 1) t (by simpa using ht)
    rw [show off + 1 + i = off + (i + 1) by omega]
    exact this
set_option maxRecDepth 100000 in
set_option maxHeartbeats 8000000 in
theorem beginning_any (c0 : Int) (n c m d : Nat) (a b : Option Addr) (T : List Bs) (N : List Int) (w : World) (hT : TextsIn w (.slice a n c) T) (hN : NumsIn w (.slice b m d) N) (hn : n ≤ 800000) (h0 : ∃ x r, N = x :: r ∧ (x = 80877102 → ∃ p q, r = [p, q])) :
    Calls Tryd.prog 27 #[.agg #[.int .u8 c0, .slice a n c, .slice b m d]] w fun e w' => ∃ sl, e = .returned (evV (beginE T N) sl) ∧ EvNums w' (fun g => ∃ off, b = some ⟨g, off, none⟩) (beginE T N).n sl ∧ Below w.heap.size w w' := by
  obtain ⟨x, r, rfl, hx⟩ := h0
  have HN := Lib.hid hN
  obtain ⟨a', n', c', hva, hl, hnc, hc9, hr⟩ := hN
  injection hva with e1 e2 e3
  subst e1 e2 e3
  rcases hr with hr | ⟨g, off, rfl, hg, hc⟩
  · cases hr
  obtain ⟨W0, hW0⟩ : ∃ x, x = (w.alloc (.cells #[.int .u8 c0, .slice a n c, .slice (some ⟨g, off, none⟩) m d] 49)).alloc (.cells #[.int .u8 0, .string { data := #[] }, .string { data := #[] }, .string { data := #[] }, .slice none 0 0] 36) := ⟨_, rfl⟩
  have hb0 : Below w.heap.size w W0 := by rw [hW0]; exact ((Below.refl _ _).alloc (Nat.le_refl _) _).alloc (by simp) _
  have HE := Lib.hid hW0
  have HB := Lib.hid hb0
  have cx := hc 0 x rfl
  rw [Nat.add_zero] at cx
  have hm : 1 ≤ m := by simp at hl; omega
  have HL := Lib.hid hl
  have hm1 : (1 : Int) ≤ m := by omega
  have hmd : (m : Int) ≤ d := by omega
  have HBW := Lib.hid (show ∀ x0 x1 x2 x3 x4, Below w.heap.size w ((w.alloc (.cells #[.int .u8 c0, .slice a n c, .slice (some ⟨g, off, none⟩) m d] 49)).alloc (.cells #[x0, x1, x2, x3, x4] 36)) from fun x0 x1 x2 x3 x4 => ((Below.refl _ _).alloc (Nat.le_refl _) _).alloc (by simp) _)
  have HT := Lib.hid hT
  have HKF := Lib.hid (show ∀ W, Below W0.heap.size W0 W → (W.cell? ⟨w.heap.size + 1, 0, none⟩ = some (.int .u8 0) ∧ W.cell? ⟨w.heap.size + 1, 1, none⟩ = some (.string { data := #[] }) ∧ W.cell? ⟨w.heap.size + 1, 2, none⟩ = some (.string { data := #[] }) ∧ W.cell? ⟨w.heap.size + 1, 3, none⟩ = some (.string { data := #[] }) ∧ W.cell? ⟨w.heap.size + 1, 4, none⟩ = some (.slice none 0 0)) ∧ (W.frozen? ⟨w.heap.size + 1, 0, none⟩ = false ∧ W.frozen? ⟨w.heap.size + 1, 1, none⟩ = false ∧ W.frozen? ⟨w.heap.size + 1, 2, none⟩ = false ∧ W.frozen? ⟨w.heap.size + 1, 3, none⟩ = false ∧ W.frozen? ⟨w.heap.size + 1, 4, none⟩ = false) from by
    intro W hW
    have hz : w.heap.size + 1 < W0.heap.size := by rw [hW0]; simp
    have k : ∀ i, W.cell? ⟨w.heap.size + 1, i, none⟩ = W0.cell? ⟨w.heap.size + 1, i, none⟩ := fun i => hW.cell (p := ⟨w.heap.size + 1, i, none⟩) hz
    have f : ∀ i, W.frozen? ⟨w.heap.size + 1, i, none⟩ = W0.frozen? ⟨w.heap.size + 1, i, none⟩ := fun i => hW.frozen (p := ⟨w.heap.size + 1, i, none⟩) hz
    simp only [k, f]
    rw [hW0]
    simp [go_sem])
  have HSA := Lib.hid (start_any n c a T W0 (hT.mono hb0) hn)
  clear hb0 hW0 hT hc hl
  go_enter Tryd.func27, Tryd.ntmps27
  by_cases h1 : x = 196608
  · subst h1
    obtain ⟨E, hE⟩ : ∃ E, E = startE T := ⟨_, rfl⟩
    have HSN := Lib.hid (show E.n = [] from by rw [hE]; unfold startE; split <;> rfl)
    rw [show beginE T (196608 :: r) = E from hE ▸ if_pos rfl]
    rw [← hE] at HSA
    clear hE
    go_wp2_with fail
    rw [← HE.out]
    refine HSA.out.mono ?_; rintro e w1 ⟨rfl, hb⟩
    have HB1 := Lib.hid (HB.out.step hb HB.out.size)
    obtain ⟨⟨k0, k1, k2, k3, k4⟩, f0, f1, f2, f3, f4⟩ := HKF.out _ hb
    clear hb HSA
    go_wp2_with fail
    simp [bodyPost, results, Tryd.results27, go_sem, k0, k1, k2, k3, k4]
    rw [HSN.out]
    exact ⟨evNums_nil _ _, ((((HB1.out.setCell (Nat.le_succ _) _).setCell (Nat.le_succ _) _).setCell (Nat.le_succ _) _).setCell (Nat.le_succ _) _).setCell (Nat.le_succ _) _⟩
  · by_cases h2 : x = 80877102
    · subst h2
      obtain ⟨p, q, rfl⟩ := hx rfl
      obtain rfl : m = 3 := HL.out.symm
      have hd1 : ¬ d = 1 := by omega
      have hd2 : d - 1 + 1 = d := by omega
      rw [show beginE T [80877102, p, q] = ⟨99, [], [], [], [p, q]⟩ from rfl]
      clear h1
      go_wp2_with fail
      simp [bodyPost, results, Tryd.results27, go_sem]
      exact ⟨⟨_, _, _, rfl, (nums_tail HN.out).mono (((Below.refl _ _).alloc (Nat.le_refl _) _).alloc (by simp) _), fun _ g' off' e => by cases e; rfl⟩, HBW.out _ _ _ _ _⟩
    · have HS := Lib.hid (show beginE T (x :: r) = wrongEv c_done from by show (if x = 196608 then startE T else if x = 80877102 then _ else wrongEv c_done) = _; rw [if_neg h1, if_neg h2])
      have e1 : (x == 196608) = false := by simpa using h1
      have e2 : (x == 80877102) = false := by simpa using h2
      rw [HS.out]
      clear h1 h2
      go_wp2_with fail
      simp [bodyPost, results, Tryd.results27, go_sem, wrongEv, c_done]
      exact ⟨evNums_nil _ _, HBW.out _ _ _ _ _⟩

/-- The cells of a front. -/
def FCell (w : World) (p : Nat) (i : Value) (b : Bool) : Prop := w.heap[p]? = some (.cells #[i, .bool b] 43 (0, 0))
theorem FCell.cell {w : World} {p : Nat} {i : Value} {b : Bool} (h : FCell w p i b) : w.cell? ⟨p, 0, none⟩ = some i ∧ w.cell? ⟨p, 1, none⟩ = some (.bool b) := by
  refine ⟨?_, ?_⟩ <;> rw [cell_of_row w p _ _ _ (0, 0) h] <;> rfl
theorem FCell.frozen {w : World} {p : Nat} {i : Value} {b : Bool} (h : FCell w p i b) (j : Nat) : w.frozen? ⟨p, j, none⟩ = false := by
  unfold FCell at h
  simp [World.frozen?, h]
theorem FCell.lt {w : World} {p : Nat} {i : Value} {b : Bool} (h : FCell w p i b) : p < w.heap.size := (Array.getElem?_eq_some_iff.1 h).1
theorem FCell.put {w : World} {p : Nat} {i : Value} {b : Bool} (h : FCell w p i b) : FCell (w.setCell ⟨p, 1, none⟩ (.bool true)) p i true := by
  unfold FCell at h ⊢
  rw [setCell_eq_setRow w p 1 _ _ (0, 0) _ h]
  exact setRow_heap w p _ _ _ _ h
theorem FCell.end {w : World} {p : Nat} {i : Value} {b : Bool} (h : FCell w p i b) (x : Value) : FCell (w.setCell ⟨p, 0, none⟩ x) p x b := by
  unfold FCell at h ⊢
  rw [setCell_eq_setRow w p 0 _ _ (0, 0) _ h]
  exact setRow_heap w p _ _ _ _ h
theorem FCell.same {w w' : World} {p : Nat} {i : Value} {b : Bool} (h : FCell w p i b) (hb : w'.heap[p]? = w.heap[p]?) : FCell w' p i b := hb.trans h
theorem Turned.then {w w1 w' : World} {p : Nat} {row : Option Nat} (h : Turned w w1 p row) (hb : Below w.heap.size w1 w') : Turned w w' p row :=
  ⟨hb.os.trans h.os, hb.tape.trans h.tape, hb.output.trans h.output, Nat.le_trans h.size hb.size, fun k hk hp hr => (hb.block k hk).trans (h.block k hk hp hr)⟩
/-- A front's begun flag is set. -/
theorem begun_world {w : World} {p : Nat} {i : Value} {b : Bool} (h : FCell w p i b) : FCell (w.setCell ⟨p, 1, none⟩ (.bool true)) p i true ∧ Turned w (w.setCell ⟨p, 1, none⟩ (.bool true)) p none :=
  ⟨h.put, ⟨rfl, rfl, rfl, by rw [World.size_setCell]; exact Nat.le_refl _, fun k hk hp _ => Below.heap_setCell _ _ _ _ hp⟩⟩
/-- What event leaves. -/
def Evented (w : World) (p : Nat) (i : Value) (Q : Nat → Prop) (E : Ev) (e : Ending) (w' : World) : Prop := ∃ sl, e = .returned (evV E sl) ∧ EvNums w' Q E.n sl ∧ FCell w' p i true ∧ Turned w w' p none
theorem evented_end {w W w' : World} {p : Nat} {i : Value} (_ : W = w.setCell ⟨p, 1, none⟩ (.bool true)) (h : FCell W p i true ∧ Turned w W p none) (hp : p < w.heap.size) (hb : Below w.heap.size W w') : FCell w' p i true ∧ Turned w w' p none :=
  ⟨h.1.same (hb.block p hp), h.2.then hb⟩
set_option maxRecDepth 100000 in
set_option maxHeartbeats 8000000 in
theorem event_wrong (p : Nat) (i : Value) (b : Bool) (c0 : Int) (tv nv : Value) (er : Int) (w : World) (h : FCell w p i b) (he : er ≠ 0) (Q : Nat → Prop) :
    Calls Tryd.prog 22 #[.pointer (some ⟨p, 0, none⟩), .agg #[.int .u8 c0, tv, nv], .int .i64 er] w (Evented w p i Q (wrongEv c_bytes)) := by
  obtain ⟨f0, f1⟩ := h.cell
  have z1 := h.frozen 1
  have hp := h.lt
  have hne : (er != 0) = true := by simpa using he
  have HW := Lib.hid (begun_world h)
  clear h he
  go_enter Tryd.func22, Tryd.ntmps22
  go_wp2_with fail
  simp [bodyPost, results, Tryd.results22, go_sem, Evented, wrongEv, c_bytes]
  exact ⟨evNums_nil _ _, evented_end rfl HW.out hp (((Below.refl _ _).alloc (by rw [World.size_setCell]; exact Nat.le_refl _) _).alloc (by simp [World.size_setCell]) _)⟩
end Go.Proofs.YtmofnkinclckoaaDoor
