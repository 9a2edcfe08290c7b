/- A slice of bytes of the call's own, at any place of its row: what appending a text to it leaves. No program is named here. -/
import Derived.Test.YtjohgfcfnlilmaaPlainTake
import Derived.Deep.DeepAppendWide
namespace Go.Proofs.Ytjohgfcfnlilmaa
open Go.Lib Go.RowKit

/-- v reads s, and owns the row that it lies in, to the row's end; the row is not block p. -/
def OwnB (w : World) (e : TypeId) (p : Nat) (v : Value) (s : ByteArray) : Prop :=
  (v = .slice none 0 0 ∧ s.size = 0) ∨ ∃ g o cap cur, v = .slice (some ⟨g, o, none⟩) s.size cap ∧ g ≠ p ∧ w.heap[g]? = some (.cells cur e (0, 0)) ∧ s.size ≤ cap ∧ cap ≤ maxLen ∧ cur.size = o + cap ∧ (cur.toList.drop o).take s.size = cellsOf s.data.toList

theorem OwnB.kept {w w' : World} {e : TypeId} {p : Nat} {v : Value} {s : ByteArray} (h : OwnB w e p v s) (hw : ∀ k, v.ownBlock = some k → w'.heap[k]? = w.heap[k]?) : OwnB w' e p v s := by
  rcases h with h | ⟨g, o, cap, cur, rfl, h1, h2, h3⟩
  · exact .inl h
  · exact .inr ⟨g, o, cap, cur, rfl, h1, (hw g rfl).trans h2, h3⟩

theorem empty_of_size {s : ByteArray} (h : s.size = 0) : s = { data := #[] } := by
  apply bytes_ext
  have := size_list s
  rw [h] at this
  simpa using List.eq_nil_of_length_eq_zero this

section
variable {P : Program} (w : World)

theorem run_append_room_at (t u ty e : TypeId) (i : TypeInfo) (ht : P.underlying t = some (.slice e)) (hu : P.underlying u = some .string) (hi : P.info? e = some i) (hs1 : i.size = 1)
    (g o sLen sCap : Nat) (cur : Array Value) (hg : w.heap[g]? = some (.cells cur e (0, 0))) (s : ByteArray)
    (hroom : sLen + s.size ≤ sCap) (hfit : o + sLen + s.size ≤ cur.size) :
    (Builtin.append_ #[t, u] ty #[.slice (some ⟨g, o, none⟩) sLen sCap, .string s]).run P w =
      .ok (.slice (some ⟨g, o, none⟩) (sLen + s.size) sCap) (w.setRow g (cur.toList.take (o + sLen) ++ strCells s ++ cur.toList.drop (o + sLen + s.size)).toArray) := by
  have hf := run_firstCells_string (P := P) w 1 s
  have hst := run_storeCells_at P g (o + sLen) e (strCells s) 0 cur w hg (by simpa [strCells_length] using hfit) (strCells_oneCell s)
  simp only [Nat.add_zero, strCells_length] at hst
  have hadd : (⟨g, o, none⟩ : Addr).add sLen = ⟨g, o + sLen, none⟩ := by unfold Addr.add; split <;> simp_all
  simp [Builtin.append_, run_underlying ht, run_underlying hu, sizeOf, typeInfo, hi, hs1, Builtin.lenOf, hroom, hf, hadd, hst]

theorem run_feed (t u ty e : TypeId) (i : TypeInfo) (ht : P.underlying t = some (.slice e)) (hu : P.underlying u = some .string) (hi : P.info? e = some i) (hz : i.zero = some (.int .u8 0)) (hsize : i.size = 1) (hby : i.bytes = 1)
    (p : Nat) (hp : p < w.heap.size) (v : Value) (s x : ByteArray) (hv : OwnB w e p v s) (hx : x.size ≤ 140737488355328) (hb : s.size + x.size ≤ 200000000000000) :
    ∃ v' w', (Builtin.append_ #[t, u] ty #[v, .string x]).run P w = .ok v' w' ∧ OwnB w' e p v' (s ++ x) ∧ w.grownBy w' v.ownBlock ∧ (∀ k, v'.ownBlock = some k → v.ownBlock = some k ∨ w.heap.size ≤ k) := by
  have hm : s.size + x.size ≤ maxLen := by unfold maxLen; omega
  rcases hv with ⟨rfl, h0⟩ | ⟨g, o, cap, cur, rfl, hgp, hg, hc, hcm, hcs, hr⟩
  · obtain ⟨v', w', hrun, hown, hgr, _⟩ := run_append_own_string (P := P) w w.heap.size t u ty e i ht hu hi hz hsize hby (.slice none 0 0) 0 [] (World.ownsRow_nil _ _ _ _) x (by omega) (by omega) (Nat.le_refl _)
    have hsx : s ++ x = x := by rw [empty_of_size h0]; apply bytes_ext; rw [append_list]; rfl
    refine ⟨v', w', hrun, ?_, hgr, fun k hk => .inr (hown.lt k hk).1⟩
    rw [hsx]
    obtain ⟨hl, hcase⟩ := hown
    rcases hcase with ⟨rfl, hn⟩ | ⟨g, cap, cur, rfl, hb', hg, hn, hcm, hcs, htake⟩
    · exact .inl ⟨rfl, by omega⟩
    · refine .inr ⟨g, 0, cap, cur, by rw [Nat.zero_add], by omega, hg, by omega, hcm, by omega, ?_⟩
      simp only [Nat.mul_one, Nat.zero_add, List.nil_append] at htake
      rw [List.drop_zero, htake, strCells_eq']
  · have hlen : (cellsOf s.data.toList).length = s.size := by rw [cellsOf_length, size_list]
    have hsz : (s ++ x).size = s.size + x.size := append_size s x
    have hcl : cellsOf (s ++ x).data.toList = cellsOf s.data.toList ++ strCells x := by rw [append_list, cellsOf_append, strCells_eq']
    by_cases hroom : s.size + x.size ≤ cap
    · have hrun := run_append_room_at (P := P) w t u ty e i ht hu hi hsize g o s.size cap cur hg x hroom (by omega)
      refine ⟨_, _, hrun, .inr ⟨g, o, cap, _, by rw [hsz], hgp, setRow_heap w g cur _ e _ hg, by omega, hcm, ?_, ?_⟩, ⟨rfl, rfl, rfl, by simp, fun k _ hk => setRow_other w g k _ (fun e => hk (by simp [Value.ownBlock, e]))⟩, fun k hk => .inl hk⟩
      · simp only [List.size_toArray, List.length_append, List.length_take, List.length_drop, Array.length_toList, strCells_length]
        omega
      · rw [hsz, hcl]
        show ((cur.toList.take (o + s.size) ++ strCells x ++ cur.toList.drop (o + s.size + x.size)).drop o).take (s.size + x.size) = _
        have hl2 : (cur.toList.take (o + s.size)).length = o + s.size := by rw [List.length_take, Array.length_toList]; omega
        rw [List.append_assoc, List.drop_append_of_le_length (by omega), List.drop_take, show o + s.size - o = s.size by omega, hr, ← List.append_assoc]
        have e3 : (cellsOf s.data.toList ++ strCells x).length = s.size + x.size := by rw [List.length_append, hlen, strCells_length]
        rw [← e3, List.take_left]
    · have holds : ∀ j u, (cellsOf s.data.toList)[j]? = some u → w.cell? ((⟨g, o, none⟩ : Addr).add j) = some u := by
        intro j u hu
        have hadd : (⟨g, o, none⟩ : Addr).add j = ⟨g, o + j, none⟩ := by unfold Addr.add; split <;> simp_all
        rw [hadd, cell_of_row w g (o + j) cur e (0, 0) hg]
        rw [← hr, List.getElem?_take] at hu
        split at hu
        · rw [List.getElem?_drop] at hu; simpa using hu
        · cases hu
      have hrun := run_append_grow_string (P := P) w t u ty e i (.int .u8 0) ht hu hi hz ⟨g, o, none⟩ s.size cap (cellsOf s.data.toList) (by rw [hsize, hlen]; omega) holds x (by omega) (by omega) (by rw [hby]; exact Go.growslice_fits_wide (by omega) (by omega))
      refine ⟨_, _, hrun, .inr ⟨w.heap.size, 0, _, _, by rw [hsz], by omega, heap_alloc_new w.drew _, ?_, grownCap_le_maxLen w _ _ _ hm, ?_, ?_⟩, ⟨rfl, rfl, rfl, by simp, fun k hk _ => heap_alloc_old w.drew _ hk⟩, fun k hk => .inr (by simp [Value.ownBlock] at hk; omega)⟩
      · rw [hsz]; exact grownCap_ge w _ _ _
      · have hz1 : (Value.int IntKind.u8 0).cells.size = 1 := rfl
        have hge := grownCap_ge w (s.size + x.size) cap e
        simp only [Array.size_append, List.size_toArray, size_zeroCells, hz1, hlen, strCells_length]
        omega
      · rw [hsz, hcl, List.drop_zero]
        simp only [Array.toList_append, List.append_assoc]
        have e3 : (cellsOf s.data.toList ++ strCells x).length = s.size + x.size := by rw [List.length_append, hlen, strCells_length]
        rw [← List.append_assoc, ← e3, List.take_left]
end
end Go.Proofs.Ytjohgfcfnlilmaa
