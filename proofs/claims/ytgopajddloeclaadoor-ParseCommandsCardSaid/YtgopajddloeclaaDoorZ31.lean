/- Contracts and mathematics: QSScan, QSSplitM. -/
import Derived.Test.YtgopajddloeclaaDoorZ30
import Derived.Test.YtgopajddloeclaaDoorZ12
import Derived.Test.YtgopajddloeclaaDoorZ23
namespace Go.Proofs.YtgopajddloeclaaDoor
open Go.RowKit Go.Lib Go.WideShapes

theorem info_reftok : (Tryd.prog.info? 66).map (fun i => (i.zero, i.size, i.bytes)) = some (some (.agg #[.int .u8 0, .string { data := #[] }, .int .i64 0, .int .i64 0]), 4, 40) := by kernel_rfl
/-- What the document's Scan leaves. -/
def RRead (w : World) (R : List Tok × Int) (e : Ending) (w' : World) : Prop := ∃ v, e = .returned (.tuple #[v, .int .i64 R.2]) ∧ w'.ownsRow w.heap.size 66 4 v R.1.length (tokC R.1) ∧ Below w.heap.size w w'
theorem rread_nil {w w' : World} {R : List Tok × Int} {z : Int} (h : R = ([], z)) (hb : Below w.heap.size w w') : RRead w R (.returned (.tuple #[.slice none 0 0, .int .i64 z])) w' := by
  subst h
  exact ⟨_, rfl, ⟨rfl, .inl ⟨rfl, rfl⟩⟩, hb⟩
/-- Where the scanner stands: i, with the tokens so far. -/
def ScanTo (s : ByteArray) (z : Int) (acc : List Tok) : Prop := (z = -1 ∧ tokens (bytes s) = none) ∨ ∃ j f : Nat, z = j ∧ j ≤ s.size ∧ s.size - j ≤ f ∧ acc.length ≤ j ∧ tokens (bytes s) = (tk f s.size ((bytes s).drop j)).map (acc ++ ·)
theorem scan_skip {s : ByteArray} {acc : List Tok} {j f : Nat} (hj : j ≤ s.size) (hf : s.size - j ≤ f) (ha : acc.length ≤ j) (h : tokens (bytes s) = ((sk ((bytes s).drop j) 0).bind (tk f s.size)).map (acc ++ ·)) : ScanTo s (resI s.size (sk ((bytes s).drop j) 0)) acc := by
  cases hs : sk ((bytes s).drop j) 0 with
  | none => rw [hs] at h; exact .inl ⟨rfl, h⟩
  | some r =>
    rw [hs] at h
    obtain ⟨d, hd, hl⟩ := sk_sub _ _ hs
    rw [List.length_drop, bytes_len] at hl
    rw [List.drop_drop] at hd
    refine .inr ⟨j + d, f, ?_, by omega, by omega, by omega, by rw [← hd]; exact h⟩
    rw [hd, res_drop (by omega)]
set_option maxRecDepth 100000 in
set_option maxHeartbeats 16000000 in
theorem qscan_any (s : ByteArray) (w : World) (h9 : s.size ≤ 9223372036854775807) :
    Calls Tryd.prog 39 #[.string s] w (RRead w (told (bytes s))) := by
  obtain ⟨i0, hi, y0, y1, y2⟩ := info_parts info_reftok
  obtain ⟨R, hR⟩ : ∃ R, R = told (bytes s) := ⟨_, rfl⟩
  have HR := Lib.hid hR
  rw [← hR]
  clear hR
  go_enter Tryd.func39, Tryd.ntmps39
  by_cases hlong : 2000 < s.size
  · have hl' : (2000 : Int) < s.size := by omega
    have HN := Lib.hid (show R = ([], 3) from by rw [HR.out]; exact if_pos (by rw [bytes_len]; exact hlong))
    go_wp2_with fail
    go_ret2
    exact rread_nil HN.out (Below.refl _ _)
  have hl' : ¬ (2000 : Int) < s.size := by omega
  have hs2 : s.size ≤ 2000 := by omega
  have HRT := Lib.hid (show R = match tokens (bytes s) with
    | some ts => (ts, 0)
    | none => ([], 2) from by rw [HR.out]; exact if_neg (by rw [bytes_len]; omega))
  clear hlong
  go_wp2_with fail
  go_loopw [5] (fun iv wr => ∃ k : Nat, iv = .int .i64 k ∧ k ≤ s.size ∧ (0 : UInt8) ∉ (bytes s).take k ∧ wr = w) (fun iv _ => s.size - (RowKit.intOf iv).toNat)
  case atStart => exact ⟨0, rfl, Nat.zero_le _, by simp, rfl⟩
  case round =>
    obtain ⟨k, rfl, hk, hz, hwr⟩ := hrel
    have hwr' := hwr.symm
    clear hwr
    subst hwr'
    have HZ := Lib.hid hz
    clear hz
    by_cases hlt : k < s.size
    · have hlt' : (k : Int) < s.size := by omega
      by_cases h0 : s[k] = 0
      · have t1 : ((s[k].toNat : Int) == 0) = true := by rw [h0]; rfl
        have HN := Lib.hid (show R = ([], 2) from by
          have hm : (0 : UInt8) ∈ bytes s := List.mem_of_getElem? ((get_atQ hlt).trans (congrArg some h0))
          have ht : tokens (bytes s) = none := if_pos hm
          rw [HRT.out, ht])
        clear h0
        go_wp2_with fail
        go_ret2
        exact rread_nil HN.out (Below.refl _ _)
      · have t1 : ((s[k].toNat : Int) == 0) = false := by rw [beq_eq_false_iff_ne]; intro e; exact h0 (UInt8.toNat_inj.1 (by show s[k].toNat = 0; omega))
        have HO := Lib.hid (show (0 : UInt8) ∉ (bytes s).take (k + 1) from by
          rw [List.take_add_one, get_atQ hlt]
          intro h
          rcases List.mem_append.1 h with h | h
          · exact HZ.out h
          · exact h0 (by simpa [eq_comm] using h))
        clear h0
        go_wp2_with fail
        go_roundw
        case measure => first | omega | (simp [RowKit.intOf]; omega)
        case rel => exact ⟨k + 1, by go_num, by omega, HO.out, by first | rfl | trivial⟩
    · have hge : ¬ (k : Int) < s.size := by omega
      have HNZ := Lib.hid (show (0 : UInt8) ∉ bytes s from by
        have := HZ.out
        rwa [List.take_of_length_le (by rw [bytes_len]; omega)] at this)
      have HTT := Lib.hid (show tokens (bytes s) = (sk (bytes s) 0).bind (tk s.size s.size) from by
        have h1 : tokens (bytes s) = toks ((bytes s).length + 1) (bytes s).length (bytes s) := if_neg HNZ.out
        rw [h1, toks_tk, bytes_len])
      have HSK := Lib.hid (show Calls Tryd.prog 67 #[.string s, .int .i64 0] w fun e w' => e = .returned (.int .i64 (resI s.size (sk (bytes s) 0))) ∧ w = w' from qskip_any s 0 w (by omega) (Nat.zero_le _))
      have HST := Lib.hid (show ScanTo s (resI s.size (sk (bytes s) 0)) [] from scan_skip (j := 0) (f := s.size) (Nat.zero_le _) (by omega) (by simp) (by
        rw [HTT.out]
        show _ = Option.map (fun x => [] ++ x) ((sk (bytes s) 0).bind (tk s.size s.size))
        cases (sk (bytes s) 0).bind (tk s.size s.size) <;> rfl))
      clear hlt
      go_wp2_with fail
      refine HSK.out.mono ?_; rintro e w1 ⟨rfl, rfl⟩
      generalize resI s.size (sk (bytes s) 0) = z0 at HST ⊢
      clear HSK
      go_wp2_with fail
      go_loopw [4, 6] (fun ov iv wx => ∃ (z : Int) (acc : List Tok), iv = .int .i64 z ∧ wx.ownsRow w.heap.size 66 4 ov acc.length (tokC acc) ∧ Below w.heap.size w wx ∧ ScanTo s z acc) (fun _ iv _ => if RowKit.intOf iv < 0 then 0 else s.size + 1 - (RowKit.intOf iv).toNat)
      case atStart => exact ⟨z0, [], rfl, ⟨rfl, .inl ⟨rfl, rfl⟩⟩, Below.refl _ _, HST.out⟩
      case round =>
        obtain ⟨z, acc, rfl, hO, hB, hS⟩ := hrel
        have HO := Lib.hid hO; have HB := Lib.hid hB
        obtain ⟨oa, oc, rfl⟩ := ownsRow_form hO
        clear hO hB
        rcases hS with ⟨rfl, hno⟩ | ⟨j, f, rfl, hj, hf, hacc, htk⟩
        · have HN := Lib.hid (show R = ([], 2) from by rw [HRT.out, hno])
          clear hno
          go_wp2_with fail
          go_ret2
          exact rread_nil HN.out HB.out
        · have HTK := Lib.hid htk
          clear htk
          have hj0 : (0 : Int) ≤ j := by omega
          have hjn : ¬ (j : Int) < 0 := by omega
          by_cases hjs : j < s.size
          · have hjs' : (j : Int) < s.size := by omega
            have HNX := Lib.hid (qnext_any s j wr (by omega) hjs)
            cases htok : token ((bytes s).drop j) with
            | none =>
              have HN := Lib.hid (show R = ([], 2) from by
                rw [HRT.out, HTK.out, tk_none hjs htok]; rfl)
              rw [htok] at HNX
              clear htok
              go_wp2_with fail
              refine HNX.out.mono ?_; rintro e w3 ⟨hb3, kk, tt, zz, rfl, hzz⟩
              have HB3 := Lib.hid (HB.out.step hb3 HB.out.size)
              clear hb3
              go_wp2_with fail
              go_ret2
              exact rread_nil HN.out (HB3.out.alloc HB3.out.size _)
            | some q =>
              obtain ⟨kk, tt, rr⟩ := q
              obtain ⟨d, hd1, hdr, hdl⟩ := token_sub htok
              rw [List.length_drop, bytes_len] at hdl
              rw [List.drop_drop] at hdr
              obtain ⟨to', hto⟩ : ∃ x, x = j + d := ⟨_, rfl⟩
              have hrl : s.size - rr.length = to' := by rw [hdr, List.length_drop, bytes_len]; omega
              rw [htok] at HNX
              obtain ⟨f', hf'⟩ : ∃ f', f = f' + 1 := ⟨f - 1, by omega⟩
              subst hf'
              have HT2 := Lib.hid (show tokens (bytes s) = ((sk ((bytes s).drop to') 0).bind (tk f' s.size)).map ((acc ++ [⟨kk, tt, j, to'⟩]) ++ ·) from by
                rw [HTK.out, tk_step hjs htok, Option.map_map, hrl, hto, ← hdr]
                congr 1
                funext x
                simp)
              have HSC := Lib.hid (scan_skip (acc := acc ++ [⟨kk, tt, j, to'⟩]) (f := f') (show to' ≤ s.size by omega) (by omega) (by rw [List.length_append, List.length_singleton]; omega) HT2.out)
              have HNV := Lib.hid (show ∀ e w', NextOut s.size j wr (some (kk, tt, rr)) e w' → e = .returned (.agg #[.int .u8 (kk.toNat : Nat), .string ⟨tt.toArray⟩, .int .i64 j, .int .i64 (to' : Int)]) ∧ Below wr.heap.size wr w' from fun e w' h => ⟨by rw [← hrl]; exact h.2, h.1⟩)
              have HTL := Lib.hid (show to' ≤ s.size ∧ j < to' ∧ acc.length ≤ s.size from by omega)
              clear htok hd1 hdr hdl hrl hto
              have hto0 : ¬ (to' : Int) < 0 := by omega
              obtain ⟨kc, hkc⟩ : ∃ x : Nat, x = kk.toNat := ⟨_, rfl⟩
              obtain ⟨tb, htb⟩ : ∃ x : ByteArray, x = ⟨tt.toArray⟩ := ⟨_, rfl⟩
              rw [← hkc, ← htb] at HNV
              have HTC := Lib.hid (show tokC (acc ++ [⟨kk, tt, j, to'⟩]) = tokC acc ++ [.int .u8 (kc : Nat), .string tb, .int .i64 j, .int .i64 (to' : Int)] from by rw [tokC_snoc, hkc, htb])
              clear hkc htb
              go_wp2_with fail
              refine HNX.out.mono ?_; intro e w3 hno
              obtain ⟨rfl, hb3⟩ := HNV.out e w3 hno
              clear hno
              obtain ⟨w4, hw4⟩ : ∃ x, x = w3.alloc (.cells #[.int .u8 (kc : Nat), .string tb, .int .i64 j, .int .i64 (to' : Int)] 66) := ⟨_, rfl⟩
              have HW4 := Lib.hid hw4
              have hb34 : Below wr.heap.size wr w4 := by rw [hw4]; exact hb3.alloc hb3.size _
              have HB4 := Lib.hid hb34
              have HBB4 := Lib.hid (HB.out.step hb34 HB.out.size)
              have HO4 := Lib.hid (own_grown HO.out hb34 (Nat.le_refl _))
              have hc4 : w4.cell? ⟨w3.heap.size, 0, none⟩ = some (.int .u8 (kc : Nat)) ∧ w4.cell? ⟨w3.heap.size, 1, none⟩ = some (.string tb) ∧ w4.cell? ⟨w3.heap.size, 2, none⟩ = some (.int .i64 j) ∧ w4.cell? ⟨w3.heap.size, 3, none⟩ = some (.int .i64 (to' : Int)) := by rw [hw4]; exact ⟨World.cell?_alloc_new _ _ _ _, World.cell?_alloc_new _ _ _ _, World.cell?_alloc_new _ _ _ _, World.cell?_alloc_new _ _ _ _⟩
              obtain ⟨c0, c1, c2, c3⟩ := hc4
              have hz34 : w3.heap.size < w4.heap.size := by rw [hw4]; simp
              have hz13 := hb3.size
              have hacl : acc.length ≤ 2000 := by have := HTL.out; omega
              clear hw4 hb3 hb34 hacc
              go_upto_region 12 with (fail)
              rw [← HW4.out]
              go_wp2_with (at_builtin; refine wpList_append_at _ rfl (.tmp 37) (.tmp 39) 39 rfl w.heap.size 66 i0 (.agg #[.int .u8 0, .string { data := #[] }, .int .i64 0, .int .i64 0]) 4 40 Tryd.underlying39 hi y0 y1 y2 rfl (by decide) (.slice oa acc.length oc) acc.length (tokC acc) rfl (HO4.out.alloc _) ⟨w4.heap.size, 0, none⟩ 1 1 [.int .u8 (kc : Nat), .string tb, .int .i64 j, .int .i64 (to' : Int)] rfl rfl (fun j u h => by rw [Go.WideShapes.add_plain, Nat.zero_add, ← h]; exact (World.cell?_alloc_new w4 _ _ j).trans (by simp)) (by intro u hu; simp at hu; rcases hu with rfl | rfl | rfl | rfl <;> rfl) (by unfold maxLen; omega) (by omega) (by rw [World.size_alloc]; have := HBB4.out.size; omega) ?_)
              intro v5 w5 hO5 hg5 _
              have hB78 : Below w4.heap.size w4 (w4.alloc (.cells #[.int .u8 (kc : Nat), .string tb, .int .i64 j, .int .i64 (to' : Int)] 66)) := (Below.refl _ _).alloc (Nat.le_refl _) _
              have hrow : ∀ k, (Value.slice oa acc.length oc).ownBlock = some k → w.heap.size ≤ k ∧ k < wr.heap.size := fun k hk => HO.out.lt k hk
              have HB5 := Lib.hid (show Below w.heap.size w w5 from below_grown (HBB4.out.alloc HBB4.out.size _) (by rw [World.size_alloc]; have := HBB4.out.size; omega) hg5 (fun k hk => (hrow k hk).1))
              have c3 : w5.cell? ⟨w3.heap.size, 3, none⟩ = some (.int .i64 (to' : Int)) := (World.cell?_of_block (a := ⟨w3.heap.size, 3, none⟩) ((hg5.block w3.heap.size (by rw [World.size_alloc]; omega) (fun e => by have := (hrow _ e.symm).2; omega)).trans (hB78.block w3.heap.size hz34))).trans c3
              have HO5 := Lib.hid (show w5.ownsRow w.heap.size 66 4 v5 (acc ++ [(⟨kk, tt, j, to'⟩ : Tok)]).length (tokC (acc ++ [⟨kk, tt, j, to'⟩])) from by rw [HTC.out, List.length_append, List.length_singleton]; exact hO5)
              have HS5 := Lib.hid (qskip_any s to' w5 (by omega) HTL.out.1)
              have hto1 : (to' : Int) ≤ s.size := by have := HTL.out; omega
              obtain ⟨z2, hz2⟩ : ∃ x, x = resI s.size (sk ((bytes s).drop to') 0) := ⟨_, rfl⟩
              have HLE := Lib.hid (show ∀ j2 : Nat, z2 = (j2 : Int) → to' ≤ j2 from fun j2 h => by
                rw [hz2] at h
                have h9 := HTL.out.1
                cases hs : sk ((bytes s).drop to') 0 with
                | none => rw [hs] at h; exact absurd h (show ¬ (-1 : Int) = j2 by omega)
                | some r =>
                  obtain ⟨d2, hd2, hl2⟩ := sk_sub _ _ hs
                  rw [List.length_drop, bytes_len] at hl2
                  rw [hs, hd2, List.drop_drop, res_drop (by omega)] at h
                  omega)
              rw [← hz2] at HSC HS5
              clear hz2
              clear hB78 hO5 hg5 hrow c0 c1 c2
              go_wp2_with fail
              refine HS5.out.mono ?_; rintro e w6 ⟨rfl, rfl⟩
              go_wp2_with fail
              go_roundw
              case measure =>
                have h1 := HTL.out
                rcases HSC.out with ⟨h2, _⟩ | ⟨j2, f2, h2, h3, h4, h5, _⟩
                · subst h2
                  show (if (-1 : Int) < 0 then 0 else s.size + 1 - (-1 : Int).toNat) < (if (j : Int) < 0 then 0 else s.size + 1 - (j : Int).toNat)
                  rw [if_pos (by decide), if_neg (by omega)]
                  omega
                · subst h2
                  have h6 : to' ≤ j2 := HLE.out j2 rfl
                  show (if (j2 : Int) < 0 then 0 else s.size + 1 - (j2 : Int).toNat) < (if (j : Int) < 0 then 0 else s.size + 1 - (j : Int).toNat)
                  rw [if_neg (by omega), if_neg (by omega)]
                  omega
              case rel => exact ⟨z2, _, rfl, HO5.out, HB5.out, HSC.out⟩
          · have hge2 : ¬ (j : Int) < s.size := by omega
            have hje : j = s.size := by omega
            have HN := Lib.hid (show R = (acc, 0) from by
              rw [HRT.out, HTK.out, hje, tk_end]
              simp)
            clear hje
            go_wp2_with fail
            go_ret2
            rw [HN.out]
            exact ⟨_, rfl, HO.out, HB.out⟩
end Go.Proofs.YtgopajddloeclaaDoor

namespace Go.Proofs.YtgopajddloeclaaDoor
open Go.RowKit Go.Lib Go.WideShapes

theorem info_refst : (Tryd.prog.info? 63).map (fun i => (i.zero, i.size, i.bytes)) = some (some (.agg #[.slice none 0 0, .int .i64 0, .int .i64 0]), 3, 40) := by kernel_rfl
theorem tok_ne_st : 66 ≠ 63 := by decide
theorem rows_apart9 {w : World} {b1 b2 k1 k2 : Nat} {e1 e2 : TypeId} {v1 v2 : Value} {n1 n2 : Nat} {xs1 xs2 : List Value} (h1 : w.ownsRow b1 e1 k1 v1 n1 xs1) (h2 : w.ownsRow b2 e2 k2 v2 n2 xs2) (hne : e1 ≠ e2) : v2.ownBlock = none ∨ v2.ownBlock ≠ v1.ownBlock := by
  rcases h2.2 with ⟨hv, _⟩ | ⟨g, cap, cur, hv, _, hg, _⟩
  · left; rw [hv]; rfl
  · right
    rcases h1.2 with ⟨hv1, _⟩ | ⟨g1, cap1, cur1, hv1, _, hg1, _⟩
    · rw [hv, hv1]; intro e; cases e
    · rw [hv, hv1]
      intro e
      have e' : g = g1 := Option.some.inj e
      subst e'
      rw [hg] at hg1
      injection hg1 with hg1
      injection hg1 with _ ht _
      exact hne ht.symm
/-- The first statement's tokens. -/
def FirstSt (b : Nat) (w : World) (rv : Value) (D : List (List Tok)) (xs : List Value) : Prop := ∀ x, D[0]? = some x → ∃ g c, xs[0]? = some (.slice (some ⟨g, 0, none⟩) x.length c) ∧ w.ownsRow b 66 4 (.slice (some ⟨g, 0, none⟩) x.length c) x.length (tokC x) ∧ rv.ownBlock ≠ some g
structure SplAt (w1 wr : World) (ov rv : Value) (D : List (List Tok)) (cur : List Tok) : Prop where
  below : Below w1.heap.size w1 wr
  out : ∃ xs, wr.ownsRow w1.heap.size 63 3 ov D.length xs ∧ FirstSt w1.heap.size wr rv D xs
  row : wr.ownsRow w1.heap.size 66 4 rv cur.length (tokC cur)
theorem SplAt.on {w1 wr w5 : World} {ov rv v' : Value} {D : List (List Tok)} {cur : List Tok} {t : Tok} {o : Obj} (h : SplAt w1 wr ov rv D cur) (hO : w5.ownsRow w1.heap.size 66 4 v' (cur.length + 1) (tokC (cur ++ [t]))) (hg : (wr.alloc o).grownBy w5 rv.ownBlock) (hf : ∀ k, v'.ownBlock = some k → rv.ownBlock = some k ∨ (wr.alloc o).heap.size ≤ k) : SplAt w1 w5 ov v' D (cur ++ [t]) := by
  obtain ⟨xs, h1, h2⟩ := h.out
  refine ⟨below_grown (h.below.alloc h.below.size _) (by rw [World.size_alloc]; exact Nat.le_succ_of_le h.below.size) hg (fun k hk => (h.row.lt k hk).1), ⟨xs, (h1.alloc o).kept hg (rows_apart9 (h.row.alloc o) (h1.alloc o) tok_ne_st), fun x hx => ?_⟩, by rw [List.length_append, List.length_singleton]; exact hO⟩
  obtain ⟨g, c, a1, a2, a3⟩ := h2 x hx
  refine ⟨g, c, a1, (a2.alloc o).kept hg (.inr (fun e => a3 e.symm)), fun e => ?_⟩
  rcases hf g e with hh | hh
  · exact a3 hh
  · have := (a2.lt g rfl).2
    rw [World.size_alloc] at hh
    omega
theorem SplAt.shut {w1 wr W w5 : World} {oa : Option Addr} {oc : Nat} {ra : Option Addr} {rc : Nat} {v' x1 x2 : Value} {D : List (List Tok)} {cur : List Tok} {xs : List Value} (h0 : cur ≠ []) (h : SplAt w1 wr (.slice oa D.length oc) (.slice ra cur.length rc) D cur) (h1 : wr.ownsRow w1.heap.size 63 3 (.slice oa D.length oc) D.length xs) (h2 : FirstSt w1.heap.size wr (.slice ra cur.length rc) D xs) (hW : Below wr.heap.size wr W) (hO : w5.ownsRow w1.heap.size 63 3 v' (D.length + 1) (xs ++ [.slice ra cur.length rc, x1, x2])) (hg : W.grownBy w5 (Value.slice oa D.length oc).ownBlock) : SplAt w1 w5 v' (.slice none 0 0) (D ++ [cur]) [] := by
  have g1 := own_grown h1 hW (Nat.le_refl _)
  have hrow : w5.ownsRow w1.heap.size 66 4 (.slice ra cur.length rc) cur.length (tokC cur) := (own_grown h.row hW (Nat.le_refl _)).kept hg (rows_apart9 g1 (own_grown h.row hW (Nat.le_refl _)) tok_ne_st.symm)
  refine ⟨below_grown (h.below.trans (hW.mono h.below.size)) (Nat.le_trans h.below.size hW.size) hg (fun k hk => (h1.lt k hk).1), ⟨_, by rw [List.length_append, List.length_singleton]; exact hO, fun x hx => ?_⟩, ⟨rfl, .inl ⟨rfl, rfl⟩⟩⟩
  cases D with
  | nil =>
    obtain rfl : cur = x := Option.some.inj hx
    have hxs : xs = [] := List.length_eq_zero_iff.1 (by rw [h1.1]; rfl)
    rcases hrow.2 with ⟨hv, hz⟩ | ⟨g, cap, cu, hv, _⟩
    · exact absurd (List.length_eq_zero_iff.1 hz) h0
    · simp only [Value.slice.injEq] at hv
      obtain ⟨rfl, _, rfl⟩ := hv
      exact ⟨g, _, by rw [hxs]; rfl, hrow, by simp [Value.ownBlock]⟩
  | cons d ds =>
    obtain ⟨g, c, a1, a2, a3⟩ := h2 x hx
    have a2' := own_grown a2 hW (Nat.le_refl _)
    exact ⟨g, c, by rw [List.getElem?_append_left (by have := (List.getElem?_eq_some_iff.1 a1).1; exact this)]; exact a1, a2'.kept hg (rows_apart9 g1 a2' tok_ne_st.symm), by simp [Value.ownBlock]⟩
theorem own_base9 {w : World} {b b' n k : Nat} {e : TypeId} {v : Value} {xs : List Value} (h : w.ownsRow b e k v n xs) (hb : b' ≤ b) : w.ownsRow b' e k v n xs := by
  refine ⟨h.1, h.2.imp id ?_⟩
  rintro ⟨g, cap, cur, h1, h2, h3⟩
  exact ⟨g, cap, cur, h1, Nat.le_trans hb h2, h3⟩
theorem SplAt.none9 {w1 wr : World} {ov rv : Value} {D : List (List Tok)} {cur : List Tok} (h : SplAt w1 wr ov rv D cur) : SplAt w1 wr ov (.slice none 0 0) D [] := by
  obtain ⟨xs, h1, h2⟩ := h.out
  refine ⟨h.below, ⟨xs, h1, fun x hx => ?_⟩, ⟨rfl, .inl ⟨rfl, rfl⟩⟩⟩
  obtain ⟨g, c, a1, a2, a3⟩ := h2 x hx
  exact ⟨g, c, a1, a2, by simp [Value.ownBlock]⟩
/-- What Split leaves. -/
def RSplit (w : World) (R : List Tok × Int) (e : Ending) (w' : World) : Prop := Below w.heap.size w w' ∧ ((R.2 ≠ 0 ∧ e = .returned (.tuple #[.slice none 0 0, .int .i64 R.2])) ∨ (R.2 = 0 ∧ ∃ ov xs, e = .returned (.tuple #[ov, .int .i64 0]) ∧ w'.ownsRow w.heap.size 63 3 ov (splits R.1).length xs ∧ FirstSt w.heap.size w' (.slice none 0 0) (splits R.1) xs))
end Go.Proofs.YtgopajddloeclaaDoor
