/- Contracts and mathematics: QSSplit, QRRest. -/
import Derived.Test.YtgopajddloeclaaDoorZ31
import Derived.Test.YtgopajddloeclaaDoorZ13
namespace Go.Proofs.YtgopajddloeclaaDoor
open Go.RowKit Go.Lib Go.WideShapes

theorem toks_length9 : ∀ (f n : Nat) (l : Bs) (L : List Tok), toks f n l = some L → L.length ≤ l.length
  | 0, _, _, _, h => by cases h
  | f + 1, n, l, L, h => by
    rw [toks_tk] at h
    cases hs : sk l 0 with
    | none => rw [hs] at h; cases h
    | some r =>
      rw [hs] at h
      obtain ⟨d, hd, hl⟩ := sk_sub _ _ hs
      have h2 : tk f n r = some L := h
      have hrl : r.length ≤ l.length := by rw [hd, List.length_drop]; omega
      cases r with
      | nil => cases h2; exact Nat.zero_le _
      | cons a r' =>
        have h2' : (match token (a :: r') with
          | none => none
          | some (k, t, q) => (toks f n q).map (⟨k, t, n - (a :: r').length, n - q.length⟩ :: ·)) = some L := h2
        cases ht : token (a :: r') with
        | none => rw [ht] at h2'; cases h2'
        | some q =>
          obtain ⟨k, t, q⟩ := q
          rw [ht] at h2'
          have h3 : (toks f n q).map (⟨k, t, n - (a :: r').length, n - q.length⟩ :: ·) = some L := h2'
          cases hq : toks f n q with
          | none => rw [hq] at h3; cases h3
          | some M =>
            rw [hq] at h3
            cases h3
            have h4 := toks_length9 f n q M hq
            obtain ⟨e, he1, he2, he3⟩ := token_sub ht
            have h5 : q.length + e = (a :: r').length := by rw [he2, List.length_drop]; omega
            show M.length + 1 ≤ _
            omega
theorem tokens_length9 {l : Bs} {T : List Tok} (h : tokens l = some T) : T.length ≤ l.length := by
  unfold tokens at h
  split at h
  · cases h
  · exact toks_length9 _ _ _ _ h
theorem tok_cells9 {w : World} {b g c n : Nat} {T : List Tok} {i : Nat} {t : Tok} (h : w.ownsRow b 66 4 (.slice (some ⟨g, 0, none⟩) n c) T.length (tokC T)) (ht : T[i]? = some t) : w.cell? ⟨g, i * 4, none⟩ = some (.int .u8 (t.kind.toNat : Nat)) ∧ w.cell? ⟨g, i * 4 + 1, none⟩ = some (.string ⟨t.text.toArray⟩) ∧ w.cell? ⟨g, i * 4 + 2, none⟩ = some (.int .i64 (t.lo : Nat)) ∧ w.cell? ⟨g, i * 4 + 3, none⟩ = some (.int .i64 (t.hi : Nat)) := by
  have hc := h.cells (g := g) rfl
  have hat : ∀ (L : List Tok) (i : Nat), L[i]? = some t → (tokC L)[i * 4]? = some (.int .u8 (t.kind.toNat : Nat)) ∧ (tokC L)[i * 4 + 1]? = some (.string ⟨t.text.toArray⟩) ∧ (tokC L)[i * 4 + 2]? = some (.int .i64 (t.lo : Nat)) ∧ (tokC L)[i * 4 + 3]? = some (.int .i64 (t.hi : Nat)) := by
    intro L
    induction L with
    | nil => intro i h; cases h
    | cons a r ih =>
      intro i h
      have e : tokC (a :: r) = [.int .u8 (a.kind.toNat : Nat), .string ⟨a.text.toArray⟩, .int .i64 a.lo, .int .i64 a.hi] ++ tokC r := rfl
      cases i with
      | zero =>
        obtain rfl : a = t := Option.some.inj h
        rw [e]; exact ⟨rfl, rfl, rfl, rfl⟩
      | succ i =>
        obtain ⟨h0, h1, h2, h3⟩ := ih i h
        rw [e]
        refine ⟨?_, ?_, ?_, ?_⟩
        · rw [List.getElem?_append_right (by simp; omega)]; rw [← h0]; congr 1; simp; omega
        · rw [List.getElem?_append_right (by simp; omega)]; rw [← h1]; congr 1; simp; omega
        · rw [List.getElem?_append_right (by simp; omega)]; rw [← h2]; congr 1; simp; omega
        · rw [List.getElem?_append_right (by simp; omega)]; rw [← h3]; congr 1; simp; omega
  obtain ⟨h0, h1, h2, h3⟩ := hat T i ht
  have a0 := hc _ _ h0
  have a1 := hc _ _ h1
  have a2 := hc _ _ h2
  have a3 := hc _ _ h3
  rw [Go.WideShapes.add_plain, Nat.zero_add] at a0 a1 a2 a3
  exact ⟨a0, a1, a2, a3⟩
theorem told_length (l : Bs) : (told l).1.length ≤ 2001 ∧ ((told l).2 ≠ 0 → (told l).2 = 2 ∨ (told l).2 = 3) := by
  unfold told
  by_cases h : 2000 < l.length
  · rw [if_pos h]; exact ⟨Nat.zero_le _, fun _ => .inr rfl⟩
  · rw [if_neg h]
    cases ht : tokens l with
    | none => exact ⟨Nat.zero_le _, fun _ => .inl rfl⟩
    | some T => exact ⟨by show T.length ≤ 2001; have := tokens_length9 ht; omega, fun h => absurd rfl h⟩
set_option maxRecDepth 100000 in
set_option maxHeartbeats 16000000 in
theorem qsplit_any (s : ByteArray) (w : World) (h9 : s.size ≤ 9223372036854775807) :
    Calls Tryd.prog 25 #[.string s] w (RSplit w (told (bytes s))) := by
  obtain ⟨i0, hi, y0, y1, y2⟩ := info_parts info_reftok
  obtain ⟨is, his, u0', u1', u2'⟩ := info_parts info_refst
  have HSC := Lib.hid (qscan_any s w h9)
  have hlen := (told_length (bytes s)).1
  obtain ⟨R, hR⟩ : ∃ R, R = told (bytes s) := ⟨_, rfl⟩
  rw [← hR] at HSC hlen ⊢
  clear hR
  obtain ⟨T, er⟩ := R
  have hlen : T.length ≤ 2001 := hlen
  go_enter Tryd.func25, Tryd.ntmps25
  go_wp2_with fail
  refine HSC.out.mono ?_; rintro e w1 ⟨tv, rfl, hO, hb⟩
  have HTO := Lib.hid (show w1.ownsRow w.heap.size 66 4 tv T.length (tokC T) from hO)
  have HB1 := Lib.hid hb
  obtain ⟨ta, tc, rfl⟩ := ownsRow_form HTO.out
  clear hO hb HSC
  by_cases her : er = 0
  · subst her
    go_wp2_with fail
    go_loopw [6, 7, 8] (fun ov rv iv wr => ∃ (i : Nat) (D : List (List Tok)) (cur : List Tok), iv = .int .i64 i ∧ i ≤ T.length + 1 ∧ D.length ≤ i ∧ cur.length ≤ i ∧ (T.length < i → cur = []) ∧ (∀ t ∈ cur, semi t = false) ∧ splits T = D ++ splits (cur ++ T.drop i) ∧ SplAt w1 wr ov rv D cur) (fun _ _ iv _ => T.length + 2 - (RowKit.intOf iv).toNat)
    case atStart => exact ⟨0, [], [], rfl, Nat.zero_le _, Nat.zero_le _, Nat.zero_le _, fun h => rfl, (fun t ht => (by cases ht)), rfl, ⟨Below.refl _ _, ⟨[], ⟨rfl, .inl ⟨rfl, rfl⟩⟩, (fun x hx => (by cases hx))⟩, ⟨rfl, .inl ⟨rfl, rfl⟩⟩⟩⟩
    case round =>
      obtain ⟨i, D, cur, rfl, hin, hDl, hcl, hend, hfree, hsp, hS⟩ := hrel
      have HS := Lib.hid hS; have HSP := Lib.hid hsp; have HFR := Lib.hid hfree
      obtain ⟨oa, oc, rfl⟩ : ∃ oa oc, u6 = .slice oa D.length oc := by obtain ⟨xs, h1, _⟩ := hS.out; exact ownsRow_form h1
      obtain ⟨ra, rc, rfl⟩ := ownsRow_form hS.row
      clear hS hsp hfree
      by_cases hle : i ≤ T.length
      · have hle' : (i : Int) ≤ T.length := by omega
        clear hend
        by_cases hlt : i < T.length
        · have hlt' : (i : Int) < T.length := by omega
          obtain ⟨t, ht⟩ : ∃ t, T[i]? = some t := ⟨_, List.getElem?_eq_getElem hlt⟩
          have hdr : T.drop i = t :: T.drop (i + 1) := by
            obtain ⟨h1, h2⟩ := List.getElem?_eq_some_iff.1 ht
            rw [List.drop_eq_getElem_cons h1, h2]
          have HDR := Lib.hid hdr
          rcases HTO.out.2 with ⟨hv, hz⟩ | ⟨g, cap, cu, hv, _, hgg, hcap, hcm, hcc, htake⟩
          · exfalso; have := List.length_eq_zero_iff.1 hz; rw [this] at hlt; cases hlt
          simp only [Value.slice.injEq] at hv
          obtain ⟨rfl, _, rfl⟩ := hv
          have HTA := Lib.hid (tok_cells9 HTO.out ht)
          obtain ⟨a0, a1, a2, a3⟩ := HTA.out
          have hgl : g < w1.heap.size := (Array.getElem?_eq_some_iff.1 hgg).1
          have a0 := (HS.out.below.cell (p := ⟨g, i * 4, none⟩) hgl).trans a0
          have a1 := (HS.out.below.cell (p := ⟨g, i * 4 + 1, none⟩) hgl).trans a1
          have a2 := (HS.out.below.cell (p := ⟨g, i * 4 + 2, none⟩) hgl).trans a2
          have a3 := (HS.out.below.cell (p := ⟨g, i * 4 + 3, none⟩) hgl).trans a3
          have hlc : T.length ≤ tc := hcap
          clear hgg hcap hcm hcc htake ht hdr
          obtain ⟨kc, hkc⟩ : ∃ x : Int, x = (t.kind.toNat : Nat) := ⟨_, rfl⟩
          obtain ⟨tb, htb⟩ : ∃ x : ByteArray, x = ⟨t.text.toArray⟩ := ⟨_, rfl⟩
          obtain ⟨lo, hlo⟩ : ∃ x : Int, x = (t.lo : Nat) := ⟨_, rfl⟩
          obtain ⟨hh, hhi⟩ : ∃ x : Int, x = (t.hi : Nat) := ⟨_, rfl⟩
          rw [← hkc] at a0
          rw [← htb] at a1
          rw [← hlo] at a2
          rw [← hhi] at a3
          have HTC := Lib.hid (show tokC (cur ++ [t]) = tokC cur ++ [.int .u8 kc, .string tb, .int .i64 lo, .int .i64 hh] from by rw [tokC_snoc, hkc, htb, hlo, hhi])
          have hk111 : (t.kind == 111) = (kc == 111) := by
            rw [hkc, Bool.eq_iff_iff]; simp [← UInt8.toNat_inj]; omega
          have ht59 : (t.text == [59]) = (tb.toList == [59]) := by rw [htb, Lib.toList_data]
          have hsm : semi t = ((kc == 111) && (tb.toList == [59])) := by unfold semi; rw [hk111, ht59]
          clear hkc htb hlo hhi hk111 ht59
          cases hs : semi t with
          | false =>
            have HO := Lib.hid (show splits T = D ++ splits ((cur ++ [t]) ++ T.drop (i + 1)) from by rw [HSP.out, HDR.out]; simp)
            have HF2 := Lib.hid (show ∀ q ∈ cur ++ [t], semi q = false from fun q hq => by
              rcases List.mem_append.1 hq with h | h
              · exact HFR.out q h
              · rw [List.mem_singleton.1 h]; exact hs)
            rw [hs] at hsm
            clear hs
            cases h1 : (kc == 111) with
            | false =>
              have q1 : (kc != 111) = true := by rw [bne, h1]; rfl
              clear hsm h1
              go_upto_region 10 with (fail)
              go_wp2_with (at_builtin; refine wpList_append_at _ rfl (.tmp 43) (.tmp 48) 39 rfl w1.heap.size 66 i0 (.agg #[.int .u8 0, .string { data := #[] }, .int .i64 0, .int .i64 0]) 4 40 Tryd.underlying39 hi y0 y1 y2 rfl (by decide) (.slice ra cur.length rc) cur.length (tokC cur) rfl (HS.out.row.alloc _) ⟨wr.heap.size, 0, none⟩ 1 1 [.int .u8 kc, .string tb, .int .i64 lo, .int .i64 hh] rfl rfl (fun j u h => by rw [Go.WideShapes.add_plain, Nat.zero_add, ← h]; exact (World.cell?_alloc_new wr _ _ j).trans (by simp)) (by intro u hu; simp at hu; rcases hu with rfl | rfl | rfl | rfl <;> rfl) (by unfold maxLen; omega) (by omega) (by rw [World.size_alloc]; have := HS.out.below.size; omega) ?_)
              intro v5 w5 hO5 hg5 hf5
              have HS5 := Lib.hid (HS.out.on (t := t) (by rw [HTC.out]; exact hO5) hg5 (fun k hk => (hf5 k hk).imp id (fun h => by rw [World.size_alloc]; exact h)))
              clear hO5 hg5 hf5 a0 a1 a2 a3
              go_wp2_with fail
              go_roundw
              case measure => first | omega | (simp [RowKit.intOf]; omega)
              case rel => exact ⟨i + 1, D, cur ++ [t], by go_num, by omega, by omega, by rw [List.length_append, List.length_singleton]; omega, fun h => absurd h (by omega), HF2.out, HO.out, HS5.out⟩
            | true =>
              have q1 : (kc != 111) = false := by rw [bne, h1]; rfl
              have q2 : (tb.toList != [59]) = true := by rw [h1] at hsm; rw [bne, show (tb.toList == [59]) = false from by simpa using hsm.symm]; rfl
              have q3 : (tb.toList == [59]) = false := by rw [h1] at hsm; simpa using hsm.symm
              clear hsm h1
              go_upto_region 10 with (fail)
              go_wp2_with (at_builtin; refine wpList_append_at _ rfl (.tmp 43) (.tmp 48) 39 rfl w1.heap.size 66 i0 (.agg #[.int .u8 0, .string { data := #[] }, .int .i64 0, .int .i64 0]) 4 40 Tryd.underlying39 hi y0 y1 y2 rfl (by decide) (.slice ra cur.length rc) cur.length (tokC cur) rfl (HS.out.row.alloc _) ⟨wr.heap.size, 0, none⟩ 1 1 [.int .u8 kc, .string tb, .int .i64 lo, .int .i64 hh] rfl rfl (fun j u h => by rw [Go.WideShapes.add_plain, Nat.zero_add, ← h]; exact (World.cell?_alloc_new wr _ _ j).trans (by simp)) (by intro u hu; simp at hu; rcases hu with rfl | rfl | rfl | rfl <;> rfl) (by unfold maxLen; omega) (by omega) (by rw [World.size_alloc]; have := HS.out.below.size; omega) ?_)
              intro v5 w5 hO5 hg5 hf5
              have HS5 := Lib.hid (HS.out.on (t := t) (by rw [HTC.out]; exact hO5) hg5 (fun k hk => (hf5 k hk).imp id (fun h => by rw [World.size_alloc]; exact h)))
              clear hO5 hg5 hf5 a0 a1 a2 a3
              go_wp2_with fail
              go_roundw
              case measure => first | omega | (simp [RowKit.intOf]; omega)
              case rel => exact ⟨i + 1, D, cur ++ [t], by go_num, by omega, by omega, by rw [List.length_append, List.length_singleton]; omega, fun h => absurd h (by omega), HF2.out, HO.out, HS5.out⟩
          | true =>
            rw [hs] at hsm
            have hsb := hsm.symm
            rw [Bool.and_eq_true] at hsb
            have q1 : (kc != 111) = false := by rw [bne, hsb.1]; rfl
            have q2 : (tb.toList != [59]) = false := by rw [bne, hsb.2]; rfl
            have q3 := hsb.2
            have HSM := Lib.hid hs
            clear hsm hsb hs a2 a3
            by_cases hc0 : cur = []
            · have HO := Lib.hid (show splits T = D ++ splits ([] ++ T.drop (i + 1)) from by rw [HSP.out, HDR.out, hc0, List.nil_append, splits_semi HSM.out]; rfl)
              have HN := Lib.hid HS.out.none9
              have hcl0 : cur.length = 0 := by rw [hc0]; rfl
              rw [hcl0]
              clear hc0 hcl0 hcl
              go_wp2_with fail
              go_roundw
              case measure => first | omega | (simp [RowKit.intOf]; omega)
              case rel => exact ⟨i + 1, D, [], by go_num, by omega, by omega, Nat.zero_le _, fun _ => rfl, (fun t ht => (by cases ht)), HO.out, HN.out⟩
            · have HO := Lib.hid (show splits T = (D ++ [cur]) ++ splits ([] ++ T.drop (i + 1)) from by rw [HSP.out, HDR.out, splits_row hc0 HFR.out HSM.out, List.nil_append, List.append_assoc]; rfl)
              have hcp : 0 < cur.length := by cases cur with | nil => exact absurd rfl hc0 | cons _ _ => simp
              have hcp' : (0 : Int) < cur.length := by omega
              have HC0 := Lib.hid hc0
              obtain ⟨gr, rfl, hrc⟩ : ∃ gr, ra = some ⟨gr, 0, none⟩ ∧ cur.length ≤ rc := by
                rcases HS.out.row.2 with ⟨hv, hz⟩ | ⟨g', cap, cu, hv, _, _, hcap, _⟩
                · exact absurd (List.length_eq_zero_iff.1 hz) hc0
                · simp only [Value.slice.injEq] at hv
                  obtain ⟨rfl, _, rfl⟩ := hv
                  exact ⟨g', rfl, hcap⟩
              obtain ⟨t1, ht1⟩ : ∃ x, cur[0]? = some x := ⟨_, List.getElem?_eq_getElem hcp⟩
              obtain ⟨t2, ht2⟩ : ∃ x, cur[cur.length - 1]? = some x := ⟨_, List.getElem?_eq_getElem (by omega)⟩
              have b2 := (tok_cells9 HS.out.row ht1).2.2.1
              have d3 := (tok_cells9 HS.out.row ht2).2.2.2
              have hlm : ((cur.length : Int) - 1).toNat = cur.length - 1 := by omega
              obtain ⟨lo1, hlo1⟩ : ∃ x : Int, x = (t1.lo : Nat) := ⟨_, rfl⟩
              obtain ⟨hi2, hhi2⟩ : ∃ x : Int, x = (t2.hi : Nat) := ⟨_, rfl⟩
              rw [← hlo1] at b2
              rw [← hhi2] at d3
              have b2' : wr.cell? ⟨gr, 2, none⟩ = some (.int .i64 lo1) := by simpa using b2
              have hl1 : (1 : Int) ≤ cur.length := by omega
              have hl2 : (cur.length : Int) - 1 < cur.length := by omega
              have hwr9 : IntKind.i64.wrap ((cur.length : Int) - 1) = (cur.length : Int) - 1 := IntWalk.i64_in _ (by omega)
              clear hc0 ht1 ht2 hlo1 hhi2 b2
              obtain ⟨xs, hxs, hfs⟩ := HS.out.out
              have HXS := Lib.hid hxs; have HFS := Lib.hid hfs
              have hzz := HS.out.below.size
              clear hxs hfs
              go_upto_region 12 with (fail)
              go_region_law (refine step_append_own rfl (.tmp 53) (.tmp 67) 59 rfl w1.heap.size 63 is (.agg #[.slice none 0 0, .int .i64 0, .int .i64 0]) 3 40 Tryd.underlying59 his u0' u1' u2' rfl (by decide) (.slice oa D.length oc) D.length xs (by simp [Act.eval]) (HXS.out.drew.alloc _) ⟨wr.heap.size, 0, none⟩ 1 1 [.slice (some ⟨gr, 0, none⟩) cur.length rc, .int .i64 lo1, .int .i64 hi2] (by simp [Act.eval]) rfl ?c1 ?c2 ?c3 ?c4 ?c5 ?_; (case c1 => (intro j u h; rw [Go.WideShapes.add_plain, Nat.zero_add, ← h]; exact (World.cell?_alloc_new wr _ _ j).trans (by simp))); (case c2 => (intro u hu; simp at hu; rcases hu with rfl | rfl | rfl <;> rfl)); (case c3 => (unfold maxLen; omega)); (case c4 => omega); (case c5 => (first | omega | (simp; omega))); intro v5 w5 hO5 hg5)
              all_goals
                have HS5 := Lib.hid (SplAt.shut HC0.out HS.out HXS.out HFS.out (by first | exact ((Below.refl _ _).alloc (Nat.le_refl _) _).drew | exact ((Below.refl _ _).drew).alloc (by simp) _) hO5 hg5)
                obtain ⟨oa5, oc5, rfl⟩ : ∃ a c, v5 = .slice a (D.length + 1) c := ownsRow_form hO5
                clear hO5 hg5
                go_wp2_with fail
                go_roundw
                case measure => first | omega | (simp [RowKit.intOf]; omega)
                case rel => exact ⟨i + 1, D ++ [cur], [], by go_num, by omega, by rw [List.length_append, List.length_singleton]; omega, Nat.zero_le _, fun _ => rfl, (fun t ht => (by cases ht)), HO.out, HS5.out⟩
        · have hge : ¬ (i : Int) < T.length := by omega
          have hdn : T.drop i = [] := List.drop_eq_nil_of_le (by omega)
          have hdn1 : T.drop (i + 1) = [] := List.drop_eq_nil_of_le (by omega)
          by_cases hc0 : cur = []
          · have HO := Lib.hid (show splits T = D ++ splits ([] ++ T.drop (i + 1)) from by rw [HSP.out, hdn, hc0, hdn1])
            have HN := Lib.hid HS.out.none9
            have hcl0 : cur.length = 0 := by rw [hc0]; rfl
            rw [hcl0]
            clear hc0 hcl0 hcl hdn hdn1 hlt
            go_wp2_with fail
            go_roundw
            case measure => first | omega | (simp [RowKit.intOf]; omega)
            case rel => exact ⟨i + 1, D, [], by go_num, by omega, by omega, Nat.zero_le _, fun _ => rfl, (fun t ht => (by cases ht)), HO.out, HN.out⟩
          · have HO := Lib.hid (show splits T = (D ++ [cur]) ++ splits ([] ++ T.drop (i + 1)) from by rw [HSP.out, hdn, hdn1, List.append_nil, splits_free hc0 HFR.out, List.append_assoc]; rfl)
            clear hdn hdn1 hlt
            have hcp : 0 < cur.length := by cases cur with | nil => exact absurd rfl hc0 | cons _ _ => simp
            have hcp' : (0 : Int) < cur.length := by omega
            have HC0 := Lib.hid hc0
            obtain ⟨gr, rfl, hrc⟩ : ∃ gr, ra = some ⟨gr, 0, none⟩ ∧ cur.length ≤ rc := by
              rcases HS.out.row.2 with ⟨hv, hz⟩ | ⟨g', cap, cu, hv, _, _, hcap, _⟩
              · exact absurd (List.length_eq_zero_iff.1 hz) hc0
              · simp only [Value.slice.injEq] at hv
                obtain ⟨rfl, _, rfl⟩ := hv
                exact ⟨g', rfl, hcap⟩
            obtain ⟨t1, ht1⟩ : ∃ x, cur[0]? = some x := ⟨_, List.getElem?_eq_getElem hcp⟩
            obtain ⟨t2, ht2⟩ : ∃ x, cur[cur.length - 1]? = some x := ⟨_, List.getElem?_eq_getElem (by omega)⟩
            have b2 := (tok_cells9 HS.out.row ht1).2.2.1
            have d3 := (tok_cells9 HS.out.row ht2).2.2.2
            have hlm : ((cur.length : Int) - 1).toNat = cur.length - 1 := by omega
            obtain ⟨lo1, hlo1⟩ : ∃ x : Int, x = (t1.lo : Nat) := ⟨_, rfl⟩
            obtain ⟨hi2, hhi2⟩ : ∃ x : Int, x = (t2.hi : Nat) := ⟨_, rfl⟩
            rw [← hlo1] at b2
            rw [← hhi2] at d3
            have b2' : wr.cell? ⟨gr, 2, none⟩ = some (.int .i64 lo1) := by simpa using b2
            have hl1 : (1 : Int) ≤ cur.length := by omega
            have hl2 : (cur.length : Int) - 1 < cur.length := by omega
            have hwr9 : IntKind.i64.wrap ((cur.length : Int) - 1) = (cur.length : Int) - 1 := IntWalk.i64_in _ (by omega)
            clear hc0 ht1 ht2 hlo1 hhi2 b2
            obtain ⟨xs, hxs, hfs⟩ := HS.out.out
            have HXS := Lib.hid hxs; have HFS := Lib.hid hfs
            have hzz := HS.out.below.size
            clear hxs hfs
            go_upto_region 12 with (fail)
            go_region_law (refine step_append_own rfl (.tmp 53) (.tmp 67) 59 rfl w1.heap.size 63 is (.agg #[.slice none 0 0, .int .i64 0, .int .i64 0]) 3 40 Tryd.underlying59 his u0' u1' u2' rfl (by decide) (.slice oa D.length oc) D.length xs (by simp [Act.eval]) (HXS.out.drew.alloc _) ⟨wr.heap.size, 0, none⟩ 1 1 [.slice (some ⟨gr, 0, none⟩) cur.length rc, .int .i64 lo1, .int .i64 hi2] (by simp [Act.eval]) rfl ?c1 ?c2 ?c3 ?c4 ?c5 ?_; (case c1 => (intro j u h; rw [Go.WideShapes.add_plain, Nat.zero_add, ← h]; exact (World.cell?_alloc_new wr _ _ j).trans (by simp))); (case c2 => (intro u hu; simp at hu; rcases hu with rfl | rfl | rfl <;> rfl)); (case c3 => (unfold maxLen; omega)); (case c4 => omega); (case c5 => (first | omega | (simp; omega))); intro v5 w5 hO5 hg5)
            all_goals
              have HS5 := Lib.hid (SplAt.shut HC0.out HS.out HXS.out HFS.out (by first | exact ((Below.refl _ _).alloc (Nat.le_refl _) _).drew | exact ((Below.refl _ _).drew).alloc (by simp) _) hO5 hg5)
              obtain ⟨oa5, oc5, rfl⟩ : ∃ a c, v5 = .slice a (D.length + 1) c := ownsRow_form hO5
              clear hO5 hg5
              go_wp2_with fail
              go_roundw
              case measure => first | omega | (simp [RowKit.intOf]; omega)
              case rel => exact ⟨i + 1, D ++ [cur], [], by go_num, by omega, by rw [List.length_append, List.length_singleton]; omega, Nat.zero_le _, fun _ => rfl, (fun t ht => (by cases ht)), HO.out, HS5.out⟩
      · have hgt : ¬ (i : Int) ≤ T.length := by omega
        have hc0 := hend (by omega)
        have HO := Lib.hid (show splits T = D from by
          rw [HSP.out, hc0, List.drop_eq_nil_of_le (by omega)]
          exact List.append_nil D)
        clear hend hc0 hle
        go_wp2_with fail
        go_ret2
        have hN := HS.out.none9
        obtain ⟨xs, h1, h2⟩ := hN.out
        refine ⟨HB1.out.trans (HS.out.below.mono HB1.out.size), .inr ⟨rfl, _, xs, rfl, ?_, ?_⟩⟩
        · show World.ownsRow _ w.heap.size 63 3 _ (splits T).length xs
          rw [HO.out]
          exact own_base9 h1 HB1.out.size
        · show FirstSt w.heap.size _ _ (splits T) xs
          rw [HO.out]
          intro x hx
          obtain ⟨g, c, a1, a2, a3⟩ := h2 x hx
          exact ⟨g, c, a1, own_base9 a2 HB1.out.size, a3⟩
  · have hne : (er != 0) = true := by simpa using her
    have HNE := Lib.hid her
    clear her
    go_wp2_with fail
    go_ret2
    exact ⟨HB1.out, .inl ⟨HNE.out, rfl⟩⟩
end Go.Proofs.YtgopajddloeclaaDoor

namespace Go.Proofs.YtgopajddloeclaaDoor
open Go.RowKit Go.Lib Go.WideShapes

/-- What was done to one block alone. -/
structure TurnedR (w w' : World) (p : Nat) : Prop where
  os : w'.os = w.os
  tape : w'.tape = w.tape
  output : w'.output = w.output
  size : w.heap.size ≤ w'.heap.size
  block : ∀ k, k < w.heap.size → k ≠ p → w'.heap[k]? = w.heap[k]?
theorem TurnedR.refl (w : World) (p : Nat) : TurnedR w w p := ⟨rfl, rfl, rfl, Nat.le_refl _, fun _ _ _ => rfl⟩
theorem TurnedR.trans {w w1 w' : World} {p : Nat} (h : TurnedR w w1 p) (h2 : TurnedR w1 w' p) : TurnedR w w' p :=
  ⟨h2.os.trans h.os, h2.tape.trans h.tape, h2.output.trans h.output, Nat.le_trans h.size h2.size, fun k hk hp => (h2.block k (Nat.lt_of_lt_of_le hk h.size) hp).trans (h.block k hk hp)⟩
theorem TurnedR.below {w w' : World} {p : Nat} (h : Below w.heap.size w w') : TurnedR w w' p := ⟨h.os, h.tape, h.output, h.size, fun k hk _ => h.block k hk⟩
theorem TurnedR.set (w : World) (p i : Nat) (v : Value) : TurnedR w (w.setCell ⟨p, i, none⟩ v) p := ⟨rfl, rfl, rfl, by rw [World.size_setCell]; exact Nat.le_refl _, fun k _ hk => Below.heap_setCell _ _ _ _ hk⟩
/-- Below anything that lies ahead of the block. -/
theorem TurnedR.from {w w' : World} {p B : Nat} (h : TurnedR w w' p) (hB : B ≤ w.heap.size) (hp : B ≤ p) : Below B w w' := ⟨h.os, h.tape, h.output, h.size, fun k hk => h.block k (by omega) (by omega)⟩
def RCell (w : World) (p : Nat) (v : Value) : Prop := w.heap[p]? = some (.cells #[v] 70 (0, 0))
theorem RCell.cell {w : World} {p : Nat} {v : Value} (h : RCell w p v) : w.cell? ⟨p, 0, none⟩ = some v := by rw [cell_of_row w p _ _ _ (0, 0) h]; rfl
theorem RCell.frozen {w : World} {p : Nat} {v : Value} (h : RCell w p v) (j : Nat) : w.frozen? ⟨p, j, none⟩ = false := by
  unfold RCell at h
  simp [World.frozen?, h]
theorem RCell.lt {w : World} {p : Nat} {v : Value} (h : RCell w p v) : p < w.heap.size := (Array.getElem?_eq_some_iff.1 h).1
theorem RCell.put {w : World} {p : Nat} {v : Value} (h : RCell w p v) (x : Value) : RCell (w.setCell ⟨p, 0, none⟩ x) p x := by
  unfold RCell at h ⊢
  rw [setCell_eq_setRow w p 0 _ _ (0, 0) _ h]
  exact setRow_heap w p _ _ _ _ h
theorem TokW.same {w w' : World} {g off : Nat} {L : List Tok} (h : TokW w (some ⟨g, off, none⟩) L) (hz : w.heap.size ≤ w'.heap.size) (hb : w'.heap[g]? = w.heap[g]?) : TokW w' (some ⟨g, off, none⟩) L := by
  rcases h with h | ⟨g', off', hp, hg, hc⟩
  · exact .inl h
  · cases hp
    refine .inr ⟨g, off, rfl, Nat.lt_of_lt_of_le hg hz, fun i q hq => ?_⟩
    have k : ∀ j, w'.cell? ⟨g, j, none⟩ = w.cell? ⟨g, j, none⟩ := fun j => World.cell?_of_block (a := ⟨g, j, none⟩) hb
    obtain ⟨a0, a1, lo, hi, a2, a3⟩ := hc i q hq
    exact ⟨(k _).trans a0, (k _).trans a1, lo, hi, (k _).trans a2, (k _).trans a3⟩
theorem rest_apart {w : World} {p g off : Nat} {t : Tok} {r : List Tok} {a : Option Addr} {n c : Nat} (h : RCell w p (.slice a n c)) (hT : TokW w (some ⟨g, off, none⟩) (t :: r)) : g ≠ p := by
  rintro rfl
  obtain ⟨_, a0, _⟩ := hT.get (i := 0) rfl
  rw [cell_of_row w g _ _ _ (0, 0) h] at a0
  cases off with
  | zero => simp at a0
  | succ k => simp at a0
/-- The tokens that are left. -/
def RestAt (w : World) (p : Nat) (L : List Tok) : Prop := ∃ a c, RCell w p (.slice a L.length c) ∧ L.length ≤ c ∧ c ≤ 9223372036854775807 ∧ L.length ≤ 100000 ∧ TokW w a L ∧ ∀ q ∈ L, q.text.length ≤ 2000
theorem RestAt.grown {w w' : World} {p : Nat} {L : List Tok} (h : RestAt w p L) (hb : Below w.heap.size w w') : RestAt w' p L := by
  obtain ⟨a, c, h1, h2, h3, h4, h5, h6⟩ := h
  exact ⟨a, c, (hb.block p h1.lt).trans h1, h2, h3, h4, h5.step hb, h6⟩
theorem RestAt.lt {w : World} {p : Nat} {L : List Tok} (h : RestAt w p L) : p < w.heap.size := by obtain ⟨a, c, h1, _⟩ := h; exact h1.lt
/-- Tokens taken from the front. -/
theorem rest_drop {w : World} {p g off c : Nat} {L : List Tok} (h : RCell w p (.slice (some ⟨g, off, none⟩) L.length c)) (hc : L.length ≤ c) (h9 : c ≤ 9223372036854775807) (hn : L.length ≤ 100000) (hT : TokW w (some ⟨g, off, none⟩) L) (hx : ∀ q ∈ L, q.text.length ≤ 2000) (hL : L ≠ []) (k : Nat) (hk : k ≤ L.length) (a' : Option Addr) (ha : k < L.length → a' = some ⟨g, off + k * 4, none⟩) : RestAt (w.setCell ⟨p, 0, none⟩ (.slice a' (L.length - k) (c - k))) p (L.drop k) := by
  have hg : g ≠ p := by
    cases L with
    | nil => exact absurd rfl hL
    | cons t r => exact rest_apart h hT
  refine ⟨a', c - k, by rw [List.length_drop]; exact h.put _, by rw [List.length_drop]; omega, by omega, by rw [List.length_drop]; omega, ?_, fun q hq => hx q (List.mem_of_mem_drop hq)⟩
  by_cases hkl : k < L.length
  · rw [ha hkl]
    exact (hT.drop k).same (by rw [World.size_setCell]; exact Nat.le_refl _) (Below.heap_setCell _ _ _ _ (show g ≠ p from hg))
  · exact .inl (List.drop_eq_nil_of_le (by omega))
/-- What a call over the tokens leaves. -/
def ROut (w : World) (p : Nat) (v : Value) (L' : List Tok) (e : Ending) (w' : World) : Prop := e = .returned v ∧ RestAt w' p L' ∧ TurnedR w w' p
def wordR (L : List Tok) (W : Bs) : List Tok := if beginsW L W then L.drop 1 else L
set_option maxRecDepth 100000 in
set_option maxHeartbeats 8000000 in
theorem rword_any (p : Nat) (W : ByteArray) (L : List Tok) (w : World) (h : RestAt w p L) :
    Calls Tryd.prog 48 #[.pointer (some ⟨p, 0, none⟩), .string W] w (ROut w p (.bool (beginsW L (bytes W))) (wordR L (bytes W))) := by
  have HR := Lib.hid h
  obtain ⟨a, c, hC, hc, h9, hn, hT, hx⟩ := h
  have c0 := hC.cell
  have f0 := hC.frozen 0
  cases L with
  | nil =>
    clear hC hT hx
    go_enter Tryd.func48, Tryd.ntmps48
    go_wp2_with fail
    go_ret
    exact ⟨rfl, HR.out, TurnedR.refl _ _⟩
  | cons t r =>
    obtain ⟨g, off, rfl, hg, hT'⟩ := hT.first
    obtain ⟨_, a0, a1, _⟩ := hT'.get (i := 0) rfl
    rw [Nat.zero_mul, Nat.add_zero] at a0 a1
    have hn1 : (1 : Int) ≤ ((t :: r).length : Nat) := by rw [List.length_cons]; omega
    have hn0 : (((t :: r).length : Nat) : Int) ≤ c := by omega
    obtain ⟨n, hnn⟩ : ∃ n, n = (t :: r).length := ⟨_, rfl⟩
    have HP := Lib.hid (show ∀ a', (1 < n → a' = some ⟨g, off + 4, none⟩) → RestAt (w.setCell ⟨p, 0, none⟩ (.slice a' (n - 1) (c - 1))) p ((t :: r).drop 1) from fun a' ha => by rw [hnn]; exact rest_drop hC hc h9 hn hT hx (List.cons_ne_nil _ _) 1 (by simp) a' (fun hk => by rw [ha (by rw [hnn]; exact hk)]))
    have e : beginsW (t :: r) (bytes W) = (decide (t.kind.toNat = 119) && (t.text == bytes W)) := by show (t.kind == 119 && t.text == bytes W) = _; rw [kind_eq]; rfl
    have HE := Lib.hid e
    have hx1 : (⟨t.text.toArray⟩ : ByteArray).toList = t.text := str_list _
    have hw : W.toList = bytes W := Lib.toList_data W
    rw [← hnn] at c0 hn1 hn0
    have hn1' : 1 ≤ n := by omega
    obtain ⟨LL, hLL⟩ : ∃ z, z = wordR (t :: r) (bytes W) := ⟨_, rfl⟩
    rw [← hLL]
    unfold wordR at hLL
    obtain ⟨bb, hbb⟩ : ∃ z, z = beginsW (t :: r) (bytes W) := ⟨_, rfl⟩
    rw [← hbb] at HE hLL ⊢
    have HLL := Lib.hid hLL
    clear hLL hC hT hT' hx e hnn hbb hc hn
    generalize (⟨t.text.toArray⟩ : ByteArray) = XT at a1 hx1
    generalize t.kind.toNat = kk at a0 HE
    by_cases h1 : kk = 119
    · have hb : ((kk : Int) != 119) = false := by simp; omega
      cases h2 : (t.text == bytes W) with
      | true =>
        have hb2 : (XT.toList == W.toList) = true := by rw [hx1, hw, h2]
        obtain rfl : bb = true := by rw [HE.out, decide_eq_true h1, h2]; rfl
        have HL1 := Lib.hid (show LL = (t :: r).drop 1 from HLL.out.trans (if_pos rfl))
        rw [← HL1.out] at HP
        clear hx1 hw h2 h1 HE
        by_cases hd : c = 1
        · have hd1 : n = 1 := by omega
          subst hd hd1
          go_enter Tryd.func48, Tryd.ntmps48
          go_wp2_with fail
          go_ret
          exact ⟨rfl, HP.out _ (fun h => absurd h (by omega)), TurnedR.set _ _ _ _⟩
        · have hd2 : ¬ c - 1 = 0 := by omega
          go_enter Tryd.func48, Tryd.ntmps48
          go_wp2_with fail
          go_ret
          exact ⟨rfl, HP.out _ (fun _ => rfl), TurnedR.set _ _ _ _⟩
      | false =>
        have hb2 : (XT.toList == W.toList) = false := by rw [hx1, hw, h2]
        obtain rfl : bb = false := by rw [HE.out, h2]; simp
        have HR2 := Lib.hid (show RestAt w p LL from by rw [HLL.out]; exact HR.out)
        clear hx1 hw h2 h1 HE
        go_enter Tryd.func48, Tryd.ntmps48
        go_wp2_with fail
        go_ret
        exact ⟨rfl, HR2.out, TurnedR.refl _ _⟩
    · have hb : ((kk : Int) != 119) = true := by simp; omega
      obtain rfl : bb = false := by rw [HE.out, decide_eq_false h1]; rfl
      have HR2 := Lib.hid (show RestAt w p LL from by rw [HLL.out]; exact HR.out)
      clear hx1 hw h1 HE
      go_enter Tryd.func48, Tryd.ntmps48
      go_wp2_with fail
      go_ret
      exact ⟨rfl, HR2.out, TurnedR.refl _ _⟩
end Go.Proofs.YtgopajddloeclaaDoor
