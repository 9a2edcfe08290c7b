/- vars.Put and vars.Drop. -/
import Derived.Test.YtjckfdpkcaloiaaInsertGrow
import Derived.Test.YtjckfdpkcaloiaaPlace
namespace Go.Proofs.Ytjckfdpkcaloiaa
open Go.RowKit Go.Lib Go.WideShapes

theorem insert_any (v : Value) (g : Pairs) (x y : ByteArray) (i vb base : Nat) (w : World) (h : w.ownsRow base 43 2 v g.length (pairCells g)) (hb : Box w vb x y) (hne : v.ownBlock ≠ some vb) (hi : i ≤ g.length) (hsz : g.length ≤ 7000) (hbase : base ≤ w.heap.size) :
    Calls Try.prog 24 #[v, .int .i64 i, .slice (some ⟨vb, 0, none⟩) 1 1] w fun e w' => ∃ u, e = .returned u ∧ Holds w' u (g.take i ++ (x, y) :: g.drop i) ∧ Below base w w' := by
  by_cases hlt : i < g.length
  · have hv : ∃ gb cap, v = .slice (some ⟨gb, 0, none⟩) g.length cap := by
      rcases h.2 with ⟨_, h0⟩ | ⟨gb, cap, _, hv, _⟩
      · omega
      · exact ⟨gb, cap, hv⟩
    obtain ⟨gb, cap, rfl⟩ := hv
    by_cases hroom : g.length + 1 ≤ cap
    · exact insert_shift gb cap g x y i vb base w h hb (fun e => hne (by rw [e]; rfl)) hlt hroom hbase
    · exact insert_grow gb cap g x y i vb base w h hb hlt (by omega) hsz hbase
  · obtain rfl : i = g.length := by omega
    rw [List.take_length, List.drop_length]
    exact insert_end v g x y vb base w h hb hsz hbase

theorem cells_set {g : Pairs} {k : Nat} {n v : ByteArray} (hk : k < g.length) (hn : g[k].1 = n) : pairCells (g.set k (n, v)) = (pairCells g).set (k * 2 + 1) (.string v) := by
  have e : pairCells g = pairCells (g.take k) ++ ([.string g[k].1, .string g[k].2] ++ pairCells (g.drop (k + 1))) := by
    have : g = g.take k ++ g[k] :: g.drop (k + 1) := by rw [← List.drop_eq_getElem_cons hk, List.take_append_drop]
    conv => lhs; rw [this]
    rw [pairCells_append]; rfl
  have e2 : g.set k (n, v) = g.take k ++ (n, v) :: g.drop (k + 1) := by rw [List.set_eq_take_append_cons_drop, if_pos hk]
  have hl : (pairCells (g.take k)).length = k * 2 := by rw [pairCells_length, List.length_take]; omega
  rw [e2, pairCells_append, e, List.set_append_right _ _ (by omega), hl, hn, show k * 2 + 1 - k * 2 = 1 by omega]
  rfl

set_option maxHeartbeats 4000000 in
theorem put_any (u : Value) (g : Pairs) (n v : ByteArray) (w : World) (h : Holds w u g) (hr : Rise g) (hsz : g.length ≤ 7000) :
    Calls Try.prog 15 #[u, .string n, .string v] w fun e w' => ∃ x, e = .returned x ∧ Holds w' x (put g n v) ∧ Below w.heap.size w w' := by
  have hpl := place_le g n
  have HP := Lib.hid (put_place g n v)
  have HPC := Lib.hid (fun W (hW : Holds W u g) => place_any u g n W hW hr hsz)
  have HTH := Lib.hid (fun (e : there g n = true) => show ∃ hk : place g n < g.length, g[place g n].1 = n by
    by_cases hk : place g n < g.length
    · rw [there_at hk, eq_lists] at e
      exact ⟨hk, of_decide_eq_true e⟩
    · rw [there_out hk] at e; cases e)
  obtain ⟨P, hP⟩ : ∃ P, P = place g n := ⟨_, rfl⟩
  obtain ⟨D, hD⟩ : ∃ D, D = there g n := ⟨_, rfl⟩
  rw [← hP] at hpl
  rw [← hP, ← hD] at HP HPC
  rw [← hD] at HTH
  have HPP := Lib.hid hP
  have H := Lib.hid h
  clear h hr hP hD
  go_enter Try.func15, Try.ntmps15
  go_wp2_with fail
  refine (HPC.out w H.out).mono ?_; rintro e w1 ⟨rfl, hb1⟩
  have hH1 := H.out.grown hb1 (Nat.le_refl _)
  have hz1 := hb1.size
  have HB1 := Lib.hid hb1; have HH1 := Lib.hid hH1
  clear hb1 hH1 HPC
  go_wp2_with fail
  refine (clone_any u g w1 HH1.out (by omega)).mono ?_; rintro e w2 ⟨x, rfl, hO2, hb2⟩
  have hB2 := HB1.out.step hb2 hz1
  have hz2 := hb2.size
  have HB2 := Lib.hid hB2; have HO2 := Lib.hid hO2
  clear hb2 hB2 hO2 HH1
  cases D with
  | true =>
    obtain ⟨hk, hkn⟩ := HTH.out rfl
    have hv : ∃ gb cap, x = .slice (some ⟨gb, 0, none⟩) g.length cap := by
      rcases HO2.out.2 with ⟨_, h0⟩ | ⟨gb, cap, _, hv, _⟩
      · omega
      · exact ⟨gb, cap, hv⟩
    obtain ⟨gb, cap, rfl⟩ := hv
    obtain ⟨hO3, hG3⟩ := HO2.out.stored (P * 2 + 1) (.string v)
    have hPg : P < g.length := by rw [HPP.out]; exact hk
    have hset : pairCells (g.set P (n, v)) = (pairCells g).set (P * 2 + 1) (.string v) := cells_set hPg (by have := HPP.out; subst this; exact hkn)
    have hO4 : (w2.setCell ⟨gb, P * 2 + 1, none⟩ (.string v)).ownsRow w1.heap.size 43 2 (.slice (some ⟨gb, 0, none⟩) g.length cap) (g.set P (n, v)).length (pairCells (g.set P (n, v))) := by rw [List.length_set, hset]; exact hO3
    have hfin := own_holds hO4
    have hp := HP.out
    rw [if_pos rfl] at hp
    rw [← hp] at hfin
    have hbel := below_grown HB2.out (by omega) hG3 (fun k hk => by have := (HO2.out.lt gb rfl).1; simp at hk; omega)
    obtain ⟨_, _, _, _, _, hfz, hsp⟩ := own_room HO2.out
    obtain ⟨q, hq⟩ := Option.isSome_iff_exists.1 (hsp (P * 2 + 1) (by have := (own_room HO2.out).1; omega))
    have hf := hfz (P * 2 + 1)
    have HF := Lib.hid hfin; have HBL := Lib.hid hbel
    have hPi : (P : Int) < g.length := by omega
    clear hfin hbel hp hO4 hset hO3 hG3 hfz hsp hk hkn HP HTH
    go_wp2_with fail
    go_ret
    exact ⟨_, rfl, HF.out, HBL.out⟩
  | false =>
    have hp := HP.out
    rw [if_neg (by decide)] at hp
    have HP2 := Lib.hid hp
    clear hp HP HTH
    have hbox : Box (w2.alloc (.cells #[.string n, .string v] 43)) w2.heap.size n v := ⟨World.cell?_alloc_new _ _ _ _, World.cell?_alloc_new _ _ _ _, fun j => World.frozen?_alloc_at _ _ _ _ rfl, by unfold World.shape?; rw [heap_alloc_new]; rfl⟩
    have hO3 := own_grown HO2.out ((Below.refl w2.heap.size w2).alloc (Nat.le_refl _) (.cells #[.string n, .string v] 43)) (Nat.le_refl _)
    have hne : x.ownBlock ≠ some w2.heap.size := fun e => by have := (HO2.out.lt _ e).2; omega
    have HI := Lib.hid (insert_any x g n v P w2.heap.size w1.heap.size _ hO3 hbox hne hpl hsz (by simp; omega))
    clear hbox hO3 hne
    go_wp2_with fail
    refine HI.out.mono ?_; rintro e w4 ⟨y, rfl, hH4, hb4⟩
    rw [← HP2.out] at hH4
    have hB4 : Below w.heap.size w w4 := (HB2.out.alloc (by omega) (.cells #[.string n, .string v] 43)).trans (hb4.mono hz1)
    have HH4 := Lib.hid hH4; have HB4 := Lib.hid hB4
    clear hH4 hB4 hb4 HI
    go_wp2_with fail
    go_ret
    exact ⟨y, rfl, HH4.out, HB4.out⟩

set_option maxHeartbeats 4000000 in
theorem drop_any (u : Value) (g : Pairs) (n : ByteArray) (w : World) (h : Holds w u g) (hr : Rise g) (hsz : g.length ≤ 7000) :
    Calls Try.prog 17 #[u, .string n] w fun e w' => ∃ x, e = .returned x ∧ Holds w' x (drop g n) ∧ Below w.heap.size w w' := by
  have hpl := place_le g n
  have HP := Lib.hid (drop_place hr n)
  have HPC := Lib.hid (fun W (hW : Holds W u g) => place_any u g n W hW hr hsz)
  have HTH := Lib.hid (fun (e : there g n = true) => show place g n < g.length by
    by_cases hk : place g n < g.length
    · exact hk
    · rw [there_out hk] at e; cases e)
  obtain ⟨P, hP⟩ : ∃ P, P = place g n := ⟨_, rfl⟩
  obtain ⟨D, hD⟩ : ∃ D, D = there g n := ⟨_, rfl⟩
  rw [← hP] at hpl HTH
  rw [← hP, ← hD] at HP HPC
  rw [← hD] at HTH
  have H := Lib.hid h
  clear h hr hP hD
  go_enter Try.func17, Try.ntmps17
  go_wp2_with fail
  refine (HPC.out w H.out).mono ?_; rintro e w1 ⟨rfl, hb1⟩
  have hH1 := H.out.grown hb1 (Nat.le_refl _)
  have hz1 := hb1.size
  have HB1 := Lib.hid hb1; have HH1 := Lib.hid hH1
  clear hb1 hH1 HPC
  go_wp2_with fail
  refine (clone_any u g w1 HH1.out (by omega)).mono ?_; rintro e w2 ⟨x, rfl, hO2, hb2⟩
  have hB2 := HB1.out.step hb2 hz1
  have hz2 := hb2.size
  have HB2 := Lib.hid hB2; have HO2 := Lib.hid hO2
  clear hb2 hB2 hO2 HH1
  cases D with
  | true =>
    have hk := HTH.out rfl
    have hv : ∃ gb cap, x = .slice (some ⟨gb, 0, none⟩) g.length cap := by
      rcases HO2.out.2 with ⟨_, h0⟩ | ⟨gb, cap, _, hv, _⟩
      · omega
      · exact ⟨gb, cap, hv⟩
    obtain ⟨gb, cap, rfl⟩ := hv
    have hp := HP.out
    rw [if_pos rfl] at hp
    have HP2 := Lib.hid hp
    have hgb := (HO2.out.lt gb rfl).1
    have HD := Lib.hid (delete_any gb cap g P w1.heap.size w2 HO2.out hk)
    clear hp HP HTH
    go_wp2_with fail
    refine HD.out.mono ?_; rintro e w4 ⟨y, rfl, hH4, hg4⟩
    rw [← HP2.out] at hH4
    have hB4 := below_grown HB2.out (by omega) hg4 (fun k hk => by simp at hk; omega)
    have HH4 := Lib.hid hH4; have HB4 := Lib.hid hB4
    clear hH4 hB4 hg4 HD
    go_wp2_with fail
    go_ret
    exact ⟨y, rfl, HH4.out, HB4.out⟩
  | false =>
    have hp := HP.out
    rw [if_neg (by decide)] at hp
    have hfin := own_holds HO2.out
    rw [← hp] at hfin
    clear hp HP HTH
    have HF := Lib.hid hfin
    clear hfin
    go_wp2_with fail
    go_ret
    exact ⟨x, rfl, HF.out, HB2.out⟩
end Go.Proofs.Ytjckfdpkcaloiaa
