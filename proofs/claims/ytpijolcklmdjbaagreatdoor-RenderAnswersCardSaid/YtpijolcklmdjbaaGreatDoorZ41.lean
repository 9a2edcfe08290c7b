/- Contracts and mathematics: GOut. -/
import Derived.Test.YtpijolcklmdjbaaGreatDoorZ31
import Derived.Test.YtpijolcklmdjbaaGreatDoorShelf
import Derived.Test.YtpijolcklmdjbaaGreatDoorZ10
import Derived.Lib.AppendIntMem
namespace Go.Proofs.YtpijolcklmdjbaaGreatDoor
open Go.RowKit Go.Lib Go.WideShapes

theorem u10_step {w w' : World} (hu : U10 w) (hb : Below w.heap.size w w') : U10 w' := by
  unfold U10 Lib.TabIs World.var? at hu ⊢
  cases hg : Tryz.prog.globalNamed "internal/strconv.uint64pow10" with
  | none => simp [hg] at hu
  | some g =>
    simp only [hg, Option.bind_some] at hu ⊢
    have hlt : g < w.heap.size := by
      rcases Nat.lt_or_ge g w.heap.size with h' | h'
      · exact h'
      · rw [Array.getElem?_eq_none h'] at hu; simp at hu
    rw [hb.block g hlt]
    exact hu
theorem own_msg (w : World) (x y z : Value) (e : TypeId) (B : Nat) (hB : B ≤ w.heap.size) : (w.alloc (.cells #[x, y, z] e)).ownsRow B e 3 (.slice (some ⟨w.heap.size, 0, none⟩) 1 1) 1 [x, y, z] :=
  ⟨rfl, .inr ⟨w.heap.size, 1, #[x, y, z], rfl, hB, heap_alloc_new _ _, Nat.le_refl _, by decide, rfl, rfl⟩⟩
theorem texts_one {W : World} {g : Nat} {t : ByteArray} (h : W.cell? ⟨g, 0, none⟩ = some (.string t)) : TextsIn W (.slice (some ⟨g, 0, none⟩) 1 1) [bytes t] :=
  ⟨_, 1, 1, rfl, rfl, Nat.le_refl _, by omega, .inr ⟨_, 0, rfl, World.block_lt_of_cell? W ⟨g, 0, none⟩ h, fun i u hu => by
    match i, hu with
    | 0, hu => obtain rfl := Option.some.inj hu; rw [h]⟩⟩
theorem nums_one {W : World} {g : Nat} {n : Int} (h : W.cell? ⟨g, 0, none⟩ = some (.int .i64 n)) : NumsIn W (.slice (some ⟨g, 0, none⟩) 1 1) [n] :=
  ⟨_, 1, 1, rfl, rfl, Nat.le_refl _, by omega, .inr ⟨_, 0, rfl, World.block_lt_of_cell? W ⟨g, 0, none⟩ h, fun i u hu => by
    match i, hu with
    | 0, hu => obtain rfl := Option.some.inj hu; exact h⟩⟩
theorem textsG_nil (w : World) : TextsIn w (.slice none 0 0) [] := ⟨none, 0, 0, rfl, rfl, Nat.le_refl _, by omega, .inl rfl⟩
theorem numsG_nil (w : World) : NumsIn w (.slice none 0 0) [] := ⟨none, 0, 0, rfl, rfl, Nat.le_refl _, by omega, .inl rfl⟩
set_option maxRecDepth 100000 in
set_option maxHeartbeats 4000000 in
theorem faultM_at (code : ByteArray) (w : World) :
    Calls Tryz.prog 26 #[.string code] w fun e w' => ∃ a b, e = .returned (.agg #[.int .u8 69, .slice (some ⟨a, 0, none⟩) 2 2, .slice (some ⟨b, 0, none⟩) 3 3]) ∧ TextsIn w' (.slice (some ⟨a, 0, none⟩) 2 2) [g_error, bytes code] ∧ NumsIn w' (.slice (some ⟨b, 0, none⟩) 3 3) [2, 83, 67] ∧ (w.heap.size ≤ a ∧ w.heap.size ≤ b) ∧ Below w.heap.size w w' := by
  go_enter Tryz.func26, Tryz.ntmps26
  go_wp2_with fail
  simp [bodyPost, results, Tryz.results26, go_sem]
  refine ⟨_, _, ⟨rfl, rfl⟩, ⟨_, 2, 2, rfl, rfl, Nat.le_refl _, by omega, .inr ⟨_, 0, rfl, by simp [World.size_alloc], fun i t ht => ?_⟩⟩, ⟨_, 3, 3, rfl, rfl, Nat.le_refl _, by omega, .inr ⟨_, 0, rfl, by simp [World.size_alloc], fun i t ht => ?_⟩⟩, ⟨by omega, by omega⟩, (((Below.refl _ _).alloc (Nat.le_refl _) _).alloc (by simp [World.size_alloc]) _).alloc (by simp [World.size_alloc]; omega) _⟩
  · match i, ht with
    | 0, ht => obtain rfl := Option.some.inj ht; simp [go_sem]
    | 1, ht => obtain rfl := Option.some.inj ht; simp [go_sem, bytes]
  · match i, ht with
    | 0, ht => obtain rfl := Option.some.inj ht; simp [go_sem]
    | 1, ht => obtain rfl := Option.some.inj ht; simp [go_sem]
    | 2, ht => obtain rfl := Option.some.inj ht; simp [go_sem]

theorem cells3G (w : World) (a b c : Value) (T : TypeId) : ∀ j u, [a, b, c][j]? = some u → (w.alloc (.cells #[a, b, c] T)).cell? ((⟨w.heap.size, 0, none⟩ : Addr).add j) = some u := by
  intro j u hj
  match j, hj with
  | 0, hj => simp at hj; subst hj; simp [Addr.add, go_sem]
  | 1, hj => simp at hj; subst hj; simp [Addr.add, go_sem]
  | 2, hj => simp at hj; subst hj; simp [Addr.add, go_sem]
  | n + 3, hj => simp at hj

theorem own_baseG {w : World} {B B' n s : Nat} {e : TypeId} {v : Value} {xs : List Value} (h : w.ownsRow B e s v n xs) (hB : B' ≤ B) : w.ownsRow B' e s v n xs :=
  ⟨h.1, h.2.imp id fun ⟨g, cap, cur, h1, h2, h3⟩ => ⟨g, cap, cur, h1, Nat.le_trans hB h2, h3⟩⟩
/-- What region 5 leaves: a row of two messages that lies behind all else. -/
def RowIs (B : Nat) (w : World) (nm v : ByteArray) (a : Option Addr) (c : Nat) (r : Value) : Prop := ∃ g h b d, w.ownsRow B 39 3 r 2 [.int .u8 84, .slice (some ⟨g, 0, none⟩) 1 1, .slice (some ⟨h, 0, none⟩) 1 1, .int .u8 68, .slice a 1 c, .slice b 2 d] ∧ TextsIn w (.slice (some ⟨g, 0, none⟩) 1 1) [bytes nm] ∧ NumsIn w (.slice (some ⟨h, 0, none⟩) 1 1) [1] ∧ TextsIn w (.slice a 1 c) [bytes v] ∧ NumsIn w (.slice b 2 d) [1, v.size] ∧ (B ≤ g ∧ some g ≠ r.ownBlock) ∧ (B ≤ h ∧ some h ≠ r.ownBlock) ∧ (∀ g off, b = some ⟨g, off, none⟩ → B ≤ g ∧ some g ≠ r.ownBlock) ∧ (∀ g off, a = some ⟨g, off, none⟩ → some g ≠ r.ownBlock)

theorem rowis_made {B gT gN : Nat} {V w6 : World} {nm vb : ByteArray} {a b : Option Addr} {c d : Nat} {r : Value} {o : Obj} (h1 : TextsIn V (.slice (some ⟨gT, 0, none⟩) 1 1) [bytes nm]) (h2 : NumsIn V (.slice (some ⟨gN, 0, none⟩) 1 1) [1]) (h3 : TextsIn V (.slice a 1 c) [bytes vb]) (h4 : NumsIn V (.slice b 2 d) [1, vb.size]) (hb : ∀ g off, b = some ⟨g, off, none⟩ → B ≤ g)
    (hO : w6.ownsRow (V.heap.size + 1) 39 3 r 2 [.int .u8 84, .slice (some ⟨gT, 0, none⟩) 1 1, .slice (some ⟨gN, 0, none⟩) 1 1, .int .u8 68, .slice a 1 c, .slice b 2 d]) (hg : (V.alloc o).grownBy w6 (Value.slice none 0 0).ownBlock) (hz : B ≤ V.heap.size) (hT : B ≤ gT) (hN : B ≤ gN) : RowIs B w6 nm vb a c r := by
  have hbw := (Below.refl V.heap.size V).alloc (Nat.le_refl _) o
  have hn : ∀ g, some g ≠ (Value.slice none 0 0).ownBlock := fun g e => by cases e
  have hr : ∀ g, g < V.heap.size + 1 → some g ≠ r.ownBlock := fun g h e => by have := (hO.lt g e.symm).1; omega
  exact ⟨gT, gN, b, d, own_baseG hO (by omega), texts_grown (h1.mono hbw) hg (fun _ g _ _ => hn g), nums_grown (h2.mono hbw) hg (fun _ g _ _ => hn g), texts_grown (h3.mono hbw) hg (fun _ g _ _ => hn g), nums_grown (h4.mono hbw) hg (fun _ g _ _ => hn g), ⟨hT, hr _ (by have := texts_lt h1 (by simp) rfl; omega)⟩, ⟨hN, hr _ (by have := nums_lt h2 (by simp) rfl; omega)⟩, fun g off e => ⟨hb g off e, hr _ (by have := nums_lt h4 (by simp) e; omega)⟩, fun g off e => hr _ (by have := texts_lt h3 (by simp) e; omega)⟩
theorem six_cells (w : World) (a b c d e f : Value) (T : TypeId) : ∀ j u, [a, b, c, d, e, f][j]? = some u → (w.alloc (.cells #[a, b, c, d, e, f] T)).cell? ((⟨w.heap.size, 0, none⟩ : Addr).add j) = some u := by
  intro j u hj
  match j, hj with
  | 0, hj => simp at hj; subst hj; simp [Addr.add, go_sem]
  | 1, hj => simp at hj; subst hj; simp [Addr.add, go_sem]
  | 2, hj => simp at hj; subst hj; simp [Addr.add, go_sem]
  | 3, hj => simp at hj; subst hj; simp [Addr.add, go_sem]
  | 4, hj => simp at hj; subst hj; simp [Addr.add, go_sem]
  | 5, hj => simp at hj; subst hj; simp [Addr.add, go_sem]
  | n + 6, hj => simp at hj
set_option maxRecDepth 100000 in
set_option maxHeartbeats 8000000 in
theorem outcome_ok : OutOk := by
  intro w k nm vl err tag a n c Row hR hn hT he0 he9 hRz hU
  obtain ⟨im, him, z0, z1, z2⟩ := info_parts info_msg
  obtain ⟨W0, hW0⟩ : ∃ x, x = ((w.alloc (.cells #[.int .u8 k, .string nm, .string vl] 23)).alloc (.cells #[.int .i64 err, .string tag, .slice a n c] 44)) := ⟨_, rfl⟩
  have hsz : W0.heap.size = w.heap.size + 1 + 1 := by rw [hW0]; simp
  have hB0 : Below w.heap.size w W0 := by rw [hW0]; exact ((Below.refl _ _).alloc (Nat.le_refl _) _).alloc (by simp) _
  have HK := Lib.hid (show ∀ W, Below W0.heap.size W0 W → W.cell? ⟨w.heap.size, 1, none⟩ = some (.string nm) ∧ W.cell? ⟨w.heap.size + 1, 0, none⟩ = some (.int .i64 err) ∧ W.cell? ⟨w.heap.size + 1, 1, none⟩ = some (.string tag) ∧ W.cell? ⟨w.heap.size + 1, 2, none⟩ = some (.slice a n c) from by
    intro W hW
    have k : ∀ q i, q < W0.heap.size → W.cell? ⟨q, i, none⟩ = W0.cell? ⟨q, i, none⟩ := fun q i h => hW.cell (p := ⟨q, i, none⟩) h
    refine ⟨(k _ _ (by omega)).trans ?_, (k _ _ (by omega)).trans ?_, (k _ _ (by omega)).trans ?_, (k _ _ (by omega)).trans ?_⟩ <;> (rw [hW0]; simp [go_sem]))
  have HU := Lib.hid (u10_step hU hB0)
  have HT := Lib.hid (hT.mono hB0)
  have HB := Lib.hid hB0; have HE := Lib.hid hW0; have HSZ := Lib.hid hsz; have HR := Lib.hid hR; have HRZ := Lib.hid hRz
  clear hW0 hsz hB0 hR hT hRz hU
  go_enter Tryz.func24, Tryz.ntmps24
  by_cases he : err = 0
  · subst he
    have h00 : ((0 : Int) != 0) = false := rfl
    cases Row with
    | nil =>
      obtain rfl : n = 0 := HR.out.symm
      by_cases ht : tag = { data := #[] }
      · subst ht
        go_wp2_with (at_builtin; refine wpList_append_at _ rfl (.tmp 32) (.tmp 34) 64 rfl W0.heap.size 39 im (.agg #[.int .u8 0, .slice none 0 0, .slice none 0 0]) 3 56 Tryz.underlying64 him z0 z1 z2 rfl (by decide) (.slice none 0 0) 0 [] rfl ⟨rfl, .inl ⟨rfl, rfl⟩⟩ ⟨w.heap.size + 1 + 1, 0, none⟩ 1 1 [.int .u8 73, .slice none 0 0, .slice none 0 0] rfl rfl (by rw [← HE.out, ← HSZ.out]; exact cells3G _ _ _ _ _) (by simp [Value.oneCell']) (by unfold maxLen; omega) (by omega) (by rw [← HE.out]; simp) ?_)
        intro v3 w3 hO3 hg3 hf3
        rw [← HE.out] at hg3
        have HO3 := Lib.hid hO3
        have HB3 := Lib.hid (show Below w.heap.size w w3 from (HB.out.alloc HB.out.size _).grown hg3 (Nat.le_trans HB.out.size (by simp)) (fun k hk => by cases hk))
        clear hO3 hg3 hf3
        go_wp2_with fail
        go_ret
        refine ⟨v3, _, rfl, own_baseG HO3.out HB.out.size, fun i x hx => ?_, HB3.out⟩
        match i, hx with
        | 0, hx =>
          obtain rfl := Option.some.inj hx
          exact ⟨none, 0, 0, none, 0, 0, rfl, rfl, rfl, textsG_nil _, numsG_nil _, fun h => absurd rfl h, fun h => absurd rfl h⟩
      · have htb : bytes tag ≠ [] := fun h => ht (by apply ByteArray.ext; apply Array.toList_inj.1; exact h)
        have hte : tag.toList.isEmpty = false := by rw [Lib.toList_data]; show (bytes tag).isEmpty = false; cases h : bytes tag with | nil => exact absurd h htb | cons _ _ => rfl
        have HM := Lib.hid (show outM (bytes nm) 0 (bytes tag) [] = [⟨67, [bytes tag], []⟩] from by unfold outM; rw [if_pos rfl, if_neg htb]; rfl)
        clear htb ht
        go_wp2_with (at_builtin; refine wpList_append_at _ rfl (.tmp 36) (.tmp 41) 64 rfl W0.heap.size 39 im (.agg #[.int .u8 0, .slice none 0 0, .slice none 0 0]) 3 56 Tryz.underlying64 him z0 z1 z2 rfl (by decide) (.slice none 0 0) 0 [] rfl ⟨rfl, .inl ⟨rfl, rfl⟩⟩ ⟨w.heap.size + 1 + 1 + 1, 0, none⟩ 1 1 [.int .u8 67, .slice (some ⟨w.heap.size + 1 + 1, 0, none⟩) 1 1, .slice none 0 0] rfl rfl (by rw [← HE.out, show w.heap.size + 1 + 1 + 1 = (W0.alloc (.cells #[.string tag] 9)).heap.size by rw [World.size_alloc, HSZ.out]]; exact cells3G _ _ _ _ _) (by simp [Value.oneCell']) (by unfold maxLen; omega) (by omega) (by rw [← HE.out]; simp; omega) ?_)
        intro v3 w3 hO3 hg3 hf3
        rw [← HE.out] at hg3
        have HO3 := Lib.hid hO3
        have HB3 := Lib.hid (show Below w.heap.size w w3 from ((HB.out.alloc HB.out.size _).alloc (Nat.le_trans HB.out.size (by simp)) _).grown hg3 (Nat.le_trans HB.out.size (by simp; omega)) (fun k hk => by cases hk))
        have HX3 := Lib.hid (show TextsIn w3 (.slice (some ⟨w.heap.size + 1 + 1, 0, none⟩) 1 1) [bytes tag] from texts_grown (v := .slice none 0 0) (texts_one (by rw [← HSZ.out]; simp [go_sem])) hg3 (fun _ g off e => by cases e; simp [Value.ownBlock]))
        clear hO3 hg3 hf3
        go_wp2_with fail
        go_ret
        rw [HM.out]
        refine ⟨v3, _, rfl, own_baseG HO3.out HB.out.size, fun i x hx => ?_, HB3.out⟩
        match i, hx with
        | 0, hx =>
          obtain rfl := Option.some.inj hx
          exact ⟨_, 1, 1, none, 0, 0, rfl, rfl, rfl, HX3.out, numsG_nil _, fun _ g off e => (by cases e; exact .inr (by omega)), fun h => absurd rfl h⟩
    | cons v r =>
      obtain rfl : r = [] := by
        have := HR.out
        cases r with
        | nil => rfl
        | cons _ _ => simp at this; omega
      obtain rfl : n = 1 := HR.out.symm
      obtain ⟨vb, rfl⟩ : ∃ vb : ByteArray, v = bytes vb := ⟨⟨v.toArray⟩, by simp [bytes]⟩
      have hvz : vb.size ≤ 1000000 := by have := HRZ.out _ List.mem_cons_self; rwa [bytes_len] at this
      have hl0 : (0 : Int) < 1 := by omega
      go_upto_region 5 with (fail)
      rw [← HE.out]
      obtain ⟨k1, l0, l1, l2⟩ := HK.out W0 (Below.refl _ _)
      go_cut [5] (fun r wx => RowIs W0.heap.size wx nm vb a c r ∧ Below W0.heap.size W0 wx)
      case first =>
        have q1 : (W0.alloc (.cells #[.string nm] 9)).cell? ⟨w.heap.size + 1, 2, none⟩ = some (.slice a 1 c) := (HK.out _ ((Below.refl _ _).alloc (Nat.le_refl _) _)).2.2.2
        have q2 : ((W0.alloc (.cells #[.string nm] 9)).alloc (.cells #[.int .i64 1] 3)).cell? ⟨w.heap.size + 1, 2, none⟩ = some (.slice a 1 c) := (HK.out _ (((Below.refl _ _).alloc (Nat.le_refl _) _).alloc (by simp) _)).2.2.2
        have q3 : (W0.alloc (.cells #[.int .i64 1] 3)).cell? ⟨w.heap.size + 1, 2, none⟩ = some (.slice a 1 c) := (HK.out _ ((Below.refl _ _).alloc (Nat.le_refl _) _)).2.2.2
        have q4 : ((W0.alloc (.cells #[.int .i64 1] 3)).alloc (.cells #[.string nm] 9)).cell? ⟨w.heap.size + 1, 2, none⟩ = some (.slice a 1 c) := (HK.out _ (((Below.refl _ _).alloc (Nat.le_refl _) _).alloc (by simp) _)).2.2.2
        have r3 : (W0.alloc (.cells #[.int .i64 1] 3)).cell? ⟨w.heap.size, 1, none⟩ = some (.string nm) := (HK.out _ ((Below.refl _ _).alloc (Nat.le_refl _) _)).1
        go_region_law (first
          | (go_simp; go_at_call 49; refine (row_one a c vb _ (HT.out.mono (by first | exact (((Below.refl _ _).alloc (Nat.le_refl _) _).alloc (by simp) _).drew | exact ((Below.refl _ _).alloc (Nat.le_refl _) _).drew | exact (Below.refl _ _).drew | exact ((Below.refl _ _).alloc (Nat.le_refl _) _).alloc (by simp) _ | exact (Below.refl _ _).alloc (Nat.le_refl _) _)) hvz).mono ?_; rintro e w5 ⟨b, d, rfl, hN5, hb5, hB5⟩; have HBX := Lib.hid hB5; have HN5 := Lib.hid hN5; have HBQ := Lib.hid (show ∀ g off, b = some ⟨g, off, none⟩ → W0.heap.size ≤ g from fun g off e => by have := hb5 g off e; simp at this; omega); have HB5 := Lib.hid (show Below W0.heap.size W0 w5 from Below.step (by first | exact (((Below.refl _ _).alloc (Nat.le_refl _) _).alloc (by simp) _).drew | exact ((Below.refl _ _).alloc (Nat.le_refl _) _).drew | exact (Below.refl _ _).drew | exact ((Below.refl _ _).alloc (Nat.le_refl _) _).alloc (by simp) _ | exact (Below.refl _ _).alloc (Nat.le_refl _) _) hB5 (by first | (simp; done) | (simp; omega) | omega)); have r5 := (HK.out w5 HB5.out).1; have r6 : (w5.alloc (.cells #[.int .i64 1] 3)).cell? ⟨w.heap.size, 1, none⟩ = some (.string nm) := (HK.out _ (HB5.out.alloc HB5.out.size _)).1; clear hN5 hb5 hB5)
          | (refine step_append_own rfl (.tmp 18) (.tmp 27) 64 rfl (w5.heap.size + 1) 39 im (.agg #[.int .u8 0, .slice none 0 0, .slice none 0 0]) 3 56 Tryz.underlying64 him z0 z1 z2 rfl (by decide) (.slice none 0 0) 0 [] (by simp [Act.eval]) ⟨rfl, .inl ⟨rfl, rfl⟩⟩ ⟨w5.heap.size, 0, none⟩ 2 2 [.int .u8 84, .slice (some ⟨W0.heap.size, 0, none⟩) 1 1, .slice (some ⟨W0.heap.size + 1, 0, none⟩) 1 1, .int .u8 68, .slice a 1 c, .slice b 2 d] (by simp [Act.eval]) rfl ?c1 ?c2 ?c3 ?c4 ?c5 ?_; (case c1 => (have hs := six_cells (w5) (.int .u8 84) (.slice (some ⟨W0.heap.size, 0, none⟩) 1 1) (.slice (some ⟨W0.heap.size + 1, 0, none⟩) 1 1) (.int .u8 68) (.slice a 1 c) (.slice b 2 d) 39; (try simp only [World.size_alloc] at hs); exact hs)); (case c2 => (simp [Value.oneCell'])); (case c3 => (unfold maxLen; omega)); (case c4 => omega); (case c5 => (first | omega | (simp; done) | (simp; omega))); intro v' w6 hO6 hg6; have hbV : Below w5.heap.size w5 (w5) := Below.refl w5.heap.size w5; have hX : TextsIn (w5) (.slice (some ⟨W0.heap.size, 0, none⟩) 1 1) [bytes nm] := (TextsIn.mono (texts_one (by simp [go_sem])) HBX.out); have hY : NumsIn (w5) (.slice (some ⟨W0.heap.size + 1, 0, none⟩) 1 1) [1] := (NumsIn.mono (nums_one (by simp [go_sem])) HBX.out); have HR6 := Lib.hid (show RowIs W0.heap.size w6 nm vb a c v' from rowis_made (B := W0.heap.size) (V := w5) (gT := W0.heap.size) (gN := W0.heap.size + 1) hX hY ((HT.out.mono HB5.out).mono hbV) (HN5.out.mono hbV) HBQ.out (by first | exact hO6 | (simp only [World.size_alloc]; exact hO6)) hg6 (Nat.le_trans HB5.out.size hbV.size) (by have := HB5.out.size; omega) (by have := HB5.out.size; omega)); have HB6 := Lib.hid (show Below W0.heap.size W0 w6 from ((HB5.out.step hbV HB5.out.size).alloc (Nat.le_trans HB5.out.size hbV.size) _).grown hg6 (Nat.le_trans HB5.out.size (Nat.le_trans hbV.size (by simp only [World.size_alloc]; omega))) (fun k hk => by cases hk)); clear hO6 hg6 hbV hX hY)
          | (refine step_append_own rfl (.tmp 18) (.tmp 27) 64 rfl (w5.heap.size + 1) 39 im (.agg #[.int .u8 0, .slice none 0 0, .slice none 0 0]) 3 56 Tryz.underlying64 him z0 z1 z2 rfl (by decide) (.slice none 0 0) 0 [] (by simp [Act.eval]) ⟨rfl, .inl ⟨rfl, rfl⟩⟩ ⟨w5.heap.size, 0, none⟩ 2 2 [.int .u8 84, .slice (some ⟨W0.heap.size + 1, 0, none⟩) 1 1, .slice (some ⟨W0.heap.size, 0, none⟩) 1 1, .int .u8 68, .slice a 1 c, .slice b 2 d] (by simp [Act.eval]) rfl ?c1 ?c2 ?c3 ?c4 ?c5 ?_; (case c1 => (have hs := six_cells (w5) (.int .u8 84) (.slice (some ⟨W0.heap.size + 1, 0, none⟩) 1 1) (.slice (some ⟨W0.heap.size, 0, none⟩) 1 1) (.int .u8 68) (.slice a 1 c) (.slice b 2 d) 39; (try simp only [World.size_alloc] at hs); exact hs)); (case c2 => (simp [Value.oneCell'])); (case c3 => (unfold maxLen; omega)); (case c4 => omega); (case c5 => (first | omega | (simp; done) | (simp; omega))); intro v' w6 hO6 hg6; have hbV : Below w5.heap.size w5 (w5) := Below.refl w5.heap.size w5; have hX : TextsIn (w5) (.slice (some ⟨W0.heap.size + 1, 0, none⟩) 1 1) [bytes nm] := (TextsIn.mono (texts_one (by simp [go_sem])) HBX.out); have hY : NumsIn (w5) (.slice (some ⟨W0.heap.size, 0, none⟩) 1 1) [1] := (NumsIn.mono (nums_one (by simp [go_sem])) HBX.out); have HR6 := Lib.hid (show RowIs W0.heap.size w6 nm vb a c v' from rowis_made (B := W0.heap.size) (V := w5) (gT := W0.heap.size + 1) (gN := W0.heap.size) hX hY ((HT.out.mono HB5.out).mono hbV) (HN5.out.mono hbV) HBQ.out (by first | exact hO6 | (simp only [World.size_alloc]; exact hO6)) hg6 (Nat.le_trans HB5.out.size hbV.size) (by have := HB5.out.size; omega) (by have := HB5.out.size; omega)); have HB6 := Lib.hid (show Below W0.heap.size W0 w6 from ((HB5.out.step hbV HB5.out.size).alloc (Nat.le_trans HB5.out.size hbV.size) _).grown hg6 (Nat.le_trans HB5.out.size (Nat.le_trans hbV.size (by simp only [World.size_alloc]; omega))) (fun k hk => by cases hk)); clear hO6 hg6 hbV hX hY)
          | (refine step_append_own rfl (.tmp 18) (.tmp 27) 64 rfl (w5.heap.size + 1 + 1) 39 im (.agg #[.int .u8 0, .slice none 0 0, .slice none 0 0]) 3 56 Tryz.underlying64 him z0 z1 z2 rfl (by decide) (.slice none 0 0) 0 [] (by simp [Act.eval]) ⟨rfl, .inl ⟨rfl, rfl⟩⟩ ⟨w5.heap.size + 1, 0, none⟩ 2 2 [.int .u8 84, .slice (some ⟨W0.heap.size, 0, none⟩) 1 1, .slice (some ⟨w5.heap.size, 0, none⟩) 1 1, .int .u8 68, .slice a 1 c, .slice b 2 d] (by simp [Act.eval]) rfl ?c1 ?c2 ?c3 ?c4 ?c5 ?_; (case c1 => (have hs := six_cells (w5.alloc (.cells #[.int .i64 1] 3)) (.int .u8 84) (.slice (some ⟨W0.heap.size, 0, none⟩) 1 1) (.slice (some ⟨w5.heap.size, 0, none⟩) 1 1) (.int .u8 68) (.slice a 1 c) (.slice b 2 d) 39; (try simp only [World.size_alloc] at hs); exact hs)); (case c2 => (simp [Value.oneCell'])); (case c3 => (unfold maxLen; omega)); (case c4 => omega); (case c5 => (first | omega | (simp; done) | (simp; omega))); intro v' w6 hO6 hg6; have hbV : Below w5.heap.size w5 (w5.alloc (.cells #[.int .i64 1] 3)) := (Below.refl w5.heap.size w5).alloc (Nat.le_refl _) (.cells #[.int .i64 1] 3); have hX : TextsIn (w5.alloc (.cells #[.int .i64 1] 3)) (.slice (some ⟨W0.heap.size, 0, none⟩) 1 1) [bytes nm] := (TextsIn.mono (texts_one (by simp [go_sem])) HBX.out).mono hbV; have hY : NumsIn (w5.alloc (.cells #[.int .i64 1] 3)) (.slice (some ⟨w5.heap.size, 0, none⟩) 1 1) [1] := nums_one (by simp [go_sem]); have HR6 := Lib.hid (show RowIs W0.heap.size w6 nm vb a c v' from rowis_made (B := W0.heap.size) (V := w5.alloc (.cells #[.int .i64 1] 3)) (gT := W0.heap.size) (gN := w5.heap.size) hX hY ((HT.out.mono HB5.out).mono hbV) (HN5.out.mono hbV) HBQ.out (by first | exact hO6 | (simp only [World.size_alloc]; exact hO6)) hg6 (Nat.le_trans HB5.out.size hbV.size) (by have := HB5.out.size; omega) (by have := HB5.out.size; omega)); have HB6 := Lib.hid (show Below W0.heap.size W0 w6 from ((HB5.out.step hbV HB5.out.size).alloc (Nat.le_trans HB5.out.size hbV.size) _).grown hg6 (Nat.le_trans HB5.out.size (Nat.le_trans hbV.size (by simp only [World.size_alloc]; omega))) (fun k hk => by cases hk)); clear hO6 hg6 hbV hX hY)
          | (refine step_append_own rfl (.tmp 18) (.tmp 27) 64 rfl (w5.heap.size + 1 + 1) 39 im (.agg #[.int .u8 0, .slice none 0 0, .slice none 0 0]) 3 56 Tryz.underlying64 him z0 z1 z2 rfl (by decide) (.slice none 0 0) 0 [] (by simp [Act.eval]) ⟨rfl, .inl ⟨rfl, rfl⟩⟩ ⟨w5.heap.size + 1, 0, none⟩ 2 2 [.int .u8 84, .slice (some ⟨w5.heap.size, 0, none⟩) 1 1, .slice (some ⟨W0.heap.size, 0, none⟩) 1 1, .int .u8 68, .slice a 1 c, .slice b 2 d] (by simp [Act.eval]) rfl ?c1 ?c2 ?c3 ?c4 ?c5 ?_; (case c1 => (have hs := six_cells (w5.alloc (.cells #[.string nm] 9)) (.int .u8 84) (.slice (some ⟨w5.heap.size, 0, none⟩) 1 1) (.slice (some ⟨W0.heap.size, 0, none⟩) 1 1) (.int .u8 68) (.slice a 1 c) (.slice b 2 d) 39; (try simp only [World.size_alloc] at hs); exact hs)); (case c2 => (simp [Value.oneCell'])); (case c3 => (unfold maxLen; omega)); (case c4 => omega); (case c5 => (first | omega | (simp; done) | (simp; omega))); intro v' w6 hO6 hg6; have hbV : Below w5.heap.size w5 (w5.alloc (.cells #[.string nm] 9)) := (Below.refl w5.heap.size w5).alloc (Nat.le_refl _) (.cells #[.string nm] 9); have hX : TextsIn (w5.alloc (.cells #[.string nm] 9)) (.slice (some ⟨w5.heap.size, 0, none⟩) 1 1) [bytes nm] := texts_one (by simp [go_sem]); have hY : NumsIn (w5.alloc (.cells #[.string nm] 9)) (.slice (some ⟨W0.heap.size, 0, none⟩) 1 1) [1] := (NumsIn.mono (nums_one (by simp [go_sem])) HBX.out).mono hbV; have HR6 := Lib.hid (show RowIs W0.heap.size w6 nm vb a c v' from rowis_made (B := W0.heap.size) (V := w5.alloc (.cells #[.string nm] 9)) (gT := w5.heap.size) (gN := W0.heap.size) hX hY ((HT.out.mono HB5.out).mono hbV) (HN5.out.mono hbV) HBQ.out (by first | exact hO6 | (simp only [World.size_alloc]; exact hO6)) hg6 (Nat.le_trans HB5.out.size hbV.size) (by have := HB5.out.size; omega) (by have := HB5.out.size; omega)); have HB6 := Lib.hid (show Below W0.heap.size W0 w6 from ((HB5.out.step hbV HB5.out.size).alloc (Nat.le_trans HB5.out.size hbV.size) _).grown hg6 (Nat.le_trans HB5.out.size (Nat.le_trans hbV.size (by simp only [World.size_alloc]; omega))) (fun k hk => by cases hk)); clear hO6 hg6 hbV hX hY)
          | (refine step_append_own rfl (.tmp 18) (.tmp 27) 64 rfl (w5.heap.size + 1 + 1 + 1) 39 im (.agg #[.int .u8 0, .slice none 0 0, .slice none 0 0]) 3 56 Tryz.underlying64 him z0 z1 z2 rfl (by decide) (.slice none 0 0) 0 [] (by simp [Act.eval]) ⟨rfl, .inl ⟨rfl, rfl⟩⟩ ⟨w5.heap.size + 1 + 1, 0, none⟩ 2 2 [.int .u8 84, .slice (some ⟨w5.heap.size, 0, none⟩) 1 1, .slice (some ⟨w5.heap.size + 1, 0, none⟩) 1 1, .int .u8 68, .slice a 1 c, .slice b 2 d] (by simp [Act.eval]) rfl ?c1 ?c2 ?c3 ?c4 ?c5 ?_; (case c1 => (have hs := six_cells ((w5.alloc (.cells #[.string nm] 9)).alloc (.cells #[.int .i64 1] 3)) (.int .u8 84) (.slice (some ⟨w5.heap.size, 0, none⟩) 1 1) (.slice (some ⟨w5.heap.size + 1, 0, none⟩) 1 1) (.int .u8 68) (.slice a 1 c) (.slice b 2 d) 39; (try simp only [World.size_alloc] at hs); exact hs)); (case c2 => (simp [Value.oneCell'])); (case c3 => (unfold maxLen; omega)); (case c4 => omega); (case c5 => (first | omega | (simp; done) | (simp; omega))); intro v' w6 hO6 hg6; have hbV : Below w5.heap.size w5 ((w5.alloc (.cells #[.string nm] 9)).alloc (.cells #[.int .i64 1] 3)) := ((Below.refl w5.heap.size w5).alloc (Nat.le_refl _) (.cells #[.string nm] 9)).alloc (by simp) (.cells #[.int .i64 1] 3); have hX : TextsIn ((w5.alloc (.cells #[.string nm] 9)).alloc (.cells #[.int .i64 1] 3)) (.slice (some ⟨w5.heap.size, 0, none⟩) 1 1) [bytes nm] := texts_one (by simp [go_sem]); have hY : NumsIn ((w5.alloc (.cells #[.string nm] 9)).alloc (.cells #[.int .i64 1] 3)) (.slice (some ⟨w5.heap.size + 1, 0, none⟩) 1 1) [1] := nums_one (by simp [go_sem]); have HR6 := Lib.hid (show RowIs W0.heap.size w6 nm vb a c v' from rowis_made (B := W0.heap.size) (V := (w5.alloc (.cells #[.string nm] 9)).alloc (.cells #[.int .i64 1] 3)) (gT := w5.heap.size) (gN := w5.heap.size + 1) hX hY ((HT.out.mono HB5.out).mono hbV) (HN5.out.mono hbV) HBQ.out (by first | exact hO6 | (simp only [World.size_alloc]; exact hO6)) hg6 (Nat.le_trans HB5.out.size hbV.size) (by have := HB5.out.size; omega) (by have := HB5.out.size; omega)); have HB6 := Lib.hid (show Below W0.heap.size W0 w6 from ((HB5.out.step hbV HB5.out.size).alloc (Nat.le_trans HB5.out.size hbV.size) _).grown hg6 (Nat.le_trans HB5.out.size (Nat.le_trans hbV.size (by simp only [World.size_alloc]; omega))) (fun k hk => by cases hk)); clear hO6 hg6 hbV hX hY)
          | (refine step_append_own rfl (.tmp 18) (.tmp 27) 64 rfl (w5.heap.size + 1 + 1 + 1) 39 im (.agg #[.int .u8 0, .slice none 0 0, .slice none 0 0]) 3 56 Tryz.underlying64 him z0 z1 z2 rfl (by decide) (.slice none 0 0) 0 [] (by simp [Act.eval]) ⟨rfl, .inl ⟨rfl, rfl⟩⟩ ⟨w5.heap.size + 1 + 1, 0, none⟩ 2 2 [.int .u8 84, .slice (some ⟨w5.heap.size + 1, 0, none⟩) 1 1, .slice (some ⟨w5.heap.size, 0, none⟩) 1 1, .int .u8 68, .slice a 1 c, .slice b 2 d] (by simp [Act.eval]) rfl ?c1 ?c2 ?c3 ?c4 ?c5 ?_; (case c1 => (have hs := six_cells ((w5.alloc (.cells #[.int .i64 1] 3)).alloc (.cells #[.string nm] 9)) (.int .u8 84) (.slice (some ⟨w5.heap.size + 1, 0, none⟩) 1 1) (.slice (some ⟨w5.heap.size, 0, none⟩) 1 1) (.int .u8 68) (.slice a 1 c) (.slice b 2 d) 39; (try simp only [World.size_alloc] at hs); exact hs)); (case c2 => (simp [Value.oneCell'])); (case c3 => (unfold maxLen; omega)); (case c4 => omega); (case c5 => (first | omega | (simp; done) | (simp; omega))); intro v' w6 hO6 hg6; have hbV : Below w5.heap.size w5 ((w5.alloc (.cells #[.int .i64 1] 3)).alloc (.cells #[.string nm] 9)) := ((Below.refl w5.heap.size w5).alloc (Nat.le_refl _) (.cells #[.int .i64 1] 3)).alloc (by simp) (.cells #[.string nm] 9); have hX : TextsIn ((w5.alloc (.cells #[.int .i64 1] 3)).alloc (.cells #[.string nm] 9)) (.slice (some ⟨w5.heap.size + 1, 0, none⟩) 1 1) [bytes nm] := texts_one (by simp [go_sem]); have hY : NumsIn ((w5.alloc (.cells #[.int .i64 1] 3)).alloc (.cells #[.string nm] 9)) (.slice (some ⟨w5.heap.size, 0, none⟩) 1 1) [1] := nums_one (by simp [go_sem]); have HR6 := Lib.hid (show RowIs W0.heap.size w6 nm vb a c v' from rowis_made (B := W0.heap.size) (V := (w5.alloc (.cells #[.int .i64 1] 3)).alloc (.cells #[.string nm] 9)) (gT := w5.heap.size + 1) (gN := w5.heap.size) hX hY ((HT.out.mono HB5.out).mono hbV) (HN5.out.mono hbV) HBQ.out (by first | exact hO6 | (simp only [World.size_alloc]; exact hO6)) hg6 (Nat.le_trans HB5.out.size hbV.size) (by have := HB5.out.size; omega) (by have := HB5.out.size; omega)); have HB6 := Lib.hid (show Below W0.heap.size W0 w6 from ((HB5.out.step hbV HB5.out.size).alloc (Nat.le_trans HB5.out.size hbV.size) _).grown hg6 (Nat.le_trans HB5.out.size (Nat.le_trans hbV.size (by simp only [World.size_alloc]; omega))) (fun k hk => by cases hk)); clear hO6 hg6 hbV hX hY))
        all_goals
          (try simp [Act.put])
          go_wp2_with fail
          go_meet
          exact ⟨HR6.out, HB6.out⟩
      case rest =>
        obtain ⟨hRI, hBx⟩ := hcut
        have HBX := Lib.hid hBx
        obtain ⟨g1, h1, b1, d1, hO, hX, hY, hX2, hY2, ⟨q1, q2⟩, ⟨q3, q4⟩, q5, q6⟩ := hRI
        obtain ⟨gr, cr, rfl, hcr⟩ : ∃ gr cr, u5 = .slice (some ⟨gr, 0, none⟩) 2 cr ∧ 2 ≤ cr := by
          rcases hO.2 with ⟨_, h0⟩ | ⟨g2, cap2, cur2, e1, _, _, e3, _⟩
          · cases h0
          · exact ⟨g2, cap2, e1, e3⟩
        have HO := Lib.hid hO; have HX := Lib.hid hX; have HY := Lib.hid hY; have HX2 := Lib.hid hX2; have HY2 := Lib.hid hY2
        have HQ1 := Lib.hid q1; have HQ2 := Lib.hid q2; have HQ3 := Lib.hid q3; have HQ4 := Lib.hid q4; have HQ5 := Lib.hid q5; have HQ6 := Lib.hid q6
        clear hO hX hY hX2 hY2 q1 q2 q3 q4 q5 q6 hBx k1 l0 l1 l2
        obtain ⟨k1, l0, l1, l2⟩ := HK.out wc HBX.out
        by_cases ht : tag = { data := #[] }
        · subst ht
          have HM := Lib.hid (show outM (bytes nm) 0 (bytes { data := #[] }) [bytes vb] = [⟨84, [bytes nm], [1]⟩, ⟨68, [bytes vb], [1, (vb.size : Int)]⟩, ⟨73, [], []⟩] from by unfold outM rowM; rw [if_pos rfl, if_pos rfl, ← bytes_len vb]; rfl)
          go_wp2_with (at_builtin; refine wpList_append_at _ rfl (.tmp 32) (.tmp 34) 64 rfl W0.heap.size 39 im (.agg #[.int .u8 0, .slice none 0 0, .slice none 0 0]) 3 56 Tryz.underlying64 him z0 z1 z2 rfl (by decide) (.slice (some ⟨gr, 0, none⟩) 2 cr) 2 [.int .u8 84, .slice (some ⟨g1, 0, none⟩) 1 1, .slice (some ⟨h1, 0, none⟩) 1 1, .int .u8 68, .slice a 1 c, .slice b1 2 d1] rfl (HO.out.alloc _) ⟨wc.heap.size, 0, none⟩ 1 1 [.int .u8 73, .slice none 0 0, .slice none 0 0] rfl rfl (cells3G _ _ _ _ _) (by simp [Value.oneCell']) (by unfold maxLen; omega) (by omega) (by simp only [World.size_alloc]; have := HBX.out.size; omega) ?_)
          intro v3 w3 hO3 hg3 hf3
          have hlt9 := HO.out.lt
          have HO3 := Lib.hid hO3
          have HBN := Lib.hid (show Below wc.heap.size wc (wc.alloc (.cells #[.int .u8 73, .slice none 0 0, .slice none 0 0] 39)) from (Below.refl _ _).alloc (Nat.le_refl _) _)
          have HB3 := Lib.hid (show Below w.heap.size w w3 from ((HB.out.step HBX.out HB.out.size).step HBN.out (Nat.le_trans HB.out.size HBX.out.size)).grown hg3 (Nat.le_trans (Nat.le_trans HB.out.size HBX.out.size) HBN.out.size) (fun k hk => Nat.le_trans HB.out.size (hlt9 k hk).1))
          have HX3 := Lib.hid (texts_grown (HX.out.mono HBN.out) hg3 (fun _ g off e => by cases e; exact HQ2.out))
          have HY3 := Lib.hid (nums_grown (HY.out.mono HBN.out) hg3 (fun _ g off e => by cases e; exact HQ4.out))
          have HX4 := Lib.hid (texts_grown (HX2.out.mono HBN.out) hg3 (fun _ g off e => HQ6.out g off e))
          have HY4 := Lib.hid (nums_grown (HY2.out.mono HBN.out) hg3 (fun _ g off e => (HQ5.out g off e).2))
          clear hO3 hg3 hf3 hlt9
          go_wp2_with fail
          go_ret
          rw [HM.out]
          refine ⟨v3, _, rfl, own_baseG HO3.out HB.out.size, fun i x hx => ?_, HB3.out⟩
          match i, hx with
          | 0, hx =>
            obtain rfl := Option.some.inj hx
            exact ⟨_, 1, 1, _, 1, 1, rfl, rfl, rfl, HX3.out, HY3.out, fun _ g off e => (by cases e; exact .inr (Nat.le_trans HB.out.size HQ1.out)), fun _ g off e => (by cases e; exact .inr (Nat.le_trans HB.out.size HQ3.out))⟩
          | 1, hx =>
            obtain rfl := Option.some.inj hx
            exact ⟨_, 1, _, _, 2, _, rfl, rfl, rfl, HX4.out, HY4.out, fun _ g off e => .inl ⟨by simp, off, e⟩, fun _ g off e => .inr (Nat.le_trans HB.out.size (HQ5.out g off e).1)⟩
          | 2, hx =>
            obtain rfl := Option.some.inj hx
            exact ⟨none, 0, 0, none, 0, 0, rfl, rfl, rfl, textsG_nil _, numsG_nil _, fun h => absurd rfl h, fun h => absurd rfl h⟩
        · have htb : bytes tag ≠ [] := fun h => ht (by apply ByteArray.ext; apply Array.toList_inj.1; exact h)
          have hte : tag.toList.isEmpty = false := by rw [Lib.toList_data]; show (bytes tag).isEmpty = false; cases h : bytes tag with | nil => exact absurd h htb | cons _ _ => rfl
          have HM := Lib.hid (show outM (bytes nm) 0 (bytes tag) [bytes vb] = [⟨84, [bytes nm], [1]⟩, ⟨68, [bytes vb], [1, (vb.size : Int)]⟩, ⟨67, [bytes tag], []⟩] from by unfold outM rowM; rw [if_pos rfl, if_neg htb, ← bytes_len vb]; rfl)
          clear htb ht
          go_wp2_with (at_builtin; refine wpList_append_at _ rfl (.tmp 36) (.tmp 41) 64 rfl W0.heap.size 39 im (.agg #[.int .u8 0, .slice none 0 0, .slice none 0 0]) 3 56 Tryz.underlying64 him z0 z1 z2 rfl (by decide) (.slice (some ⟨gr, 0, none⟩) 2 cr) 2 [.int .u8 84, .slice (some ⟨g1, 0, none⟩) 1 1, .slice (some ⟨h1, 0, none⟩) 1 1, .int .u8 68, .slice a 1 c, .slice b1 2 d1] rfl ((HO.out.alloc _).alloc _) ⟨wc.heap.size + 1, 0, none⟩ 1 1 [.int .u8 67, .slice (some ⟨wc.heap.size, 0, none⟩) 1 1, .slice none 0 0] rfl rfl (by rw [show wc.heap.size + 1 = (wc.alloc (.cells #[.string tag] 9)).heap.size by rw [World.size_alloc]]; exact cells3G _ _ _ _ _) (by simp [Value.oneCell']) (by unfold maxLen; omega) (by omega) (by simp only [World.size_alloc]; have := HBX.out.size; omega) ?_)
          intro v3 w3 hO3 hg3 hf3
          have hlt9 := HO.out.lt
          have HO3 := Lib.hid hO3
          have HBN := Lib.hid (show Below wc.heap.size wc ((wc.alloc (.cells #[.string tag] 9)).alloc (.cells #[.int .u8 67, .slice (some ⟨wc.heap.size, 0, none⟩) 1 1, .slice none 0 0] 39)) from ((Below.refl _ _).alloc (Nat.le_refl _) _).alloc (by simp) _)
          have HB3 := Lib.hid (show Below w.heap.size w w3 from ((HB.out.step HBX.out HB.out.size).step HBN.out (Nat.le_trans HB.out.size HBX.out.size)).grown hg3 (Nat.le_trans (Nat.le_trans HB.out.size HBX.out.size) HBN.out.size) (fun k hk => Nat.le_trans HB.out.size (hlt9 k hk).1))
          have HX3 := Lib.hid (texts_grown (HX.out.mono HBN.out) hg3 (fun _ g off e => by cases e; exact HQ2.out))
          have HY3 := Lib.hid (nums_grown (HY.out.mono HBN.out) hg3 (fun _ g off e => by cases e; exact HQ4.out))
          have HX4 := Lib.hid (texts_grown (HX2.out.mono HBN.out) hg3 (fun _ g off e => HQ6.out g off e))
          have HY4 := Lib.hid (nums_grown (HY2.out.mono HBN.out) hg3 (fun _ g off e => (HQ5.out g off e).2))
          have HT3 := Lib.hid (show TextsIn w3 (.slice (some ⟨wc.heap.size, 0, none⟩) 1 1) [bytes tag] from texts_grown (texts_one (by simp [go_sem])) hg3 (fun _ g off e => by cases e; intro e; have := (hlt9 _ e.symm).2; omega))
          clear hO3 hg3 hf3 hlt9
          go_wp2_with fail
          go_ret
          rw [HM.out]
          refine ⟨v3, _, rfl, own_baseG HO3.out HB.out.size, fun i x hx => ?_, HB3.out⟩
          match i, hx with
          | 0, hx =>
            obtain rfl := Option.some.inj hx
            exact ⟨_, 1, 1, _, 1, 1, rfl, rfl, rfl, HX3.out, HY3.out, fun _ g off e => (by cases e; exact .inr (Nat.le_trans HB.out.size HQ1.out)), fun _ g off e => (by cases e; exact .inr (Nat.le_trans HB.out.size HQ3.out))⟩
          | 1, hx =>
            obtain rfl := Option.some.inj hx
            exact ⟨_, 1, _, _, 2, _, rfl, rfl, rfl, HX4.out, HY4.out, fun _ g off e => .inl ⟨by simp, off, e⟩, fun _ g off e => .inr (Nat.le_trans HB.out.size (HQ5.out g off e).1)⟩
          | 2, hx =>
            obtain rfl := Option.some.inj hx
            exact ⟨_, 1, 1, none, 0, 0, rfl, rfl, rfl, HT3.out, numsG_nil _, fun _ g off e => (by cases e; exact .inr (Nat.le_trans HB.out.size HBX.out.size)), fun h => absurd rfl h⟩
  · have hne : (err != 0) = true := by simpa using he
    have HM := Lib.hid (show outM (bytes nm) err (bytes tag) Row = [⟨69, [g_error, Lib.itoa err], [2, 83, 67]⟩] from if_neg he)
    clear he
    go_wp2_with fail
    rw [← HE.out]
    refine (Tryz.strconv_Itoa err (by omega) (by omega) W0 HU.out).mono ?_; rintro e w1 ⟨rfl, hw1⟩
    have hb1 : Below W0.heap.size W0 w1 := by obtain ⟨k, os, rfl⟩ := hw1; exact below_grow _ _ (Nat.le_refl _) _ _
    have HB1 := Lib.hid hb1
    clear hw1 hb1
    go_wp2_with fail
    refine (faultM_at _ w1).mono ?_; rintro e w2 ⟨p, q, rfl, hT2, hN2, hpq, hb2⟩
    have HT2 := Lib.hid hT2; have HN2 := Lib.hid hN2; have HB2 := Lib.hid (HB.out.step (HB1.out.step hb2 HB1.out.size) HB.out.size)
    have HP := Lib.hid (show w.heap.size ≤ p ∧ w.heap.size ≤ q ∧ w.heap.size ≤ w2.heap.size from by have := HB1.out.size; have := HB.out.size; have := hb2.size; omega)
    have HPL := Lib.hid (show p < w2.heap.size ∧ q < w2.heap.size from ⟨texts_lt hT2 (by simp) rfl, nums_lt hN2 (by simp) rfl⟩)
    clear hT2 hN2 hpq hb2
    go_wp2_with fail
    go_ret
    have hbn := (Below.refl w2.heap.size w2).alloc (Nat.le_refl _) (.cells #[.int .u8 69, .slice (some ⟨p, 0, none⟩) 2 2, .slice (some ⟨q, 0, none⟩) 3 3] 39)
    rw [HM.out]
    refine ⟨_, _, rfl, own_msg w2 _ _ _ _ _ HP.out.2.2, fun i x hx => ?_, HB2.out.alloc HP.out.2.2 _⟩
    match i, hx with
    | 0, hx =>
      obtain rfl := Option.some.inj hx
      exact ⟨_, 2, 2, _, 3, 3, rfl, rfl, rfl, HT2.out.mono hbn, HN2.out.mono hbn, fun _ g off e => (by cases e; exact .inr HP.out.1), fun _ g off e => (by cases e; exact .inr HP.out.2.1)⟩
end Go.Proofs.YtpijolcklmdjbaaGreatDoor
