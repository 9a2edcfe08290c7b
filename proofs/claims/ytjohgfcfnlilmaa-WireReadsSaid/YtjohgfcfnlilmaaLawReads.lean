/- Any pieces, however many frames are asked for behind each: WireReads answers true, and leaves what was there as it was. -/
import Derived.Test.YtjohgfcfnlilmaaHas
import Derived.Test.YtjohgfcfnlilmaaLawCuts
import Derived.Test.YtjohgfcfnlilmaaRef
import Derived.SliceStrings
import Derived.Deep.RegionHeld3
namespace Go.Proofs.Ytjohgfcfnlilmaa
open Go.ChangeShapes Go.WideShapes Go.ChangeAt Go.RowKit Go.Joins
open Go.Lib (toList_data extract_data)

theorem Try.info23 : (Try.prog.info? 23).map (fun i => (i.zero, i.size, i.bytes)) = some (some (.agg #[.int .u8 0, .string { data := #[] }]), 2, 24) := by kernel_rfl

theorem stand_small {all s : ByteArray} {bare b : Bool} {er : Int} {g : List (Nat × ByteArray)} (h : Stand all bare g s b er) : 5 * g.length ≤ all.size + 1 ∧ s.size ≤ all.size + 1 := by
  rcases h with ⟨_, h⟩ | ⟨_, _, rfl, s', h, _⟩
  · have := h.five; split at this <;> omega
  · have := h.five
    have e : ({ data := #[] } : ByteArray).size = 0 := rfl
    split at this <;> omega

/-- Feed, whether the reader has ended or not. -/
theorem has_fed {w1 wr : World} {all s x : ByteArray} {bare b : Bool} {er : Int} {o : Value} {g : List (Nat × ByteArray)} (h : Has w1 wr s b er o g) (hS : Stand all bare g s b er) (hx : x.size ≤ 140737488351232) (ha : all.size ≤ 40000) :
    ∃ s2, Stand (all ++ x) bare g s2 b er ∧ Calls Try.prog 19 #[.pointer (some ⟨w1.heap.size, 0, none⟩), .string x] wr fun e w' => e = .returned (.tuple #[]) ∧ Has w1 w' s2 b er o g := by
  have hz := stand_small hS
  by_cases he : er = 0
  · subst he
    exact ⟨s ++ x, hS.fed, has_feed h (by omega) (by omega)⟩
  · exact ⟨s, hS.fed_ended he, has_fed_ended h he⟩

/-- The end: all frames of all are told, and E is told behind them. -/
def Ended (all : ByteArray) (bare : Bool) (g : List (Nat × ByteArray)) (s : ByteArray) (b : Bool) (er E : Int) : Prop :=
  ¬ E = 0 ∧ ∃ s2, Steps all bare g s2 b ∧ frameE s2 b = E ∧ s = (if E = 4 then s2 else { data := #[] }) ∧ er = (if E = 4 then 0 else E)

theorem has_last {w1 wr : World} {all s : ByteArray} {bare b : Bool} {er E : Int} {o : Value} {g : List (Nat × ByteArray)} (h : Has w1 wr s b er o g) (hE : Ended all bare g s b er E) :
    Calls Try.prog 20 #[.pointer (some ⟨w1.heap.size, 0, none⟩)] wr fun e w' => e = .returned (.tuple #[.agg #[.int .u8 0, .string { data := #[] }], .int .i64 E]) ∧ Has w1 w' s b er o g := by
  have H := h
  obtain ⟨⟨v, hR, hv⟩, hB, hz, hO⟩ := h
  obtain ⟨h0, s2, hS, h2, hs, her⟩ := hE
  by_cases h4 : E = 4
  · subst h4
    rw [if_pos rfl] at hs her
    subst hs her
    refine (next_more w1.heap.size v s b wr hR h2).mono ?_
    rintro e w' ⟨rfl, hb⟩
    exact ⟨rfl, H.grown hb⟩
  · rw [if_neg h4] at her
    subst her
    refine (next_ended w1.heap.size v _ b er wr hR h0).mono ?_
    rintro e w' ⟨rfl, hb⟩
    exact ⟨rfl, H.grown hb⟩

theorem told_no {all s' B : ByteArray} {bare b' : Bool} {g : List (Nat × ByteArray)} {E er' : Int} {T : Nat} (h : Told all bare g E T B s' b' er') (hE : ¬ E = 0) : Stand all bare g s' b' er' := by
  rcases h with ⟨h, _⟩ | ⟨_, _, _, _, h, _⟩
  · exact absurd h hE
  · exact h

theorem told_ended {all s' B : ByteArray} {bare b' : Bool} {g : List (Nat × ByteArray)} {E er' : Int} {T : Nat} (h : Told all bare g E T B s' b' er') (hE : ¬ E = 0) : Ended all bare g s' b' er' E := by
  rcases h with ⟨h, _⟩ | ⟨h0, _, _, h3, _, s2, h5, h6, h7⟩
  · exact absurd h hE
  · exact ⟨h0, s2, h5, h6, h7, h3⟩

theorem told_yes {all s' B : ByteArray} {bare b' : Bool} {g : List (Nat × ByteArray)} {er' : Int} {T : Nat} (h : Told all bare g 0 T B s' b' er') : er' = 0 ∧ Stand all bare (g ++ [(T, B)]) s' b' er' := by
  rcases h with ⟨_, h1, h2⟩ | ⟨h, _⟩
  · exact ⟨h1, h2⟩
  · exact absurd rfl h

theorem row_head {w : World} {base size n cap : Nat} {e : TypeId} {a : Option Addr} {xs : List Value} (h : w.ownsRow base e size (.slice a n cap) n xs) (hn : 0 < n) : ∃ g, a = some ⟨g, 0, none⟩ := by
  rcases h.2 with ⟨_, h0⟩ | ⟨g, c, cur, hv, _⟩
  · omega
  · simp only [Value.slice.injEq] at hv
    exact ⟨g, hv.1⟩

theorem frameCells_at (g : List (Nat × ByteArray)) (j : Nat) (h : j < g.length) : (frameCells g)[j * 2]? = some (.int .u8 (g[j].1 : Nat)) ∧ (frameCells g)[j * 2 + 1]? = some (.string g[j].2) := by
  induction g generalizing j with
  | nil => simp at h
  | cons q g ih =>
    cases j with
    | zero => simp [frameCells]
    | succ j =>
      have := ih j (by simpa using h)
      have e1 : (j + 1) * 2 = j * 2 + 2 := by omega
      have e2 : (j + 1) * 2 + 1 = j * 2 + 1 + 2 := by omega
      rw [e1, show j * 2 + 2 + 1 = j * 2 + 1 + 2 by omega]
      simpa [frameCells] using this

theorem held_four {w w' w'' : World} {a0 a1 b0 b1 : Addr} {n : Nat} {x0 x1 y0 y1 : Value} (h : (w'.cell? a0 = some x0 ∧ w'.cell? a1 = some x1 ∧ w'.cell? b0 = some y0 ∧ w'.cell? b1 = some y1) ∧ Below n w w' ∧ n ≤ w'.heap.size)
    (h0 : a0.block < n) (h1 : a1.block < n) (h2 : b0.block < n) (h3 : b1.block < n) (hb : Below w'.heap.size w' w'') : (w''.cell? a0 = some x0 ∧ w''.cell? a1 = some x1 ∧ w''.cell? b0 = some y0 ∧ w''.cell? b1 = some y1) ∧ Below n w w'' ∧ n ≤ w''.heap.size := by
  obtain ⟨⟨c0, c1, c2, c3⟩, h4, h5⟩ := h
  have hz := hb.size
  exact ⟨⟨(hb.cell (by omega)).trans c0, (hb.cell (by omega)).trans c1, (hb.cell (by omega)).trans c2, (hb.cell (by omega)).trans c3⟩, h4.step hb h5, by omega⟩

/-- The texts that lie from place off of block b on. -/
def TextsAt (w : World) (b off n : Nat) (T : Nat → ByteArray) : Prop := ∀ i, i < n → w.cell? ⟨b, off + i, none⟩ = some (.string (T i))

theorem app_size (a b : ByteArray) : (a ++ b).size = a.size + b.size := append_size a b

set_option maxRecDepth 100000 in
set_option maxHeartbeats 4000000 in
theorem reads_walk (l0 l1 : Option Addr) (len cap : Nat) (T : Nat → ByteArray) (cn ccap : Nat) (c : Nat → Int) (bare : Bool) (w : World) (hlen : len ≤ 100) (hT : len = 0 ∨ ∃ b off, l0 = some ⟨b, off, none⟩ ∧ b < w.heap.size ∧ TextsAt w b off len T) (hTz : ∀ i, i < len → (T i).size ≤ 140737488351232)
    (hC : cn = 0 ∨ ∃ d cof, l1 = some ⟨d, cof, none⟩ ∧ d < w.heap.size ∧ CutsAt w d cof cn c) (hcr : ∀ i, i < cn → -9223372036854775808 ≤ c i ∧ c i ≤ 9223372036854775807) :
    Calls Try.prog 5 #[.slice l0 len cap, .slice l1 cn ccap, .bool bare] w fun e w' => e = .returned (.bool true) ∧ Below w.heap.size w w' := by
  obtain ⟨i0, hi, y0, y1, y2⟩ := info_parts Try.info23
  have HT := Lib.hid hT; have HTZ := Lib.hid hTz; have HC := Lib.hid hC; have HCR := Lib.hid hcr
  clear hT hTz hC hcr
  go_enter Try.func5, Try.ntmps5
  go_wp2_with fail
  refine (shown_true _).mono ?_; rintro e w1 ⟨rfl, hb1⟩
  have hz1 := hb1.size
  have HB1 := Lib.hid hb1
  clear hb1
  go_wp2_with fail
  refine (new_any bare _).mono ?_; rintro e w2 ⟨rfl, rfl⟩
  have hf2 := has_new w1 bare
  generalize w1.alloc (.cells #[.slice none 0 0, .bool bare, .int .i64 0] 62) = w2 at hf2 ⊢
  go_wp2_with fail
  go_loopw [9, 10, 12] (fun a o i wr => ∃ (k : Nat) (all s : ByteArray) (b : Bool) (er : Int) (g : List (Nat × ByteArray)), k ≤ len ∧ i = .int .i64 k ∧ a = .string all ∧ all.size ≤ 40000 ∧ Has w1 wr s b er o g ∧ Stand all bare g s b er) (fun _ _ i _ => len - (intOf i).toNat)
  case atStart => exact ⟨0, { data := #[] }, { data := #[] }, bare, 0, [], Nat.zero_le _, rfl, rfl, by decide, hf2, .inl ⟨rfl, .none _ _⟩⟩
  case round =>
    obtain ⟨k, all, s, b, er, g, hk, rfl, rfl, ha, hH, hS⟩ := hrel
    clear hf2
    by_cases hlt : k < len
    · obtain ⟨x, hx⟩ : ∃ x, x = T k := ⟨_, rfl⟩
      obtain ⟨tb, off, hl0, hb, hTT⟩ : ∃ b off, l0 = some ⟨b, off, none⟩ ∧ b < w.heap.size ∧ TextsAt w b off len T := HT.out.elim (fun h => by omega) id
      subst hl0
      have hck := hTT k hlt
      clear hTT
      have hxz := HTZ.out k hlt
      rw [← hx] at hck hxz
      clear hx
      have c0 : wr.cell? ⟨tb, off + k, none⟩ = some (.string x) := ((HB1.out.step hH.below hz1).cell (p := ⟨tb, off + k, none⟩) hb).trans hck
      obtain ⟨s2, hS2, hcall⟩ := has_fed hH hS hxz ha
      have HCALL := Lib.hid hcall; have HS2 := Lib.hid hS2
      clear hcall hS2 hH hS
      go_wp2_with fail
      refine HCALL.out.mono ?_; rintro e w3 ⟨rfl, hH3⟩
      have c1 : w3.cell? ⟨tb, off + k, none⟩ = some (.string x) := ((HB1.out.step hH3.below hz1).cell (p := ⟨tb, off + k, none⟩) hb).trans hck
      have HH3 := Lib.hid hH3
      clear hH3 HCALL c0 hck
      have HSUM := Lib.hid (app_size all x)
      by_cases h4 : all.size + x.size ≤ 40000
      · have h4' : (all.size : Int) + x.size ≤ 40000 := by omega
        go_wp2_with fail
        rw [← HSUM.out] at h4
        obtain ⟨A, hA⟩ : ∃ A, A = all ++ x := ⟨_, rfl⟩
        rw [← hA] at HS2 h4 ⊢
        have HA4 := Lib.hid h4
        clear HSUM h4' hA h4
        go_loopw [10, 13] (fun o j wq => ∃ (m : Nat) (s3 : ByteArray) (b3 : Bool) (er3 : Int) (g3 : List (Nat × ByteArray)), m ≤ 4 ∧ j = .int .i64 m ∧ Has w1 wq s3 b3 er3 o g3 ∧ Stand A bare g3 s3 b3 er3) (fun _ j _ => 4 - (intOf j).toNat)
        case atStart => exact ⟨0, s2, b, er, g, by omega, rfl, HH3.out, HS2.out⟩
        case round =>
          obtain ⟨m, s3, b3, er3, g2, hm, rfl, hH4, hS4⟩ := hrel
          clear HS2 HH3 c1
          by_cases hkc : k < cn
          · obtain ⟨d, cof, hl1, hd, hCC⟩ : ∃ d cof, l1 = some ⟨d, cof, none⟩ ∧ d < w.heap.size ∧ CutsAt w d cof cn c := HC.out.elim (fun h => by omega) id
            subst hl1
            have c1 : wr.cell? ⟨d, cof + k, none⟩ = some (.int .i64 (c k)) := ((HB1.out.step hH4.below hz1).cell (p := ⟨d, cof + k, none⟩) hd).trans (hCC k hkc)
            clear hCC
            have hp := pk_lt (c k) 4 (by omega)
            have hpick := fun W => pick_any (c k) 4 W (by omega) (by omega) (HCR.out k hkc)
            obtain ⟨n, hn⟩ : ∃ n, n = pk (c k) 4 := ⟨_, rfl⟩
            rw [← hn] at hp hpick
            have HPK := Lib.hid hpick; have HH4 := Lib.hid hH4; have HS4 := Lib.hid hS4
            clear hpick hn hH4 hS4
            by_cases hmn : m < n
            · go_wp2_with fail
              refine (HPK.out _).mono ?_; rintro e w5 ⟨rfl, rfl⟩
              clear c1
              have hT := has_next HH4.out HS4.out
              obtain ⟨E, FT, FB, s5, b5, er5, hTold, hE0, hE5, hFT, hFB, hcall⟩ := hT
              have HTOLD := Lib.hid hTold; have HCALL := Lib.hid hcall
              clear hTold hcall
              by_cases hE : E = 0
              · subst hE
                go_wp2_with fail
                refine HCALL.out.mono ?_; rintro e w6 ⟨rfl, hH6⟩
                have hO := hH6.row
                obtain ⟨oa, oc, rfl⟩ := ownsRow_form hO
                have hO6 := (hO.kept (row := none) (World.grownBy_alloc w6 (.cells #[.int .u8 (FT : Nat), .string FB] 23) none) (by cases (Value.slice oa g2.length oc).ownBlock <;> simp))
                have hsm := (stand_small (told_yes HTOLD.out).2).1
                rw [show (g2 ++ [(FT, FB)]).length = g2.length + 1 by simp] at hsm
                have hl : (g2 ++ [(FT, FB)]).length = g2.length + 1 := by simp
                have hfc := frameCells_snoc g2 (FT, FB)
                have hB6 : w1.heap.size + 1 ≤ w6.heap.size := by have := hH6.lt; omega
                have HH6 := Lib.hid hH6; have HSM := Lib.hid hsm; have HL := Lib.hid hl; have HFC := Lib.hid hfc
                clear hH6 hsm hO hl hfc HCALL HH4 HS4
                go_wp2_with (at_builtin; refine wpList_append_own_wide _ rfl (.tmp 87) (.tmp 89) 42 rfl (w1.heap.size + 1) 23 i0 (.agg #[.int .u8 0, .string { data := #[] }]) 2 24 Try.underlying42 hi y0 y1 y2 rfl (by decide) (.slice oa g2.length oc) g2.length (frameCells g2) rfl (hO6.alloc _) ⟨w6.heap.size + 1, 0, none⟩ 1 1 [.int .u8 (FT : Nat), .string FB] rfl rfl ?c1 ?c2 ?c3 ?c4 ?c5 ?_)
                case c1 => intro j u h; rw [Go.WideShapes.add_plain, Nat.zero_add, ← h]; exact (World.cell?_alloc2_new _ _ _ _).trans (by simp)
                case c2 => intro u hu; simp at hu; rcases hu with rfl | rfl <;> rfl
                case c3 => simp only [maxLen]; have := HSM.out; have := HA4.out; omega
                case c4 => have := HSM.out; have := HA4.out; omega
                case c5 => simp; omega
                intro v' w7 hO7 hg7 _
                rw [← HFC.out, ← HL.out] at hO7
                have HH7 := Lib.hid (((HH6.out.alloc _).alloc _).put hO7 hg7)
                clear hO7 hg7 hO6 HH6 HFC HL hB6
                go_wp2_with fail
                go_roundw
                case rel => exact ⟨m + 1, s5, b5, er5, _, by omega, by go_num, HH7.out, (told_yes HTOLD.out).2⟩
                case measure => simp [intOf]; omega
              · have hE' : (E == 0) = false := by simpa using hE
                go_wp2_with fail
                refine HCALL.out.mono ?_; rintro e w6 ⟨rfl, hH6⟩
                have HH6 := Lib.hid hH6
                clear hH6 HCALL HH4 HS4
                go_wp2_with fail
                go_roundw
                case rel => exact ⟨m + 1, s5, b5, er5, g2, by omega, by go_num, HH6.out.alloc _, told_no HTOLD.out hE⟩
                case measure => simp [intOf]; omega
            · go_wp2_with fail
              refine (HPK.out _).mono ?_; rintro e w5 ⟨rfl, rfl⟩
              go_wp2_with fail
              go_roundw
              case rel => exact ⟨k + 1, A, s3, b3, er3, g2, by omega, by go_num, rfl, HA4.out, HH4.out, HS4.out⟩
              case measure => simp [intOf]; omega
          · have HH4 := Lib.hid hH4; have HS4 := Lib.hid hS4
            clear hH4 hS4
            have hkd : decide (k < cn) = false := by simpa using hkc
            go_wp2_with fail
            go_roundw
            case rel => exact ⟨k + 1, A, s3, b3, er3, g2, by omega, by go_num, rfl, HA4.out, HH4.out, HS4.out⟩
            case measure => simp [intOf]; omega
      · have h4' : 40000 < (all.size : Int) + x.size := by omega
        go_wp2_with fail
        go_ret
        exact ⟨rfl, HB1.out.step HH3.out.below hz1⟩
    · obtain rfl : k = len := by omega
      have HH := Lib.hid hH; have HS := Lib.hid hS; have HA4 := Lib.hid ha
      clear hH hS ha hlt
      go_wp2_with fail
      go_loopw [10, 11, 16] (fun o l j wq => ∃ (m : Nat) (E : Int) (s3 : ByteArray) (b3 : Bool) (er3 : Int) (g3 : List (Nat × ByteArray)), m ≤ 9000 ∧ j = .int .i64 m ∧ l = .int .i64 E ∧ Has w1 wq s3 b3 er3 o g3 ∧ Stand all bare g3 s3 b3 er3 ∧ ((E = 0 ∧ m ≤ g3.length) ∨ Ended all bare g3 s3 b3 er3 E)) (fun _ _ j _ => 10000 - (intOf j).toNat)
      case atStart => exact ⟨0, 0, s, b, er, g, by omega, rfl, rfl, HH.out, HS.out, .inl ⟨rfl, Nat.zero_le _⟩⟩
      case round =>
        obtain ⟨m, E0, s3, b3, er3, g2, hm, rfl, rfl, hH4, hS4, hE4⟩ := hrel
        clear HH HS
        by_cases hz : E0 = 0
        · subst hz
          have hml : m ≤ g2.length := hE4.elim (fun h => h.2) (fun h => absurd rfl h.1)
          have hsz := (stand_small hS4).1
          have ha4 := HA4.out
          have hT := has_next hH4 hS4
          obtain ⟨E, FT, FB, s5, b5, er5, hTold, hE0, hE5, hFT, hFB, hcall⟩ := hT
          have HTOLD := Lib.hid hTold; have HCALL := Lib.hid hcall; have HH4 := Lib.hid hH4; have HS4 := Lib.hid hS4
          clear hTold hcall hH4 hS4 hE4
          by_cases hE : E = 0
          · subst hE
            go_wp2_with fail
            refine HCALL.out.mono ?_; rintro e w6 ⟨rfl, hH6⟩
            have hO := hH6.row
            obtain ⟨oa, oc, rfl⟩ := ownsRow_form hO
            have hO6 := (hO.kept (row := none) (World.grownBy_alloc w6 (.cells #[.int .u8 (FT : Nat), .string FB] 23) none) (by cases (Value.slice oa g2.length oc).ownBlock <;> simp))
            have hsm := (stand_small (told_yes HTOLD.out).2).1
            rw [show (g2 ++ [(FT, FB)]).length = g2.length + 1 by simp] at hsm
            have hl : (g2 ++ [(FT, FB)]).length = g2.length + 1 := by simp
            have hfc := frameCells_snoc g2 (FT, FB)
            have hB6 : w1.heap.size + 1 ≤ w6.heap.size := by have := hH6.lt; omega
            have HH6 := Lib.hid hH6; have HSM := Lib.hid hsm; have HL := Lib.hid hl; have HFC := Lib.hid hfc
            clear hH6 hsm hO hl hfc HCALL HH4 HS4
            go_wp2_with (at_builtin; refine wpList_append_own_wide _ rfl (.tmp 107) (.tmp 109) 42 rfl (w1.heap.size + 1) 23 i0 (.agg #[.int .u8 0, .string { data := #[] }]) 2 24 Try.underlying42 hi y0 y1 y2 rfl (by decide) (.slice oa g2.length oc) g2.length (frameCells g2) rfl (hO6.alloc _) ⟨w6.heap.size + 1, 0, none⟩ 1 1 [.int .u8 (FT : Nat), .string FB] rfl rfl ?c1 ?c2 ?c3 ?c4 ?c5 ?_)
            case c1 => intro j u h; rw [Go.WideShapes.add_plain, Nat.zero_add, ← h]; exact (World.cell?_alloc2_new _ _ _ _).trans (by simp)
            case c2 => intro u hu; simp at hu; rcases hu with rfl | rfl <;> rfl
            case c3 => simp only [maxLen]; have := HSM.out; have := HA4.out; omega
            case c4 => have := HSM.out; have := HA4.out; omega
            case c5 => simp; omega
            intro v' w7 hO7 hg7 _
            rw [← HFC.out, ← HL.out] at hO7
            have HH7 := Lib.hid (((HH6.out.alloc _).alloc _).put hO7 hg7)
            clear hO7 hg7 hO6 HH6 HFC HL hB6
            go_wp2_with fail
            go_roundw
            case rel => exact ⟨m + 1, 0, s5, b5, er5, _, by omega, by go_num, rfl, HH7.out, (told_yes HTOLD.out).2, .inl ⟨rfl, by rw [List.length_append]; simp; omega⟩⟩
            case measure => simp [intOf]; omega
          · have hE' : (E == 0) = false := by simpa using hE
            go_wp2_with fail
            refine HCALL.out.mono ?_; rintro e w6 ⟨rfl, hH6⟩
            have HH6 := Lib.hid hH6
            clear hH6 HCALL HH4 HS4
            go_wp2_with fail
            go_roundw
            case rel => exact ⟨m + 1, E, s5, b5, er5, g2, by omega, by go_num, rfl, HH6.out.alloc _, told_no HTOLD.out hE, .inr (told_ended HTOLD.out hE)⟩
            case measure => simp [intOf]; omega
        · have hE : Ended all bare g2 s3 b3 er3 E0 := hE4.resolve_left (fun h => hz h.1)
          have hz' : (E0 == 0) = false := by simpa using hz
          have hm' : m < 10000 := by omega
          have hg9 : g2.length ≤ 9000 := by have := (stand_small hS4).1; have := HA4.out; omega
          have HH4 := Lib.hid hH4; have HE := Lib.hid hE
          clear hH4 hS4 hE4 hE
          go_wp2_with fail
          refine (all_any all bare _ (by have := HA4.out; omega)).mono ?_
          rintro e w5 ⟨v, g9, s9, b9, rfl, hSt, hN9, hO9, hb9⟩
          obtain ⟨_, s2, hS2, h2, hs3, her3⟩ := HE.out
          obtain ⟨rfl, rfl, rfl⟩ := hS2.same (by rw [h2]; exact hz) hSt hN9
          rw [h2, ← hs3]
          clear hS2 hSt hN9 h2 hs3 her3
          have hH5 := HH4.out.grown hb9
          obtain ⟨oa, oc, rfl⟩ := ownsRow_form hH5.row
          obtain ⟨va, vc, rfl⟩ := ownsRow_form hO9
          have HH5 := Lib.hid hH5; have HO9 := Lib.hid hO9
          have hz5 : wr.heap.size ≤ w5.heap.size := hb9.size
          clear hH5 hO9 hb9 HH4 HT HTZ HC HCR
          go_wp2_with fail
          refine (has_left HH5.out).mono ?_; rintro e w6 ⟨rfl, rfl⟩
          go_wp2_with fail
          obtain ⟨B9, hB9⟩ : ∃ B9, B9 = wr.heap.size := ⟨_, rfl⟩
          rw [← hB9] at HO9
          clear hB9 hz5
          go_loopw [22, 22] (fun i _ wq => ∃ j : Nat, j ≤ g2.length ∧ i = .int .i64 j ∧ Has w1 wq s3 b3 er3 (.slice oa g2.length oc) g2 ∧ wq.ownsRow B9 29 2 (.slice va g2.length vc) g2.length (frameCells g2)) (fun i _ _ => g2.length - (intOf i).toNat)
          case atStart => exact ⟨0, Nat.zero_le _, rfl, HH5.out, HO9.out⟩
          case round =>
            obtain ⟨j, hj, rfl, hH7, hO7⟩ := hrel
            clear HH5 HO9
            by_cases hjl : j < g2.length
            · obtain ⟨gb, rfl⟩ := row_head hH7.row (by omega)
              obtain ⟨vb, rfl⟩ := row_head hO7 (by omega)
              obtain ⟨q, hq⟩ : ∃ q, q = g2[j] := ⟨_, rfl⟩
              have hfa := frameCells_at g2 j hjl
              rw [← hq] at hfa
              have c0 : wr.cell? ⟨gb, j * 2, none⟩ = some (.int .u8 (q.1 : Nat)) := (hH7.row.cellAt (j * 2) (by omega)).trans hfa.1
              have c1 : wr.cell? ⟨gb, j * 2 + 1, none⟩ = some (.string q.2) := (hH7.row.cellAt (j * 2 + 1) (by omega)).trans hfa.2
              have c2 : wr.cell? ⟨vb, j * 2, none⟩ = some (.int .u8 (q.1 : Nat)) := (hO7.cellAt (j * 2) (by omega)).trans hfa.1
              have c3 : wr.cell? ⟨vb, j * 2 + 1, none⟩ = some (.string q.2) := (hO7.cellAt (j * 2 + 1) (by omega)).trans hfa.2
              have hb1 := (hH7.row.lt gb rfl).2
              have hb2 := (hO7.lt vb rfl).2
              have HH7 := Lib.hid hH7; have HO7 := Lib.hid hO7
              clear hfa hq hH7 hO7
              have hjg : (j : Int) < g2.length := by omega
              go_wp2_with fail
              have S0 : (wr.cell? ⟨gb, j * 2, none⟩ = some (.int .u8 (q.1 : Nat)) ∧ wr.cell? ⟨gb, j * 2 + 1, none⟩ = some (.string q.2) ∧ wr.cell? ⟨vb, j * 2, none⟩ = some (.int .u8 (q.1 : Nat)) ∧ wr.cell? ⟨vb, j * 2 + 1, none⟩ = some (.string q.2)) ∧ Below wr.heap.size wr wr ∧ wr.heap.size ≤ wr.heap.size := ⟨⟨c0, c1, c2, c3⟩, Below.refl _ _, Nat.le_refl _⟩
              clear c0 c1 c2 c3
              go_region_held3 (fun w' => (w'.cell? ⟨gb, j * 2, none⟩ = some (.int .u8 (q.1 : Nat)) ∧ w'.cell? ⟨gb, j * 2 + 1, none⟩ = some (.string q.2) ∧ w'.cell? ⟨vb, j * 2, none⟩ = some (.int .u8 (q.1 : Nat)) ∧ w'.cell? ⟨vb, j * 2 + 1, none⟩ = some (.string q.2)) ∧ Below wr.heap.size wr w' ∧ wr.heap.size ≤ w'.heap.size) (first | exact ⟨S0.1, S0.2.1.drew, S0.2.2⟩ | exact S1) (first | (go_at_call 14; refine (as_any _ _ _).mono ?_; rintro e w8 ⟨rfl, hb8⟩; have S1 := held_four (w' := wr.drew) ⟨S0.1, S0.2.1.drew, S0.2.2⟩ hb1 hb1 hb2 hb2 hb8))
              go_wp2
              go_roundw
              case rel =>
                have hb := S1.2.1
                exact ⟨j + 1, by omega, by go_num, HH7.out.grown hb, HO7.out.kept (row := none) ⟨hb.os, hb.tape, hb.output, hb.size, fun k hk _ => hb.block k hk⟩ (by simp [Value.ownBlock])⟩
              case measure => simp [intOf]; omega
            · obtain rfl : j = g2.length := by omega
              have HH7 := Lib.hid hH7
              clear hH7 hO7 hjl
              go_wp2_with fail
              refine (has_last HH7.out HE.out).mono ?_; rintro e w6 ⟨rfl, hH8⟩
              have HH8 := Lib.hid hH8
              clear hH8
              have hB8 := HB1.out.step HH8.out.below hz1
              go_wp2_with fail
              go_ret
              exact ⟨rfl, hB8.alloc (by have := hB8.size; omega) _⟩

theorem reads_early (l0 l1 : Option Addr) (len cap cn ccap : Nat) (bare : Bool) (w : World) (h : (100 : Int) < len) :
    Calls Try.prog 5 #[.slice l0 len cap, .slice l1 cn ccap, .bool bare] w fun e w' => e = .returned (.bool true) ∧ Below w.heap.size w w' := by
  go_enter Try.func5, Try.ntmps5
  go_wp2_with fail
  refine (shown_true _).mono ?_; rintro e w1 ⟨rfl, hb1⟩
  have hz1 := hb1.size
  go_wp2_with fail
  refine (new_any bare _).mono ?_; rintro e w2 ⟨rfl, rfl⟩
  go_wp2
  go_ret
  exact ⟨rfl, hb1.alloc hz1 _⟩

theorem reads_ok (l0 l1 : Option Addr) (len cap : Nat) (T : Nat → ByteArray) (cn ccap : Nat) (c : Nat → Int) (bare : Bool) (w : World) (hT : len = 0 ∨ ∃ b off, l0 = some ⟨b, off, none⟩ ∧ b < w.heap.size ∧ TextsAt w b off len T) (hTz : ∀ i, i < len → (T i).size ≤ 140737488351232)
    (hC : cn = 0 ∨ ∃ d cof, l1 = some ⟨d, cof, none⟩ ∧ d < w.heap.size ∧ CutsAt w d cof cn c) (hcr : ∀ i, i < cn → -9223372036854775808 ≤ c i ∧ c i ≤ 9223372036854775807) :
    Calls Try.prog 5 #[.slice l0 len cap, .slice l1 cn ccap, .bool bare] w fun e w' => e = .returned (.bool true) ∧ Below w.heap.size w w' := by
  by_cases h1 : len ≤ 100
  · exact reads_walk l0 l1 len cap T cn ccap c bare w h1 hT hTz hC hcr
  · exact reads_early l0 l1 len cap cn ccap bare w (by omega)

theorem weightsAll_mem {H : Type} {P : Program} {e : TypeId} : ∀ {l : List (DataW H)} {d : DataW H}, d ∈ l → ∀ n ∈ d.weights P e, n ∈ DataW.weightsAll P e l
  | d' :: r, d, hd, n, hn => by
    simp only [DataW.weightsAll, List.mem_append]
    rcases List.mem_cons.1 hd with rfl | h
    · exact .inl hn
    · exact .inr (weightsAll_mem h n hn)

/-- An argument that is a slice of texts, opened to its cells; each text weighs. -/
theorem open_texts {H : Type} {enc : TypeId × Value → H} {w : World} {a : Option Addr} {len cap : Nat} {d : DataW H} {p : List MemPlace} (h : DataW.Trod enc Try.prog w 0 (fun _ => true) true 38 (.slice a len cap) d p) :
    ∃ T : Nat → ByteArray, (∀ i, i < len → (T i).size ∈ d.weights Try.prog 38) ∧ (len = 0 ∨ ∃ b off, a = some ⟨b, off, none⟩ ∧ b < w.heap.size ∧ TextsAt w b off len T) := by
  obtain ⟨fuel, hf⟩ := h
  have hf' : DataW.trod enc Try.prog w 0 (fun _ => true) true fuel 38 [.slice a len cap] = some (d, p) := by simpa [Value.cells] using hf
  rcases open_strings Try.underlying38 Try.underlying9 (by kernel_rfl) hf' with ⟨h0, _⟩ | ⟨a', len', cap', ss, hcs, _, hl, _, hz, hd, hcell, hw⟩
  · simp at h0
    exact ⟨fun _ => { data := #[] }, fun i hi => by omega, .inl h0.2.1⟩
  · simp only [List.cons.injEq, Value.slice.injEq, and_true] at hcs
    obtain ⟨rfl, rfl, rfl⟩ := hcs
    simp only [Prod.mk.injEq] at hd
    obtain ⟨rfl, _⟩ := hd
    have hlz : len ≤ ss.length := by rw [hz]; simp; exact hl
    refine ⟨fun i => ss.getD i ByteArray.empty, fun i hi => ?_, ?_⟩
    · have e : ss.getD i ByteArray.empty = ss[i]'(by omega) := by simp [List.getD, List.getElem?_eq_getElem (show i < ss.length by omega)]
      show (ss.getD i ByteArray.empty).size ∈ _
      rw [e]
      simp only [DataW.weights, Try.underlying38, List.mem_cons, List.mem_append]
      refine .inr (.inl (weightsAll_mem (d := .lit (.string (ss[i]'(by omega)).data.toList)) ?_ _ ?_))
      · refine List.mem_map.2 ⟨ss[i]'(by omega), ?_, rfl⟩
        have hm : i < (ss.take len).length := by rw [List.length_take]; omega
        have := List.getElem_mem hm
        rwa [List.getElem_take] at this
      · rw [DataW.weights, size_list]; exact List.mem_singleton.2 rfl
    · by_cases h0 : len = 0
      · exact .inl h0
      right
      obtain ⟨b, off, spot⟩ := a'
      have hs0 := hcell 0 (by omega)
      have hspot : spot = none := by simpa [Addr.add] using World.cell?_spot hs0
      subst hspot
      exact ⟨b, off, rfl, World.block_lt_of_cell? w ((⟨b, off, none⟩ : Addr).add 0) hs0, fun i hi => by have := hcell i (by omega); rwa [Go.WideShapes.add_plain] at this⟩

set_option maxRecDepth 100000 in
theorem reads_lifted (os : Os) (started : os.Started) (H : Type) (enc : TypeId × Value → H) :
    ReturnsInHanded {} Try.checked os 5 .any (Rows.wireReadsSpec.pre6 enc Try.prog Try.f5 Rows.wireReadsRow.domain false) (Rows.wireReadsSpec.post enc Try.prog Try.f5 false true false false) := by
  refine returnsInHanded_of_change_sized (C := Try.checked) own started (by kernel_rfl) Try.func5
    (ChangeSpec.witness6 (enc := enc) (C := Try.checked) false ⟨#[], #[.slice none 0 0, .slice none 0 0, .bool false], []⟩ 8 (by kernel_rfl) (by kernel_rfl) (by kernel_rfl) (by kernel_rfl)) ?_
  intro W base args ds gs before hval0 hW _ hsz0 _
  have hsz : (DataW.weightsEach Try.prog (Try.f5.params.toList ++ Rows.wireReadsSpec.plain.varTypes Try.prog) (ds ++ gs)).all (· ≤ reachBytes) = true := hsz0
  clear hsz0
  have hval : ∀ (j : Nat) t v, Try.f5.params[j]? = some t → args[j]? = some v → Value.okWide Try.prog W .any base t v := hval0
  have hW' := hW
  obtain ⟨p, q, hA0, hV, rfl, _, _⟩ := hW
  have hA : DataW.TrodAll enc Try.prog W 0 (fun _ => true) true Try.f5.params.toList args.toList ds p := hA0
  rw [Try.params5] at hA hval hsz
  obtain ⟨v0, v1, v2, d0, d1, d2, p0, p1, p2, rfl, rfl, rfl, h0, h1, h2⟩ := trodAll_three hA
  obtain ⟨rfl, rfl⟩ := trodVars_none hV
  obtain ⟨a0, len, cap, rfl⟩ := okWide_slice Try.underlying38 (hval 0 38 v0 rfl rfl)
  obtain ⟨T, hTw, hT⟩ := open_texts h0
  have hTz : ∀ i, i < len → (T i).size ≤ 140737488351232 := fun i hi => of_decide_eq_true (List.all_eq_true.1 hsz _ (DataW.weights_mem_each (j := 0) (t := 38) rfl rfl _ (hTw i hi)))
  obtain ⟨a1, cn, ccap, rfl⟩ := okWide_slice Try.underlying39 (hval 1 39 v1 rfl rfl)
  obtain ⟨c, hcr, hC⟩ := open_cuts h1
  obtain ⟨bare, rfl, rfl, rfl⟩ := open_bool Try.underlying4 (hval 2 4 v2 rfl rfl) h2
  refine (reads_ok a0 a1 len cap T cn ccap c bare W hT hTz hC hcr).mono fun e W' ⟨he, hb⟩ => ?_
  subst he
  exact ⟨_, rfl, law_shut laidOut (by kernel_rfl) (by kernel_rfl) Try.underlying4 rfl hW' rfl hb⟩

theorem reads_holds : Rows.WireReadsSaid :=
  OpenClaim.holds_of_wide 5 Try.f5 rfl rfl rfl rfl rfl rfl rfl ⟨rfl, rfl, rfl, rfl, rfl⟩ rfl rfl rfl rfl rfl (by kernel_rfl) Try.func5 (by kernel_rfl)
    (of_decide_eq_true (by kernel_rfl)) (by unfold Func.isWrapper; rw [if_neg (of_decide_eq_false (by kernel_rfl))]; exact ⟨rfl, rfl⟩)
    (fun os started H enc _ => reads_lifted os started H enc)
end Go.Proofs.Ytjohgfcfnlilmaa
