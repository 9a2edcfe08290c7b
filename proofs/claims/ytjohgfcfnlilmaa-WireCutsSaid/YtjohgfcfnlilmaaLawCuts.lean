/- Any row of frames, any row of cuts: WireCuts answers true, and leaves what was there as it was. -/
import Derived.Test.YtjohgfcfnlilmaaLawRows
import Derived.Test.YtjohgfcfnlilmaaPick
import Derived.ChangeSlices
import Derived.OpenShut
import Derived.Test.YtjohgfcfnlilmaaBoxes
import Derived.Test.YtjohgfcfnlilmaaNextA
import Derived.Test.YtjohgfcfnlilmaaNextC
namespace Go.Proofs.Ytjohgfcfnlilmaa
open Go.ChangeShapes Go.WideShapes Go.ChangeAt Go.RowKit Go.Joins
open Go.Lib (toList_data extract_data)

/-- The reader at p holds s, and nothing that was there before it has changed. -/
def Fill (w1 wr : World) (s : ByteArray) : Prop :=
  ∃ v, RIs wr w1.heap.size v s false 0 ∧ (∀ k, v.ownBlock = some k → w1.heap.size ≤ k) ∧ Below w1.heap.size w1 wr ∧ w1.heap.size < wr.heap.size

theorem Fill.grown {w1 wr w' : World} {s : ByteArray} (h : Fill w1 wr s) (hb : Below wr.heap.size wr w') : Fill w1 w' s := by
  obtain ⟨v, hR, hv, hB, hz⟩ := h
  exact ⟨v, hR.grown hb, hv, hB.step hb hB.size, by have := hb.size; omega⟩

theorem fill_new (w1 : World) : Fill w1 (w1.alloc (.cells #[.slice none 0 0, .bool false, .int .i64 0] 62)) { data := #[] } :=
  ⟨_, one_reader w1 false, by simp [Value.ownBlock], (Below.refl _ _).alloc (Nat.le_refl _) _, by simp⟩

theorem Fill.alloc {w1 wr : World} {s : ByteArray} (h : Fill w1 wr s) (o : Obj) : Fill w1 (wr.alloc o) s :=
  h.grown ((Below.refl _ _).alloc (Nat.le_refl _) _)

theorem fill_feed {w1 wr : World} {s x : ByteArray} (h : Fill w1 wr s) (hb : s.size + x.size ≤ 140737488355328) :
    Calls Try.prog 19 #[.pointer (some ⟨w1.heap.size, 0, none⟩), .string x] wr fun e w' => e = .returned (.tuple #[]) ∧ Fill w1 w' (s ++ x) := by
  obtain ⟨v, hR, hv, hB, hz⟩ := h
  refine (feed_any w1.heap.size v s x false wr hR hb).mono ?_
  rintro e w' ⟨rfl, v', hR', hT, hs⟩
  refine ⟨rfl, v', hR', fun k hk => (hs k hk).elim (hv k) (fun h => by omega), hB.trans (hT.below hB.size (Nat.le_refl _) hv), by have := hT.size; omega⟩

theorem fill_next {w1 wr : World} {s : ByteArray} (h : Fill w1 wr s) (hE : frameE s false = 0) :
    Calls Try.prog 20 #[.pointer (some ⟨w1.heap.size, 0, none⟩)] wr fun e w' => e = .returned (.tuple #[.agg #[.int .u8 (headT s false : Nat), .string (frameB s false)], .int .i64 0]) ∧ Fill w1 w' (s.extract (frameN s false) s.size) := by
  obtain ⟨v, hR, hv, hB, hz⟩ := h
  refine (next_good w1.heap.size v s false wr hR hE).mono ?_
  rintro e w' ⟨rfl, v', hR', hT, hs⟩
  exact ⟨rfl, v', hR', fun k hk => hv k (hs k hk), hB.trans (hT.below hB.size (Nat.le_refl _) (by simp)), by have := hT.size; omega⟩

theorem fill_more {w1 wr : World} {s : ByteArray} (h : Fill w1 wr s) (hE : frameE s false = 4) :
    Calls Try.prog 20 #[.pointer (some ⟨w1.heap.size, 0, none⟩)] wr fun e w' => e = .returned (.tuple #[.agg #[.int .u8 0, .string { data := #[] }], .int .i64 4]) ∧ Fill w1 w' s := by
  have H := h
  obtain ⟨v, hR, hv, hB, hz⟩ := h
  refine (next_more w1.heap.size v s false wr hR hE).mono ?_
  rintro e w' ⟨rfl, hb⟩
  exact ⟨rfl, H.grown hb⟩

theorem fill_left {w1 wr : World} {s : ByteArray} (h : Fill w1 wr s) :
    Calls Try.prog 22 #[.pointer (some ⟨w1.heap.size, 0, none⟩)] wr fun e w' => e = .returned (.int .i64 s.size) ∧ wr = w' := by
  obtain ⟨v, hR, hv, hB, hz⟩ := h
  exact left_any w1.heap.size v s false 0 wr hR

theorem Fill.drew {w1 wr : World} {s : ByteArray} {n : Nat} (h : Fill w1 wr s) : Fill w1 (wr.drewN n) s := by
  obtain ⟨v, hR, hv, hB, hz⟩ := h
  exact ⟨v, ⟨hR.heap, hR.own⟩, hv, below_drewN hB _, hz⟩

/-- The cuts that lie from place off of block b on. -/
def CutsAt (w : World) (b off n : Nat) (c : Nat → Int) : Prop := ∀ i, i < n → w.cell? ⟨b, off + i, none⟩ = some (.int .i64 (c i))

theorem cat_cut (s : ByteArray) (a n : Nat) : s.extract 0 a ++ s.extract a (a + n) = s.extract 0 (a + n) := by
  apply bytes_ext
  rw [append_list, extract_data, extract_data, extract_data, Nat.sub_zero, List.drop_zero, Nat.add_sub_cancel_left, Nat.sub_zero, List.take_add]

theorem app_nil (x : ByteArray) : x ++ ({ data := #[] } : ByteArray) = x := by apply bytes_ext; rw [append_list]; simp

theorem cut_all (s : ByteArray) : s.extract 0 s.size = s := by
  apply bytes_ext
  rw [extract_data, Nat.sub_zero, List.drop_zero, ← size_list]
  exact List.take_length

set_option maxHeartbeats 3000000 in
theorem cuts_walk (l0 l1 : Option Addr) (len cap : Nat) (F : Nat → Int × ByteArray) (cn ccap : Nat) (c : Nat → Int) (w : World) (hlen : len ≤ 20) (hcn : cn ≤ 100) (hF : len = 0 ∨ ∃ b off, l0 = some ⟨b, off, none⟩ ∧ b < w.heap.size ∧ FramesAt w b off len F) (hr : ∀ i, i < len → 0 ≤ (F i).1 ∧ (F i).1 < 256)
    (hC : cn = 0 ∨ ∃ d cof, l1 = some ⟨d, cof, none⟩ ∧ d < w.heap.size ∧ CutsAt w d cof cn c) (hcr : ∀ i, i < cn → -9223372036854775808 ≤ c i ∧ c i ≤ 9223372036854775807) :
    Calls Try.prog 6 #[.slice l0 len cap, .slice l1 cn ccap] w fun e w' => e = .returned (.bool true) ∧ Below w.heap.size w w' := by
  have HF := Lib.hid hF; have HR := Lib.hid hr; have HC := Lib.hid hC; have HCR := Lib.hid hcr
  clear hF hr hC hcr
  go_enter Try.func6, Try.ntmps6
  go_wp2_with fail
  refine (shown_true _).mono ?_; rintro e w1 ⟨rfl, hb1⟩
  have hz1 := hb1.size
  have HB1 := Lib.hid hb1
  clear hb1
  go_wp2_with fail
  refine (new_any false _).mono ?_; rintro e w2 ⟨rfl, rfl⟩
  have hf2 := fill_new w1
  generalize w1.alloc (.cells #[.slice none 0 0, .bool false, .int .i64 0] 62) = w2 at hf2 ⊢
  go_wp2_with fail
  go_loopw [7, 8] (fun s i wr => ∃ k : Nat, k ≤ len ∧ i = .int .i64 k ∧ s = .string (joinB F k) ∧ Good F k ∧ Fill w1 wr { data := #[] }) (fun _ i _ => len - (intOf i).toNat)
  case atStart => exact ⟨0, Nat.zero_le _, rfl, rfl, fun j hj => by omega, hf2⟩
  case round =>
    obtain ⟨k, hk, rfl, rfl, hG, hf3⟩ := hrel
    clear hf2
    by_cases hlt : k < len
    · obtain ⟨tk, htk⟩ : ∃ tk, tk = (F k).1 := ⟨_, rfl⟩
      obtain ⟨bk, hbk⟩ : ∃ bk, bk = (F k).2 := ⟨_, rfl⟩
      obtain ⟨b, off, hl0, hb, hFF⟩ : ∃ b off, l0 = some ⟨b, off, none⟩ ∧ b < w.heap.size ∧ FramesAt w b off len F := HF.out.elim (fun h => by omega) id
      subst hl0
      have hck := hFF k hlt
      clear hFF
      have hrk := HR.out k hlt
      rw [← htk, ← hbk] at hck
      rw [← htk] at hrk
      have hnx : Below w.heap.size w wr := by obtain ⟨v, _, _, hB, _⟩ := hf3; exact HB1.out.step hB hz1
      have c0 : wr.cell? ⟨b, off + k * 2, none⟩ = some (.int .u8 tk) := (hnx.cell (p := ⟨b, off + k * 2, none⟩) hb).trans hck.1
      have c1 : wr.cell? ⟨b, off + k * 2 + 1, none⟩ = some (.string bk) := (hnx.cell (p := ⟨b, off + k * 2 + 1, none⟩) hb).trans hck.2
      have HTk := Lib.hid htk; have HBk := Lib.hid hbk; have HG := Lib.hid hG
      clear hck htk hbk hG
      by_cases h5 : bk.size ≤ 500
      · by_cases h0 : tk = 0
        · subst h0
          go_wp2
          go_ret
          exact ⟨rfl, hnx⟩
        · have hz : (tk == 0) = false := by simpa using h0
          have hj := join_size F k (fun j hj => (HG.out j hj).1)
          have hp : (packB tk bk).size ≤ 505 := by rw [packB_size]; split <;> omega
          go_wp2_with fail
          refine (pack_any tk bk wr (by omega) hrk).mono ?_; rintro e w2 ⟨rfl, hb2⟩
          have hf4 := hf3.grown hb2
          clear c0 c1 hnx hb2 hf3
          go_wp2
          go_roundw
          case rel =>
            refine ⟨k + 1, by omega, by go_num, by rw [joinB, ← HTk.out, ← HBk.out], fun j hj => ?_, hf4⟩
            by_cases hjk : j = k
            · subst hjk; rw [← HTk.out, ← HBk.out]; exact ⟨h5, h0⟩
            · exact HG.out j (by omega)
          case measure => simp [intOf]; omega
      · have h5' : (500 : Int) < bk.size := by omega
        go_wp2
        go_ret
        exact ⟨rfl, hnx⟩
    · obtain rfl : k = len := by omega
      have hj := join_size F k (fun j hj => (hG j hj).1)
      have HG := Lib.hid hG
      obtain ⟨s, hs⟩ : ∃ s, s = joinB F k := ⟨_, rfl⟩
      rw [← hs] at hj ⊢
      have HS := Lib.hid hs
      clear hG hlt hs
      go_wp2
      go_loopw [11, 12] (fun a i wr => ∃ x j : Nat, x ≤ s.size ∧ j ≤ cn + 1 ∧ (j = cn + 1 → x = s.size) ∧ a = .int .i64 x ∧ i = .int .i64 j ∧ Fill w1 wr (s.extract 0 x)) (fun _ i _ => cn + 1 - (intOf i).toNat)
      case atStart => exact ⟨0, 0, Nat.zero_le _, by omega, by omega, rfl, rfl, by rw [show s.extract 0 0 = { data := #[] } from by apply bytes_ext; rw [extract_data]; simp]; exact hf3⟩
      case round =>
        obtain ⟨x, j, hx, hj2, hjx, rfl, rfl, hf4⟩ := hrel
        clear hf3
        by_cases hlt : x < s.size
        · have hjn : j ≤ cn := by omega
          clear hjx
          by_cases hjc : j < cn
          · obtain ⟨d, cof, hl1, hd, hCC⟩ : ∃ d cof, l1 = some ⟨d, cof, none⟩ ∧ d < w.heap.size ∧ CutsAt w d cof cn c := HC.out.elim (fun h => by omega) id
            subst hl1
            have hnx : Below w.heap.size w wr := by obtain ⟨v, _, _, hB, _⟩ := hf4; exact HB1.out.step hB hz1
            have c0 : wr.cell? ⟨d, cof + j, none⟩ = some (.int .i64 (c j)) := (hnx.cell (p := ⟨d, cof + j, none⟩) hd).trans (hCC j hjc)
            clear hnx hCC
            have HF4 := Lib.hid hf4
            clear hf4
            have hp := pk_lt (c j) (s.size - x + 1) (by omega)
            have hpick := fun W => pick_any (c j) (s.size - x + 1) W (by omega) (by omega) (HCR.out j hjc)
            rw [show ((s.size - x + 1 : Nat) : Int) = (s.size : Int) - x + 1 by omega] at hpick
            obtain ⟨n, hn⟩ : ∃ n, n = pk (c j) (s.size - x + 1) := ⟨_, rfl⟩
            rw [← hn] at hp hpick
            have HPK := Lib.hid hpick
            clear hpick hn
            go_wp2_with fail
            refine (HPK.out _).mono ?_; rintro e w3 ⟨rfl, rfl⟩
            go_wp2_with fail
            have hsz : (s.extract 0 x).size + (s.extract x (x + n)).size ≤ 140737488355328 := by
              have h1 : (s.extract 0 x).size ≤ s.size := by simp; omega
              have h2 : (s.extract x (x + n)).size ≤ s.size := by simp; omega
              omega
            refine (fill_feed HF4.out hsz).mono ?_; rintro e w4 ⟨rfl, hf5⟩
            rw [cat_cut s x n] at hf5
            clear HF4 c0
            go_wp2_with fail
            go_roundw
            case rel => exact ⟨x + n, j + 1, by omega, by omega, by omega, by go_num, by go_num, hf5⟩
            case measure => simp [intOf]; omega
          · have HF4 := Lib.hid hf4
            clear hf4
            go_wp2_with fail
            have HX := Lib.hid (show x + (s.size - x) = s.size by omega)
            have hcc := cat_cut s x (s.size - x)
            rw [HX.out] at hcc
            have HCC := Lib.hid hcc
            clear hcc
            have hsz : (s.extract 0 x).size + (s.extract x s.size).size ≤ 140737488355328 := by
              have h1 : (s.extract 0 x).size ≤ s.size := by simp; omega
              have h2 : (s.extract x s.size).size ≤ s.size := by simp
              omega
            refine (fill_feed HF4.out hsz).mono ?_; rintro e w4 ⟨rfl, hf5⟩
            rw [HCC.out] at hf5
            clear HF4
            go_wp2_with fail
            go_roundw
            case rel => exact ⟨s.size, j + 1, by omega, by omega, by omega, by congr 1; omega, by go_num, hf5⟩
            case measure => simp [intOf]; omega
        · obtain rfl : x = s.size := by omega
          rw [cut_all] at hf4
          clear hjx
          have hall := join_all F { data := #[] } k
          rw [← HS.out, app_nil] at hall
          go_wp2
          clear hj
          rw [hall] at hf4
          go_loopw [14, 14] (fun i _ wr => ∃ m : Nat, m ≤ k ∧ i = .int .i64 m ∧ Fill w1 wr (restB F { data := #[] } m (k - m))) (fun i _ _ => k - (intOf i).toNat)
          case atStart => exact ⟨0, Nat.zero_le _, rfl, by rw [Nat.sub_zero]; exact hf4⟩
          case round =>
            obtain ⟨m, hm, rfl, hf5⟩ := hrel
            clear hf4 hall
            by_cases hmk : m < k
            · obtain ⟨tk, htk⟩ : ∃ tk, tk = (F m).1 := ⟨_, rfl⟩
              obtain ⟨bk, hbk⟩ : ∃ bk, bk = (F m).2 := ⟨_, rfl⟩
              obtain ⟨b, off, hl0, hb, hFF⟩ : ∃ b off, l0 = some ⟨b, off, none⟩ ∧ b < w.heap.size ∧ FramesAt w b off k F := HF.out.elim (fun h => by omega) id
              subst hl0
              have hck := hFF m hmk
              clear hFF
              have hrk := HR.out m hmk
              have hgk := HG.out m hmk
              have hrest := rest_succ F { data := #[] } m k hmk
              rw [← htk, ← hbk] at hck hgk hrest
              rw [← htk] at hrk
              obtain ⟨g1, g2, g3, g4⟩ := good_pack tk hrk bk (restB F { data := #[] } (m + 1) (k - (m + 1))) _ (by omega) rfl
              have hbare : isBare tk = false := by simp [isBare, hgk.2]
              rw [hbare] at g1 g2 g3 g4
              rw [hrest] at hf5
              have hT := fill_next hf5 g1
              rw [g2, g3, g4] at hT
              have HT := Lib.hid hT
              clear g1 g2 g3 g4 hbare hT hrest htk hbk hgk hrk hf5
              go_wp2_with fail
              refine HT.out.mono ?_; rintro e w3 ⟨rfl, hf6⟩
              have hnx : Below w.heap.size w w3 := by obtain ⟨v, _, _, hB, _⟩ := hf6; exact HB1.out.step hB hz1
              have c0 : w3.cell? ⟨b, off + m * 2, none⟩ = some (.int .u8 tk) := (hnx.cell (p := ⟨b, off + m * 2, none⟩) hb).trans hck.1
              have c1 : w3.cell? ⟨b, off + m * 2 + 1, none⟩ = some (.string bk) := (hnx.cell (p := ⟨b, off + m * 2 + 1, none⟩) hb).trans hck.2
              have hbz : b < w3.heap.size := by have := hnx.size; omega
              clear hck hnx HT
              have hmi : (m : Int) < k := by omega
              go_wp2_with fail
              go_quiet (fail)
              go_wp2_with fail
              go_roundw
              case rel => exact ⟨m + 1, by omega, by go_num, (hf6.alloc _).drew⟩
              case measure => simp [intOf]; omega
            · obtain rfl : m = k := by omega
              have e : restB F { data := #[] } m (m - m) = { data := #[] } := by rw [Nat.sub_self, restB]
              rw [e] at hf5
              have HT := Lib.hid (fill_more hf5 (by decide))
              clear e hmk hf5
              go_wp2_with fail
              refine HT.out.mono ?_; rintro e w3 ⟨rfl, hf6⟩
              clear HT
              go_wp2_with fail
              refine (fill_left (by exact hf6.alloc _)).mono ?_; rintro e w' ⟨rfl, rfl⟩
              rw [show (({ data := #[] } : ByteArray).size : Int) = 0 from rfl]
              have hnx : Below w.heap.size w w3 := by obtain ⟨v, _, _, hB, _⟩ := hf6; exact HB1.out.step hB hz1
              go_wp2
              go_ret
              exact ⟨rfl, hnx.alloc (by have := hnx.size; omega) _⟩
theorem cuts_early (l0 l1 : Option Addr) (len cap cn ccap : Nat) (w : World) (h : (20 : Int) < len ∨ (len ≤ 20 ∧ (100 : Int) < cn)) :
    Calls Try.prog 6 #[.slice l0 len cap, .slice l1 cn ccap] w fun e w' => e = .returned (.bool true) ∧ Below w.heap.size w w' := by
  rcases h with h | ⟨h1, h⟩
  all_goals
    go_enter Try.func6, Try.ntmps6
    go_wp2_with fail
    refine (shown_true _).mono ?_; rintro e w1 ⟨rfl, hb1⟩
    have hz1 := hb1.size
    go_wp2_with fail
    refine (new_any false _).mono ?_; rintro e w2 ⟨rfl, rfl⟩
    go_wp2
    go_ret
    exact ⟨rfl, hb1.alloc hz1 _⟩

theorem cuts_ok (l0 l1 : Option Addr) (len cap : Nat) (F : Nat → Int × ByteArray) (cn ccap : Nat) (c : Nat → Int) (w : World) (hF : len = 0 ∨ ∃ b off, l0 = some ⟨b, off, none⟩ ∧ b < w.heap.size ∧ FramesAt w b off len F) (hr : ∀ i, i < len → 0 ≤ (F i).1 ∧ (F i).1 < 256)
    (hC : cn = 0 ∨ ∃ d cof, l1 = some ⟨d, cof, none⟩ ∧ d < w.heap.size ∧ CutsAt w d cof cn c) (hcr : ∀ i, i < cn → -9223372036854775808 ≤ c i ∧ c i ≤ 9223372036854775807) :
    Calls Try.prog 6 #[.slice l0 len cap, .slice l1 cn ccap] w fun e w' => e = .returned (.bool true) ∧ Below w.heap.size w w' := by
  by_cases h1 : len ≤ 20
  · by_cases h2 : cn ≤ 100
    · exact cuts_walk l0 l1 len cap F cn ccap c w h1 h2 hF hr hC hcr
    · exact cuts_early l0 l1 len cap cn ccap w (.inr ⟨h1, by omega⟩)
  · exact cuts_early l0 l1 len cap cn ccap w (.inl (by omega))

/-- An argument that is a slice of integers, opened to its cells. -/
theorem open_cuts {H : Type} {enc : TypeId × Value → H} {w : World} {a : Option Addr} {len cap : Nat} {d : DataW H} {p : List MemPlace} (h : DataW.Trod enc Try.prog w 0 (fun _ => true) true 39 (.slice a len cap) d p) :
    ∃ c : Nat → Int, (∀ i, i < len → -9223372036854775808 ≤ c i ∧ c i ≤ 9223372036854775807) ∧ (len = 0 ∨ ∃ b off, a = some ⟨b, off, none⟩ ∧ b < w.heap.size ∧ CutsAt w b off len c) := by
  obtain ⟨fuel, hf⟩ := h
  have hf' : DataW.trod enc Try.prog w 0 (fun _ => true) true fuel 39 [.slice a len cap] = some (d, p) := by simpa [Value.cells] using hf
  rcases open_ints Try.underlying39 Try.underlying3 (by kernel_rfl) hf' with ⟨h0, _⟩ | ⟨a', len', cap', zs, hcs, _, hl, _, hz, _, hcell, hw⟩
  · refine ⟨fun _ => 0, fun _ _ => by simp, .inl ?_⟩
    simp at h0; exact h0.2.1
  · simp only [List.cons.injEq, Value.slice.injEq, and_true] at hcs
    obtain ⟨rfl, rfl, rfl⟩ := hcs
    have hlz : len ≤ zs.length := by rw [hz]; simp; exact hl
    refine ⟨fun i => zs.getD i 0, fun i hi => int_range (hw _ ?_), ?_⟩
    · have e : zs.getD i 0 = zs[i]'(by omega) := by simp [List.getD, List.getElem?_eq_getElem (show i < zs.length by omega)]
      show zs.getD i 0 ∈ zs
      rw [e]; exact List.getElem_mem _
    · by_cases h0 : len = 0
      · exact .inl h0
      right
      obtain ⟨b, off, rfl, hc⟩ := ints_at hcell (by omega)
      exact ⟨b, off, rfl, World.block_lt_of_cell? w (⟨b, off + 0, none⟩ : Addr) (hc 0 (by omega)), fun i hi => hc i (by omega)⟩

set_option maxRecDepth 100000 in
theorem cuts_lifted (os : Os) (started : os.Started) (H : Type) (enc : TypeId × Value → H) :
    ReturnsInHanded {} Try.checked os 6 .any (Rows.wireCutsSpec.pre6 enc Try.prog Try.f6 Rows.wireCutsRow.domain false) (Rows.wireCutsSpec.post enc Try.prog Try.f6 false true false false) := by
  refine returnsInHanded_of_change (C := Try.checked) own started (by kernel_rfl) Try.func6
    (ChangeSpec.witness6 (enc := enc) (C := Try.checked) false ⟨#[], #[.slice none 0 0, .slice none 0 0], []⟩ 8 (by kernel_rfl) (by kernel_rfl) (by kernel_rfl) (by kernel_rfl)) ?_
  intro W base args ds gs before hval0 hW _ _
  have hval : ∀ (j : Nat) t v, Try.f6.params[j]? = some t → args[j]? = some v → Value.okWide Try.prog W .any base t v := hval0
  have hW' := hW
  obtain ⟨p, q, hA0, hV, rfl, _, _⟩ := hW
  have hA : DataW.TrodAll enc Try.prog W 0 (fun _ => true) true Try.f6.params.toList args.toList ds p := hA0
  rw [Try.params6] at hA hval
  obtain ⟨v0, v1, d0, d1, p0, p1, rfl, rfl, rfl, h0, h1⟩ := trodAll_two hA
  obtain ⟨rfl, rfl⟩ := trodVars_none hV
  obtain ⟨a0, len, cap, rfl⟩ := okWide_slice Try.underlying42 (hval 0 42 v0 rfl rfl)
  obtain ⟨F, hFr, hFc⟩ := open_frames h0
  obtain ⟨a1, cn, ccap, rfl⟩ := okWide_slice Try.underlying39 (hval 1 39 v1 rfl rfl)
  obtain ⟨c, hcr, hC⟩ := open_cuts h1
  refine (cuts_ok a0 a1 len cap F cn ccap c W hFc hFr hC hcr).mono fun e W' ⟨he, hb⟩ => ?_
  subst he
  exact ⟨_, rfl, law_shut laidOut (by kernel_rfl) (by kernel_rfl) Try.underlying4 rfl hW' rfl hb⟩

theorem cuts_holds : Rows.WireCutsSaid :=
  OpenClaim.holds_of_wide 6 Try.f6 rfl rfl rfl rfl rfl rfl rfl ⟨rfl, rfl, rfl, rfl, rfl⟩ rfl rfl rfl rfl rfl (by kernel_rfl) Try.func6 (by kernel_rfl)
    (of_decide_eq_true (by kernel_rfl)) (by unfold Func.isWrapper; rw [if_neg (of_decide_eq_false (by kernel_rfl))]; exact ⟨rfl, rfl⟩)
    (fun os started H enc _ => cuts_lifted os started H enc)
end Go.Proofs.Ytjohgfcfnlilmaa
