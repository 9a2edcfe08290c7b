/- Any row of frames, any text behind: WireRows answers true, and leaves what was there as it was. -/
import Derived.Test.YtjohgfcfnlilmaaRows
import Derived.Test.YtjohgfcfnlilmaaPlain
import Derived.Test.YtjohgfcfnlilmaaPlainTake
import Derived.Test.YtjohgfcfnlilmaaPack
import Derived.Test.YtjohgfcfnlilmaaShown
import Derived.Test.YtjohgfcfnlilmaaFrame
import Derived.Test.YtjohgfcfnlilmaaFrames
import Derived.Test.YtjohgfcfnlilmaaTake
import Derived.LoopTactic
import Derived.BigQuiet
import Derived.Deep.QuietTactic
namespace Go.Proofs.Ytjohgfcfnlilmaa
open Go.ChangeShapes Go.WideShapes Go.ChangeAt Go.RowKit Go.Joins

/-- The first k frames, one behind the other; those from k on, m of them, and what is behind. -/
def joinB (F : Nat → Int × ByteArray) : Nat → ByteArray
  | 0 => { data := #[] }
  | k + 1 => joinB F k ++ packB (F k).1 (F k).2
def restB (F : Nat → Int × ByteArray) (tail : ByteArray) : Nat → Nat → ByteArray
  | _, 0 => tail
  | k, m + 1 => packB (F k).1 (F k).2 ++ restB F tail (k + 1) m

theorem app_assoc (a b c : ByteArray) : a ++ b ++ c = a ++ (b ++ c) := by apply bytes_ext; rw [append_list, append_list, append_list, append_list, List.append_assoc]
theorem nil_app (x : ByteArray) : ({ data := #[] } : ByteArray) ++ x = x := by apply bytes_ext; rw [append_list]; rfl

theorem rest_size (F : Nat → Int × ByteArray) (tail : ByteArray) : ∀ m k, (∀ j, j < k + m → (F j).2.size ≤ 500) → (restB F tail k m).size ≤ 505 * m + tail.size
  | 0, _, _ => by simp [restB]
  | m + 1, k, h => by
    have h1 := rest_size F tail m (k + 1) (fun j hj => h j (by omega))
    have h2 := h k (by omega)
    have h3 := packB_size (F k).1 (F k).2
    rw [restB, append_size]
    split at h3 <;> omega

theorem join_rest (F : Nat → Int × ByteArray) (tail : ByteArray) : ∀ (m k : Nat), joinB F (k + m) ++ tail = joinB F k ++ restB F tail k m
  | 0, k => by rw [Nat.add_zero, restB]
  | m + 1, k => by
    rw [show k + (m + 1) = k + 1 + m by omega, join_rest F tail m (k + 1)]
    show joinB F k ++ packB (F k).1 (F k).2 ++ restB F tail (k + 1) m = joinB F k ++ (packB (F k).1 (F k).2 ++ restB F tail (k + 1) m)
    exact app_assoc _ _ _

theorem join_all (F : Nat → Int × ByteArray) (tail : ByteArray) (n : Nat) : joinB F n ++ tail = restB F tail 0 n := by
  have := join_rest F tail n 0
  rw [Nat.zero_add] at this
  rw [this]
  exact nil_app _

theorem join_size (F : Nat → Int × ByteArray) : ∀ k, (∀ j, j < k → (F j).2.size ≤ 500) → (joinB F k).size ≤ 505 * k
  | 0, _ => Nat.le_refl _
  | k + 1, h => by
    have h1 := join_size F k (fun j hj => h j (by omega))
    have h2 := h k (by omega)
    have h3 := packB_size (F k).1 (F k).2
    rw [joinB, append_size]
    split at h3 <;> omega

theorem rest_succ (F : Nat → Int × ByteArray) (tail : ByteArray) (m k : Nat) (h : m < k) : restB F tail m (k - m) = packB (F m).1 (F m).2 ++ restB F tail (m + 1) (k - (m + 1)) := by
  rw [show k - m = (k - (m + 1)) + 1 by omega, restB]

def Good (F : Nat → Int × ByteArray) (k : Nat) : Prop := ∀ j, j < k → (F j).2.size ≤ 500 ∧ ¬ (F j).1 = 0

set_option maxHeartbeats 2000000 in
theorem rows_walk (b off len cap : Nat) (F : Nat → Int × ByteArray) (tail : ByteArray) (w : World) (hlen : len ≤ 20) (ht : tail.size ≤ 4) (hb : b < w.heap.size) (hF : FramesAt w b off len F) (hr : ∀ i, i < len → 0 ≤ (F i).1 ∧ (F i).1 < 256) :
    Calls Try.prog 9 #[.slice (some ⟨b, off, none⟩) len cap, .string tail] w fun e w' => e = .returned (.bool true) ∧ Below w.heap.size w w' := by
  have HF := Lib.hid hF; have HR := Lib.hid hr
  clear hF hr
  go_enter Try.func9, Try.ntmps9
  go_wp2_with fail
  refine (shown_true _).mono ?_; rintro e w1 ⟨rfl, hb1⟩
  go_wp2_with fail
  go_loopw [6, 7] (fun s i wr => ∃ k : Nat, k ≤ len ∧ i = .int .i64 k ∧ s = .string (joinB F k) ∧ Good F k ∧ Below w.heap.size w wr) (fun _ i _ => len - (intOf i).toNat)
  case atStart => exact ⟨0, Nat.zero_le _, rfl, rfl, fun j hj => by omega, hb1⟩
  case round =>
    obtain ⟨k, hk, rfl, rfl, hG, hnx⟩ := hrel
    by_cases hlt : k < len
    · obtain ⟨tk, htk⟩ : ∃ tk, tk = (F k).1 := ⟨_, rfl⟩
      obtain ⟨bk, hbk⟩ : ∃ bk, bk = (F k).2 := ⟨_, rfl⟩
      have hck := HF.out k hlt
      have hrk := HR.out k hlt
      rw [← htk, ← hbk] at hck
      rw [← htk] at hrk
      have c0 : wr.cell? ⟨b, off + k * 2, none⟩ = some (.int .u8 tk) := (hnx.cell (p := ⟨b, off + k * 2, none⟩) hb).trans hck.1
      have c1 : wr.cell? ⟨b, off + k * 2 + 1, none⟩ = some (.string bk) := (hnx.cell (p := ⟨b, off + k * 2 + 1, none⟩) hb).trans hck.2
      have HTk := Lib.hid htk; have HBk := Lib.hid hbk; have HG := Lib.hid hG
      clear hck htk hbk hG hb1
      by_cases h5 : bk.size ≤ 500
      · by_cases h0 : tk = 0
        · subst h0
          go_wp2
          go_ret
          exact ⟨rfl, hnx⟩
        · have hz : (tk == 0) = false := by simpa using h0
          have hj := join_size F k (fun j hj => (HG.out j hj).1)
          have hp : (packB tk bk).size ≤ 505 := by rw [packB_size]; split <;> omega
          go_wp2_with fail
          refine (pack_any tk bk wr (by omega) hrk).mono ?_; rintro e w2 ⟨rfl, hb2⟩
          have hB2 := hnx.step hb2 hnx.size
          clear c0 c1 hnx hb2
          go_wp2
          go_roundw
          case rel =>
            refine ⟨k + 1, by omega, by go_num, by rw [joinB, ← HTk.out, ← HBk.out], fun j hj => ?_, hB2⟩
            by_cases hjk : j = k
            · subst hjk; rw [← HTk.out, ← HBk.out]; exact ⟨h5, h0⟩
            · exact HG.out j (by omega)
          case measure => simp [intOf]; omega
      · have h5' : (500 : Int) < bk.size := by omega
        go_wp2
        go_ret
        exact ⟨rfl, hnx⟩
    · obtain rfl : k = len := by omega
      have hj := join_size F k (fun j hj => (hG j hj).1)
      have HG := Lib.hid hG
      have HJ := Lib.hid (join_all F tail k)
      have hrs := rest_size F tail k 0 (fun j hj => (hG j (by omega)).1)
      clear hG hb1 hlt
      go_wp2
      rw [HJ.out]
      clear HJ hj hrs
      go_loopw [6, 10] (fun s i wq => ∃ m : Nat, m ≤ k ∧ i = .int .i64 m ∧ s = .string (restB F tail m (k - m)) ∧ Below w.heap.size w wq) (fun _ i _ => k - (intOf i).toNat)
      case atStart => exact ⟨0, Nat.zero_le _, rfl, by rw [Nat.sub_zero], hnx⟩
      case round =>
        rename_i wq
        obtain ⟨m, hm, rfl, rfl, hny⟩ := hrel
        clear hnx
        by_cases hmk : m < k
        · obtain ⟨tk, htk⟩ : ∃ tk, tk = (F m).1 := ⟨_, rfl⟩
          obtain ⟨bk, hbk⟩ : ∃ bk, bk = (F m).2 := ⟨_, rfl⟩
          have hck := HF.out m hmk
          have hrk := HR.out m hmk
          have hgk := HG.out m hmk
          have hrest := rest_succ F tail m k hmk
          rw [← htk, ← hbk] at hck hgk hrest
          rw [← htk] at hrk
          obtain ⟨g1, g2, g3, g4⟩ := good_pack tk hrk bk (restB F tail (m + 1) (k - (m + 1))) _ (by omega) rfl
          have hbare : isBare tk = false := by simp [isBare, hgk.2]
          rw [hbare] at g1 g2 g3 g4
          have hT := fun W => take_good (packB tk bk ++ restB F tail (m + 1) (k - (m + 1))) false W g1
          rw [g2, g3, g4] at hT
          have HT := Lib.hid hT
          rw [hrest]
          clear g1 g2 g3 g4 hbare hT hrest htk hbk hgk hrk
          go_wp2_with fail
          refine (HT.out _).mono ?_; rintro e w3 ⟨rfl, hb3⟩
          have hB3 := hny.step hb3 hny.size
          have hbz : b < w3.heap.size := by have := hB3.size; omega
          have c0 : w3.cell? ⟨b, off + m * 2, none⟩ = some (.int .u8 tk) := (hB3.cell (p := ⟨b, off + m * 2, none⟩) hb).trans hck.1
          have c1 : w3.cell? ⟨b, off + m * 2 + 1, none⟩ = some (.string bk) := (hB3.cell (p := ⟨b, off + m * 2 + 1, none⟩) hb).trans hck.2
          clear hck hny hb3
          have hmi : (m : Int) < k := by omega
          go_wp2_with fail
          go_quiet (fail)
          go_wp2_with fail
          go_roundw
          case rel => exact ⟨m + 1, by omega, by go_num, rfl, below_drewN (hB3.alloc hB3.size _) _⟩
          case measure => simp [intOf]; omega
        · obtain rfl : m = k := by omega
          have e : restB F tail m (m - m) = tail := by rw [Nat.sub_self, restB]
          rw [e]
          have hE : frameE tail false = 4 := by unfold frameE; rw [if_pos (by unfold headN; simp; omega)]
          have hT := fun W => take_err tail false W (by rw [hE]; decide)
          rw [hE] at hT
          have HT := Lib.hid hT
          clear e hE hT hmk
          go_wp2_with fail
          refine (HT.out _).mono ?_; rintro e w3 ⟨rfl, hb3⟩
          have hB3 := hny.step hb3 hny.size
          clear hny hb3
          go_wp2
          go_ret
          exact ⟨rfl, hB3.alloc hB3.size _⟩

theorem rows_none (cap : Nat) (a : Option Addr) (tail : ByteArray) (w : World) (ht : tail.size ≤ 4) :
    Calls Try.prog 9 #[.slice a 0 cap, .string tail] w fun e w' => e = .returned (.bool true) ∧ Below w.heap.size w w' := by
  have hE : frameE tail false = 4 := by unfold frameE; rw [if_pos (by unfold headN; simp; omega)]
  have hT := fun W => take_err tail false W (by rw [hE]; decide)
  rw [hE] at hT
  have HT := Lib.hid hT
  have HN := Lib.hid (nil_app tail)
  clear hE hT
  go_enter Try.func9, Try.ntmps9
  go_wp2_with fail
  refine (shown_true _).mono ?_; rintro e w1 ⟨rfl, hb1⟩
  go_wp2_with fail
  go_loopw [6, 7] (fun s i wr => i = .int .i64 0 ∧ s = .string { data := #[] } ∧ Below w.heap.size w wr) (fun _ _ _ => 0)
  case atStart => exact ⟨rfl, rfl, hb1⟩
  case round =>
    obtain ⟨rfl, rfl, hnx⟩ := hrel
    clear hb1
    go_wp2
    try rw [HN.out]
    go_loopw [6, 10] (fun s i wq => i = .int .i64 0 ∧ s = .string tail ∧ Below w.heap.size w wq) (fun _ _ _ => 0)
    case atStart => exact ⟨rfl, rfl, hnx⟩
    case round =>
      obtain ⟨rfl, rfl, hny⟩ := hrel
      clear hnx
      go_wp2_with fail
      refine (HT.out _).mono ?_; rintro e w3 ⟨rfl, hb3⟩
      have hB3 := hny.step hb3 hny.size
      clear hny hb3
      go_wp2
      go_ret
      exact ⟨rfl, hB3.alloc hB3.size _⟩

theorem rows_early (a : Option Addr) (len cap : Nat) (tail : ByteArray) (w : World) (h : (20 : Int) < len ∨ (len ≤ 20 ∧ (4 : Int) < tail.size)) :
    Calls Try.prog 9 #[.slice a len cap, .string tail] w fun e w' => e = .returned (.bool true) ∧ Below w.heap.size w w' := by
  rcases h with h | ⟨h1, h⟩
  all_goals
    go_enter Try.func9, Try.ntmps9
    go_wp2_with fail
    refine (shown_true _).mono ?_; rintro e w1 ⟨rfl, hb1⟩
    go_wp2
    go_ret
    exact ⟨rfl, hb1⟩

theorem rows_ok (a : Option Addr) (len cap : Nat) (F : Nat → Int × ByteArray) (tail : ByteArray) (w : World) (hr : ∀ i, i < len → 0 ≤ (F i).1 ∧ (F i).1 < 256) (hF : len = 0 ∨ ∃ b off, a = some ⟨b, off, none⟩ ∧ b < w.heap.size ∧ FramesAt w b off len F) :
    Calls Try.prog 9 #[.slice a len cap, .string tail] w fun e w' => e = .returned (.bool true) ∧ Below w.heap.size w w' := by
  by_cases h1 : len ≤ 20
  · by_cases h2 : tail.size ≤ 4
    · rcases hF with rfl | ⟨b, off, rfl, hb, hF⟩
      · exact rows_none cap a tail w h2
      · exact rows_walk b off len cap F tail w h1 h2 hb hF hr
    · exact rows_early a len cap tail w (.inr ⟨h1, by omega⟩)
  · exact rows_early a len cap tail w (.inl (by omega))

set_option maxRecDepth 100000 in
theorem rows_lifted (os : Os) (started : os.Started) (H : Type) (enc : TypeId × Value → H) :
    ReturnsInHanded {} Try.checked os 9 .any (Rows.wireRowsSpec.pre6 enc Try.prog Try.f9 Rows.wireRowsRow.domain false) (Rows.wireRowsSpec.post enc Try.prog Try.f9 false true false false) := by
  refine returnsInHanded_of_change (C := Try.checked) own started (by kernel_rfl) Try.func9
    (ChangeSpec.witness6 (enc := enc) (C := Try.checked) false ⟨#[], #[.slice none 0 0, .string { data := #[] }], []⟩ 8 (by kernel_rfl) (by kernel_rfl) (by kernel_rfl) (by kernel_rfl)) ?_
  intro W base args ds gs before hval0 hW _ _
  have hval : ∀ (j : Nat) t v, Try.f9.params[j]? = some t → args[j]? = some v → Value.okWide Try.prog W .any base t v := hval0
  have hW' := hW
  obtain ⟨p, q, hA0, hV, rfl, _, _⟩ := hW
  have hA : DataW.TrodAll enc Try.prog W 0 (fun _ => true) true Try.f9.params.toList args.toList ds p := hA0
  rw [Try.params9] at hA hval
  obtain ⟨v0, v1, d0, d1, p0, p1, rfl, rfl, rfl, h0, h1⟩ := trodAll_two hA
  obtain ⟨rfl, rfl⟩ := trodVars_none hV
  obtain ⟨a0, len, cap, rfl⟩ := okWide_slice Try.underlying42 (hval 0 42 v0 rfl rfl)
  obtain ⟨F, hFr, hFc⟩ := open_frames h0
  obtain ⟨tail, rfl, rfl, rfl, hl_tail⟩ := Go.ChangeMaps.open_string Try.underlying9 (hval 1 9 v1 rfl rfl) h1
  refine (rows_ok a0 len cap F tail W hFr hFc).mono fun e W' ⟨he, hb⟩ => ?_
  subst he
  exact ⟨_, rfl, law_shut laidOut (by kernel_rfl) (by kernel_rfl) Try.underlying4 rfl hW' rfl hb⟩

theorem rows_holds : Rows.WireRowsSaid :=
  OpenClaim.holds_of_wide 9 Try.f9 rfl rfl rfl rfl rfl rfl rfl ⟨rfl, rfl, rfl, rfl, rfl⟩ rfl rfl rfl rfl rfl (by kernel_rfl) Try.func9 (by kernel_rfl)
    (of_decide_eq_true (by kernel_rfl)) (by unfold Func.isWrapper; rw [if_neg (of_decide_eq_false (by kernel_rfl))]; exact ⟨rfl, rfl⟩)
    (fun os started H enc _ => rows_lifted os started H enc)
end Go.Proofs.Ytjohgfcfnlilmaa
