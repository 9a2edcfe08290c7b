/- The reference's All: all frames of a text, in a row of its own. -/
import Derived.Test.YtjohgfcfnlilmaaSteps
import Derived.Test.YtjohgfcfnlilmaaRefBoth
import Derived.Test.YtjohgfcfnlilmaaBoxes
import Derived.LoopTactic
import Derived.BigQuiet
import Derived.Deep.QuietTactic
import Derived.Deep.DeepAppendWide
namespace Go.Proofs.Ytjohgfcfnlilmaa
open Go.RowKit Go.Lib Go.WideShapes

/-- The cells of a row of frames. -/
def frameCells (g : List (Nat × ByteArray)) : List Value := g.flatMap fun q => [.int .u8 (q.1 : Nat), .string q.2]

theorem frameCells_snoc (g : List (Nat × ByteArray)) (q : Nat × ByteArray) : frameCells (g ++ [q]) = frameCells g ++ [.int .u8 (q.1 : Nat), .string q.2] := by
  simp [frameCells]

theorem ownsRow_form {w : World} {base size n : Nat} {e : TypeId} {v : Value} {xs : List Value} (h : w.ownsRow base e size v n xs) : ∃ a c, v = .slice a n c := by
  rcases h.2 with ⟨rfl, rfl⟩ | ⟨g, cap, _, rfl, _⟩
  · exact ⟨none, 0, rfl⟩
  · exact ⟨_, cap, rfl⟩

def textSize : Value → Nat
  | .string s => s.size
  | _ => 0

theorem Try.info29 : (Try.prog.info? 29).map (fun i => (i.zero, i.size, i.bytes)) = some (some (.agg #[.int .u8 0, .string { data := #[] }]), 2, 24) := by kernel_rfl

set_option maxHeartbeats 2000000 in
theorem all_any (s : ByteArray) (bare : Bool) (w : World) (hs : s.size ≤ 100000) :
    Calls Try.prog 21 #[.string s, .bool bare] w fun e w' => ∃ v g s' b', e = .returned (.tuple #[v, .string (if frameE s' b' = 4 then s' else { data := #[] }), .int .i64 (frameE s' b')]) ∧ Steps s bare g s' b' ∧ ¬ frameE s' b' = 0 ∧
      w'.ownsRow w.heap.size 29 2 v g.length (frameCells g) ∧ Below w.heap.size w w' := by
  obtain ⟨i0, hi, hz0, hz1, hz2⟩ := info_parts Try.info29
  go_enter Try.func21, Try.ntmps21
  go_wp2_with fail
  go_loopw [0, 7] (fun x o wr => ∃ t g, x = .string t ∧ Steps s bare g t (bare && g.isEmpty) ∧ wr.ownsRow w.heap.size 29 2 o g.length (frameCells g) ∧ Below w.heap.size w wr) (fun x _ _ => textSize x)
  case atStart => exact ⟨s, [], rfl, by simpa using Steps.none s bare, World.ownsRow_nil _ _ _ _, Below.refl _ _⟩
  case round =>
    obtain ⟨t, g, rfl, hS, hO, hB⟩ := hrel
    obtain ⟨a, c, rfl⟩ := ownsRow_form hO
    have hsz := hS.size
    cases bare with
    | false =>
      rw [Bool.false_and] at hS
      go_wp2_with fail
      by_cases hE : frameE t false = 0
      · refine (rtake_ok t false wr hE).mono ?_; rintro e w3 ⟨rfl, hb3⟩
        have hO3 := hO.kept (w' := w3) (row := none) ⟨hb3.os, hb3.tape, hb3.output, hb3.size, fun k hk _ => hb3.block k hk⟩ (by cases (Value.slice a g.length c).ownBlock <;> simp)
        have hB3 := hB.step hb3 hB.size
        have hz3 := hB3.size
        have hS3 := hS.snoc hE
        clear hO hB hb3 hS
        have hlt := hO3.lt
        have hl : (g ++ [(headT t false, frameB t false)]).length = g.length + 1 := by simp
        have hfc := frameCells_snoc g (headT t false, frameB t false)
        have hrz : (t.extract (frameN t false) t.size).size < t.size := by
          have hgf := good_frame hE
          have hN : 4 ≤ frameN t false := by unfold frameN; omega
          have hz : (t.extract (frameN t false) t.size).size = t.size - frameN t false := by simp
          omega
        go_wp2_with (at_builtin; refine wpList_append_own_wide _ rfl (.tmp 32) (.tmp 34) 46 rfl w.heap.size 29 i0 (.agg #[.int .u8 0, .string { data := #[] }]) 2 24 Try.underlying46 hi hz0 hz1 hz2 rfl (by decide) (.slice a g.length c) g.length (frameCells g) rfl ((hO3.alloc _).alloc _) ⟨w3.heap.size + 1, 0, none⟩ 1 1 [.int .u8 (headT t false : Nat), .string (frameB t false)] rfl rfl ?c1 ?c2 ?c3 ?c4 ?c5 ?_)
        case c1 => intro j u h; rw [Go.WideShapes.add_plain, Nat.zero_add, ← h]; exact (World.cell?_alloc2_new _ _ _ _).trans (by simp)
        case c2 => intro u hu; simp at hu; rcases hu with rfl | rfl <;> rfl
        case c3 => simp only [maxLen]; omega
        case c4 => omega
        case c5 => simp; omega
        intro v' w5 hO5 hg5 _
        have hB5 : Below w.heap.size w w5 := ((hB3.alloc hz3 _).alloc (by simp; omega) _).trans ⟨hg5.os, hg5.tape, hg5.output, hg5.size, fun k hk => hg5.block k (by simp; omega) (fun e => by have := hlt k e.symm; omega)⟩
        rw [← hfc, ← hl] at hO5
        have HO := Lib.hid hO5; have HS := Lib.hid hS3; have HB := Lib.hid hB5
        clear hO5 hS3 hB5 hg5 hO3 hB3 hlt hfc hl
        go_wp2
        go_roundw
        case rel => exact ⟨_, _, rfl, by rw [show (g ++ [(headT t false, frameB t false)]).isEmpty = false by cases g <;> rfl, Bool.and_false]; exact HS.out, HO.out, HB.out⟩
        case measure => exact hrz
      · by_cases h4 : frameE t false = 4
        · have hC := fun W => rtake_err t false W hE
          rw [h4] at hC
          refine (hC wr).mono ?_; rintro e w3 ⟨rfl, hb3⟩
          have hO3 := hO.kept (w' := w3) (row := none) ⟨hb3.os, hb3.tape, hb3.output, hb3.size, fun k hk _ => hb3.block k hk⟩ (by cases (Value.slice a g.length c).ownBlock <;> simp)
          have hB3 := hB.step hb3 hB.size
          have hz3 := hB3.size
          clear hO hB hb3 hC
          go_wp2
          go_ret3
          exact ⟨.slice a g.length c, g, t, false, by rw [if_pos h4, h4]; rfl, hS, hE, hO3.alloc _, hB3.alloc hz3 _⟩
        · have hC := fun W => rtake_err t false W hE
          have hX : (frameE t false == 4) = false := by simpa using h4
          have hY : (frameE t false == 0) = false := by simpa using hE
          have HE := Lib.hid (if_neg h4 : (if frameE t false = 4 then t else { data := #[] }) = { data := #[] })
          obtain ⟨E, hEE⟩ : ∃ E, E = frameE t false := ⟨_, rfl⟩
          rw [← hEE] at hC hX hY
          refine (hC wr).mono ?_; rintro e w3 ⟨rfl, hb3⟩
          have hO3 := hO.kept (w' := w3) (row := none) ⟨hb3.os, hb3.tape, hb3.output, hb3.size, fun k hk _ => hb3.block k hk⟩ (by cases (Value.slice a g.length c).ownBlock <;> simp)
          have hB3 := hB.step hb3 hB.size
          have hz3 := hB3.size
          have HEE := Lib.hid hEE
          clear hO hB hb3 hC hEE
          go_wp2
          go_ret3
          exact ⟨.slice a g.length c, g, t, false, by rw [HE.out, ← HEE.out]; rfl, hS, hE, hO3.alloc _, hB3.alloc hz3 _⟩
    | true =>
      rw [Bool.true_and] at hS
      go_wp2_with fail
      rw [show (((g.length : Nat) : Int) == 0) = g.isEmpty by cases g <;> simp <;> omega]
      by_cases hE : frameE t g.isEmpty = 0
      · refine (rtake_ok t g.isEmpty wr hE).mono ?_; rintro e w3 ⟨rfl, hb3⟩
        have hO3 := hO.kept (w' := w3) (row := none) ⟨hb3.os, hb3.tape, hb3.output, hb3.size, fun k hk _ => hb3.block k hk⟩ (by cases (Value.slice a g.length c).ownBlock <;> simp)
        have hB3 := hB.step hb3 hB.size
        have hz3 := hB3.size
        have hS3 := hS.snoc hE
        clear hO hB hb3 hS
        have hlt := hO3.lt
        have hl : (g ++ [(headT t g.isEmpty, frameB t g.isEmpty)]).length = g.length + 1 := by simp
        have hfc := frameCells_snoc g (headT t g.isEmpty, frameB t g.isEmpty)
        have hrz : (t.extract (frameN t g.isEmpty) t.size).size < t.size := by
          have hgf := good_frame hE
          have hN : 4 ≤ frameN t g.isEmpty := by unfold frameN; omega
          have hz : (t.extract (frameN t g.isEmpty) t.size).size = t.size - frameN t g.isEmpty := by simp
          omega
        go_wp2_with (at_builtin; refine wpList_append_own_wide _ rfl (.tmp 32) (.tmp 34) 46 rfl w.heap.size 29 i0 (.agg #[.int .u8 0, .string { data := #[] }]) 2 24 Try.underlying46 hi hz0 hz1 hz2 rfl (by decide) (.slice a g.length c) g.length (frameCells g) rfl ((hO3.alloc _).alloc _) ⟨w3.heap.size + 1, 0, none⟩ 1 1 [.int .u8 (headT t g.isEmpty : Nat), .string (frameB t g.isEmpty)] rfl rfl ?c1 ?c2 ?c3 ?c4 ?c5 ?_)
        case c1 => intro j u h; rw [Go.WideShapes.add_plain, Nat.zero_add, ← h]; exact (World.cell?_alloc2_new _ _ _ _).trans (by simp)
        case c2 => intro u hu; simp at hu; rcases hu with rfl | rfl <;> rfl
        case c3 => simp only [maxLen]; omega
        case c4 => omega
        case c5 => simp; omega
        intro v' w5 hO5 hg5 _
        have hB5 : Below w.heap.size w w5 := ((hB3.alloc hz3 _).alloc (by simp; omega) _).trans ⟨hg5.os, hg5.tape, hg5.output, hg5.size, fun k hk => hg5.block k (by simp; omega) (fun e => by have := hlt k e.symm; omega)⟩
        rw [← hfc, ← hl] at hO5
        have HO := Lib.hid hO5; have HS := Lib.hid hS3; have HB := Lib.hid hB5
        clear hO5 hS3 hB5 hg5 hO3 hB3 hlt hfc hl
        go_wp2
        go_roundw
        case rel => exact ⟨_, _, rfl, by rw [show (g ++ [(headT t g.isEmpty, frameB t g.isEmpty)]).isEmpty = false by cases g <;> rfl, Bool.and_false]; exact HS.out, HO.out, HB.out⟩
        case measure => exact hrz
      · by_cases h4 : frameE t g.isEmpty = 4
        · have hC := fun W => rtake_err t g.isEmpty W hE
          rw [h4] at hC
          refine (hC wr).mono ?_; rintro e w3 ⟨rfl, hb3⟩
          have hO3 := hO.kept (w' := w3) (row := none) ⟨hb3.os, hb3.tape, hb3.output, hb3.size, fun k hk _ => hb3.block k hk⟩ (by cases (Value.slice a g.length c).ownBlock <;> simp)
          have hB3 := hB.step hb3 hB.size
          have hz3 := hB3.size
          clear hO hB hb3 hC
          go_wp2
          go_ret3
          exact ⟨.slice a g.length c, g, t, g.isEmpty, by rw [if_pos h4, h4]; rfl, hS, hE, hO3.alloc _, hB3.alloc hz3 _⟩
        · have hC := fun W => rtake_err t g.isEmpty W hE
          have hX : (frameE t g.isEmpty == 4) = false := by simpa using h4
          have hY : (frameE t g.isEmpty == 0) = false := by simpa using hE
          have HE := Lib.hid (if_neg h4 : (if frameE t g.isEmpty = 4 then t else { data := #[] }) = { data := #[] })
          obtain ⟨E, hEE⟩ : ∃ E, E = frameE t g.isEmpty := ⟨_, rfl⟩
          rw [← hEE] at hC hX hY
          refine (hC wr).mono ?_; rintro e w3 ⟨rfl, hb3⟩
          have hO3 := hO.kept (w' := w3) (row := none) ⟨hb3.os, hb3.tape, hb3.output, hb3.size, fun k hk _ => hb3.block k hk⟩ (by cases (Value.slice a g.length c).ownBlock <;> simp)
          have hB3 := hB.step hb3 hB.size
          have hz3 := hB3.size
          have HEE := Lib.hid hEE
          clear hO hB hb3 hC hEE
          go_wp2
          go_ret3
          exact ⟨.slice a g.length c, g, t, g.isEmpty, by rw [HE.out, ← HEE.out]; rfl, hS, hE, hO3.alloc _, hB3.alloc hz3 _⟩
end Go.Proofs.Ytjohgfcfnlilmaa
