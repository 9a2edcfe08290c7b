/- An argument that is a row of acts, opened; two rows of integers that are the same. -/
import Derived.Test.YtcklfdpmggoafaaInts
import Derived.Deep.Slices
import Derived.Deep.Fields
import Derived.ChangeSame
namespace Go.Proofs.Ytcklfdpmggoafaa
open Go.RowKit Go.Lib Go.WideShapes Go.ChangeShapes Go.ChangeAt Go.Joins

structure Do where
  op : Int
  id : Int
  n : Int

/-- The cells of the acts c. -/
def ActsAt (w : World) (b off n : Nat) (c : Nat → Do) : Prop := ∀ i, i < n → w.cell? ⟨b, off + i * 3, none⟩ = some (.int .i64 (c i).op) ∧ w.cell? ⟨b, off + i * 3 + 1, none⟩ = some (.int .i64 (c i).id) ∧ w.cell? ⟨b, off + i * 3 + 2, none⟩ = some (.int .i64 (c i).n)

def I64 (z : Int) : Prop := -9223372036854775808 ≤ z ∧ z ≤ 9223372036854775807

theorem trod_three {H : Type} {enc : TypeId × Value → H} {P : Program} {w : World} {base : Nat} {spare : Nat → Bool} {held : Bool} {t : TypeId} {n : Nat} {cs : List Value} {x : DataW H × List MemPlace} {f0 f1 f2 : Field}
    (he : P.underlying t = some (.struct #[f0, f1, f2])) (hone : Go.Deep.oneCellFields P #[f0, f1, f2] = true) (hC : P.cellsOf t = 3) (t0 : P.underlying f0.type = some (.int .i64)) (t1 : P.underlying f1.type = some (.int .i64)) (t2 : P.underlying f2.type = some (.int .i64))
    (h : DataW.trod enc P w base spare held n t cs = some x) : ∃ q : Do, cs = [.int .i64 q.op, .int .i64 q.id, .int .i64 q.n] ∧ I64 q.op ∧ I64 q.id ∧ I64 q.n := by
  obtain ⟨xs, n', _, _, hcl, hlen, hg⟩ := DataW.trod_struct he h
  rw [hC] at hcl
  obtain ⟨o0, k0⟩ := Go.Deep.hone_of hone 0 f0 rfl
  obtain ⟨o1, k1⟩ := Go.Deep.hone_of hone 1 f1 rfl
  obtain ⟨o2, k2⟩ := Go.Deep.hone_of hone 2 f2 rfl
  match cs, hcl, xs, hlen with
  | [v0, v1, v2], _, [x0, x1, x2], _ =>
    have g0 := hg 0 f0 rfl
    have g1 := hg 1 f1 rfl
    have g2 := hg 2 f2 rfl
    rw [o0, k0] at g0
    rw [o1, k1] at g1
    rw [o2, k2] at g2
    obtain ⟨a, ea, _, wa⟩ := DataW.trod_int t0 (x := x0) g0
    obtain ⟨b, eb, _, wb⟩ := DataW.trod_int t1 (x := x1) g1
    obtain ⟨c, ec, _, wc⟩ := DataW.trod_int t2 (x := x2) g2
    simp at ea eb ec
    subst ea eb ec
    exact ⟨⟨a, b, c⟩, rfl, int_range wa, int_range wb, int_range wc⟩

theorem act_cells : Try.prog.cellsOf 33 = 3 := by kernel_rfl

theorem open_acts {H : Type} {enc : TypeId × Value → H} {w : World} {a : Option Addr} {len cap : Nat} {d : DataW H} {p : List MemPlace} (h : DataW.Trod enc Try.prog w 0 (fun _ => true) true 22 (.slice a len cap) d p) :
    ∃ c : Nat → Do, (∀ i, i < len → I64 (c i).op ∧ I64 (c i).id ∧ I64 (c i).n) ∧ (len = 0 ∨ ∃ b off, a = some ⟨b, off, none⟩ ∧ b < w.heap.size ∧ ActsAt w b off len c) := by
  obtain ⟨fuel, hf⟩ := h
  have hf' : DataW.trod enc Try.prog w 0 (fun _ => true) true fuel 22 [.slice a len cap] = some (d, p) := by simpa [Value.cells] using hf
  rcases Go.Deep.open_slice Try.underlying22 hf' with ⟨h0, _⟩ | ⟨a', len', cap', m, n, D, Pl, hcs, _, hl, _, hm, _, hc⟩
  · refine ⟨fun _ => ⟨0, 0, 0⟩, fun _ _ => by simp [I64], .inl ?_⟩
    simp at h0; exact h0.2.1
  · simp only [List.cons.injEq, Value.slice.injEq, and_true] at hcs
    obtain ⟨rfl, rfl, rfl⟩ := hcs
    have hlm : len ≤ m := by rw [hm]; simp; exact hl
    have hv : ∀ i, i < len → ∃ q : Do, (I64 q.op ∧ I64 q.id ∧ I64 q.n) ∧ w.cell? (a'.add (i * 3)) = some (.int .i64 q.op) ∧ w.cell? (a'.add (i * 3 + 1)) = some (.int .i64 q.id) ∧ w.cell? (a'.add (i * 3 + 2)) = some (.int .i64 q.n) := by
      intro i hi
      obtain ⟨cs', hcc, ht⟩ := hc i (by omega)
      rw [act_cells] at hcc
      obtain ⟨_, _, hat⟩ := World.cells?_some hcc
      obtain ⟨q, rfl, hq⟩ := trod_three Try.underlying33 (by kernel_rfl) act_cells Try.underlying3 Try.underlying3 Try.underlying3 ht
      refine ⟨q, hq, ?_, ?_, ?_⟩
      · have := hat 0 (by omega); rw [Go.Deep.add_add] at this; simpa using this
      · have := hat 1 (by omega); rw [Go.Deep.add_add] at this; simpa using this
      · have := hat 2 (by omega); rw [Go.Deep.add_add] at this; simpa using this
    let F : Nat → Do := fun i => if hi : i < len then Classical.choose (hv i hi) else ⟨0, 0, 0⟩
    have hF : ∀ i, i < len → (I64 (F i).op ∧ I64 (F i).id ∧ I64 (F i).n) ∧ w.cell? (a'.add (i * 3)) = some (.int .i64 (F i).op) ∧ w.cell? (a'.add (i * 3 + 1)) = some (.int .i64 (F i).id) ∧ w.cell? (a'.add (i * 3 + 2)) = some (.int .i64 (F i).n) := fun i hi => by
      have := Classical.choose_spec (hv i hi)
      simpa only [F, dif_pos hi] using this
    refine ⟨F, fun i hi => (hF i hi).1, ?_⟩
    by_cases h0 : len = 0
    · exact .inl h0
    right
    obtain ⟨b, off, spot⟩ := a'
    have hs0 := (hF 0 (by omega)).2.1
    have hspot : spot = none := by simpa [Addr.add] using World.cell?_spot hs0
    subst hspot
    refine ⟨b, off, rfl, World.block_lt_of_cell? w ((⟨b, off, none⟩ : Addr).add (0 * 3)) hs0, fun i hi => ?_⟩
    obtain ⟨_, h1, h2, h3⟩ := hF i hi
    rw [add_plain] at h1 h2 h3
    exact ⟨h1, by rw [Nat.add_assoc]; exact h2, by rw [Nat.add_assoc]; exact h3⟩

set_option maxHeartbeats 1000000 in
/-- Two rows that read the same integers are the same. -/
theorem same_yes (u v : Value) (l : List Int) (w : World) (hu : HoldsI w u l) (hv : HoldsI w v l) :
    Calls Try.prog 17 #[u, v] w fun e w' => e = .returned (.bool true) ∧ ∃ n, w' = w.drewN n := by
  obtain ⟨a, c, rfl⟩ := hu.form
  obtain ⟨a', c', rfl⟩ := hv.form
  have hlen := hu.len
  have H := Lib.hid hu; have K := Lib.hid hv
  clear hu hv
  go_enter Try.func17, Try.ntmps17
  go_wp2_with fail
  go_loopw [5, 5] (fun i _ wr => ∃ k n : Nat, k ≤ l.length ∧ i = .int .i64 k ∧ wr = w.drewN n) (fun i _ _ => l.length - (intOf i).toNat)
  case atStart => exact ⟨0, 0, Nat.zero_le _, rfl, rfl⟩
  case round =>
    obtain ⟨k, n, hk, rfl, hW⟩ := hrel
    have HW := Lib.hid hW
    by_cases hlt : k < l.length
    · obtain ⟨b, off, rfl, hb, hc⟩ := H.out.open (by omega)
      obtain ⟨b', off', rfl, hb', hc'⟩ := K.out.open (by omega)
      have d0 : wr.cell? ⟨b, off + k, none⟩ = some (.int .i64 l[k]) := by rw [hW]; exact hc k hlt
      have d1 : wr.cell? ⟨b', off' + k, none⟩ = some (.int .i64 l[k]) := by rw [hW]; exact hc' k hlt
      obtain ⟨x, hx⟩ : ∃ x, x = l[k] := ⟨_, rfl⟩
      rw [← hx] at d0 d1
      clear hx hc hc' hW
      have hi1 : (k : Int) < l.length := by omega
      have hne : (x != x) = false := by simp
      go_wp2_with fail
      go_quiet (fail)
      go_wp2_with fail
      go_roundw
      case rel => exact ⟨k + 1, n + nq, by omega, by go_num, by rw [HW.out, World.drewN_drewN]⟩
      case measure => simp [intOf]; omega
    · obtain rfl : k = l.length := by omega
      clear hW
      go_wp2_with fail
      go_ret
      exact ⟨rfl, n, HW.out⟩
end Go.Proofs.Ytcklfdpmggoafaa
