/- Contracts and mathematics: PCommand, PBarred, POf. -/
import Derived.Test.YtpijolcklmdjbaaGreatDoorZ43
import Derived.Test.YtpijolcklmdjbaaGreatDoorZ12
import Derived.Deep.LoopGhost
import Derived.ChangeKeysEq
import Derived.Deep.MidRow
import Derived.Deep.RegionWith
import Derived.Deep.DeepCutAuto
namespace Go.Proofs.YtpijolcklmdjbaaGreatDoor
open Go.RowKit Go.Lib Go.WideShapes

theorem bytes_inj {S S' : ByteArray} (h : bytes S = bytes S') : S = S' := by
  cases S; cases S'; congr 1; exact Array.toList_inj.1 h

set_option maxRecDepth 100000 in
set_option maxHeartbeats 4000000 in
theorem cmd_none (S : ByteArray) (v : Value) (T : List Tok) (w : World) (n_set : ¬ bytes S = w_set) (n_reset : ¬ bytes S = w_reset) (n_discard : ¬ bytes S = w_discard) (n_start : ¬ bytes S = w_start) (n_begin : ¬ bytes S = w_begin) (n_end : ¬ bytes S = w_end) (n_commit : ¬ bytes S = w_commit) (n_abort : ¬ bytes S = w_abort) (n_rollback : ¬ bytes S = w_rollback) (n_savepoint : ¬ bytes S = w_savepoint) (n_release : ¬ bytes S = w_release) (n_show : ¬ bytes S = w_show) :
    Calls Tryz.prog 36 #[.string S, v] w (CmdOut (commandC (bytes S) T) w) := by
  rw [show commandC (bytes S) T = (noCmd, false) by unfold commandC; rw [if_neg n_set, if_neg n_reset, if_neg n_discard, if_neg n_start, if_neg n_begin, if_neg n_end, if_neg n_commit, if_neg n_abort, if_neg n_rollback, if_neg n_savepoint, if_neg n_release, if_neg n_show]]
  have HS := Lib.hid (Res.start w)
  have b_set : (S.toList == [115, 101, 116]) = false := by rw [Lib.toList_data]; exact beq_eq_false_iff_ne.2 n_set
  have b_reset : (S.toList == [114, 101, 115, 101, 116]) = false := by rw [Lib.toList_data]; exact beq_eq_false_iff_ne.2 n_reset
  have b_discard : (S.toList == [100, 105, 115, 99, 97, 114, 100]) = false := by rw [Lib.toList_data]; exact beq_eq_false_iff_ne.2 n_discard
  have b_start : (S.toList == [115, 116, 97, 114, 116]) = false := by rw [Lib.toList_data]; exact beq_eq_false_iff_ne.2 n_start
  have b_begin : (S.toList == [98, 101, 103, 105, 110]) = false := by rw [Lib.toList_data]; exact beq_eq_false_iff_ne.2 n_begin
  have b_end : (S.toList == [101, 110, 100]) = false := by rw [Lib.toList_data]; exact beq_eq_false_iff_ne.2 n_end
  have b_commit : (S.toList == [99, 111, 109, 109, 105, 116]) = false := by rw [Lib.toList_data]; exact beq_eq_false_iff_ne.2 n_commit
  have b_abort : (S.toList == [97, 98, 111, 114, 116]) = false := by rw [Lib.toList_data]; exact beq_eq_false_iff_ne.2 n_abort
  have b_rollback : (S.toList == [114, 111, 108, 108, 98, 97, 99, 107]) = false := by rw [Lib.toList_data]; exact beq_eq_false_iff_ne.2 n_rollback
  have b_savepoint : (S.toList == [115, 97, 118, 101, 112, 111, 105, 110, 116]) = false := by rw [Lib.toList_data]; exact beq_eq_false_iff_ne.2 n_savepoint
  have b_release : (S.toList == [114, 101, 108, 101, 97, 115, 101]) = false := by rw [Lib.toList_data]; exact beq_eq_false_iff_ne.2 n_release
  have b_show : (S.toList == [115, 104, 111, 119]) = false := by rw [Lib.toList_data]; exact beq_eq_false_iff_ne.2 n_show
  clear n_set n_reset n_discard n_start n_begin n_end n_commit n_abort n_rollback n_savepoint n_release n_show
  unfold CmdOut
  go_enter Tryz.func36, Tryz.ntmps36
  go_wp2_with fail
  simp [bodyPost, results, Tryz.results36, go_sem]
  exact ⟨rfl, HS.out.below⟩

theorem command_any (S : ByteArray) (p : Option Addr) (T : List Tok) (n c : Nat) (m : Int) (w : World) (hT : T.length = n) (hn : n ≤ 100000) (hc : n ≤ c) (hc9 : c ≤ 9223372036854775807) (hA : TokOff w p T) (hx : ∀ q ∈ T, q.text.length ≤ 2000) (hm : w.cell? ⟨2, 0, none⟩ = some (.int .i64 m)) :
    Calls Tryz.prog 36 #[.string S, .slice p n c] w (CmdOut (commandC (bytes S) T) w) := by
  by_cases n_set : bytes S = w_set
  · obtain rfl : S = { data := #[115, 101, 116] } := bytes_inj n_set
    exact cmd_set p T n c m w hT hn hc hc9 hA hx hm
  by_cases n_reset : bytes S = w_reset
  · obtain rfl : S = { data := #[114, 101, 115, 101, 116] } := bytes_inj n_reset
    exact cmd_reset p T n c m w hT hn hc hc9 hA hx hm
  by_cases n_discard : bytes S = w_discard
  · obtain rfl : S = { data := #[100, 105, 115, 99, 97, 114, 100] } := bytes_inj n_discard
    exact cmd_discard p T n c m w hT hn hc hc9 hA hx hm
  by_cases n_start : bytes S = w_start
  · obtain rfl : S = { data := #[115, 116, 97, 114, 116] } := bytes_inj n_start
    exact cmd_start p T n c m w hT hn hc hc9 hA hx hm
  by_cases n_begin : bytes S = w_begin
  · obtain rfl : S = { data := #[98, 101, 103, 105, 110] } := bytes_inj n_begin
    exact cmd_begin p T n c m w hT hn hc hc9 hA hx hm
  by_cases n_end : bytes S = w_end
  · obtain rfl : S = { data := #[101, 110, 100] } := bytes_inj n_end
    exact cmd_end p T n c m w hT hn hc hc9 hA hx hm
  by_cases n_commit : bytes S = w_commit
  · obtain rfl : S = { data := #[99, 111, 109, 109, 105, 116] } := bytes_inj n_commit
    exact cmd_commit p T n c m w hT hn hc hc9 hA hx hm
  by_cases n_abort : bytes S = w_abort
  · obtain rfl : S = { data := #[97, 98, 111, 114, 116] } := bytes_inj n_abort
    exact cmd_abort p T n c m w hT hn hc hc9 hA hx hm
  by_cases n_rollback : bytes S = w_rollback
  · obtain rfl : S = { data := #[114, 111, 108, 108, 98, 97, 99, 107] } := bytes_inj n_rollback
    exact cmd_rollback p T n c m w hT hn hc hc9 hA hx hm
  by_cases n_savepoint : bytes S = w_savepoint
  · obtain rfl : S = { data := #[115, 97, 118, 101, 112, 111, 105, 110, 116] } := bytes_inj n_savepoint
    exact cmd_savepoint p T n c m w hT hn hc hc9 hA hx hm
  by_cases n_release : bytes S = w_release
  · obtain rfl : S = { data := #[114, 101, 108, 101, 97, 115, 101] } := bytes_inj n_release
    exact cmd_release p T n c m w hT hn hc hc9 hA hx hm
  by_cases n_show : bytes S = w_show
  · obtain rfl : S = { data := #[115, 104, 111, 119] } := bytes_inj n_show
    exact cmd_show p T n c m w hT hn hc hc9 hA hx hm
  exact cmd_none S _ T w n_set n_reset n_discard n_start n_begin n_end n_commit n_abort n_rollback n_savepoint n_release n_show
end Go.Proofs.YtpijolcklmdjbaaGreatDoor

namespace Go.Proofs.YtpijolcklmdjbaaGreatDoor
open Go.RowKit Go.Lib Go.WideShapes

/-- The program's row of barred words. -/
def BarredAt (w : World) : Prop := ∀ (i : Nat) (x : Bs), barredL[i]? = some x → w.cell? ⟨0, i, none⟩ = some (.string ⟨x.toArray⟩)
theorem BarredAt.lt {w : World} (h : BarredAt w) : 0 < w.heap.size := World.block_lt_of_cell? w ⟨0, 0, none⟩ (h 0 _ rfl)
theorem BarredAt.step {w w' : World} (h : BarredAt w) (hb : Below w.heap.size w w') : BarredAt w' := fun i x hx => (hb.cell (p := ⟨0, i, none⟩) h.lt).trans (h i x hx)
theorem barred_step (l : Bs) (k : Nat) (x : Bs) (h : barredL[k]? = some x) : (barredL.drop k).any (fun y => y == l) = ((x == l) || (barredL.drop (k + 1)).any (fun y => y == l)) := by
  rw [List.drop_eq_getElem_cons (List.getElem?_eq_some_iff.1 h).1, List.any_cons, (List.getElem?_eq_some_iff.1 h).2]
theorem index_plain {P : Program} {t e : TypeId} {n : Nat} (cs : Array Value) (k : Nat) (v : Value) (w : World) (hu : P.underlying t = some (.array n e)) (hi : (P.info? e).isSome = true) (hc : P.cellsOf e = 1) (he : P.plainKey e = true) (hk : k < n) (hx : cs[k]? = some v) :
    (Instr.index t (.agg cs) (.int .i64 k)).run P w = .ok v w := by
  obtain ⟨i, hi⟩ := Option.isSome_iff_exists.1 hi
  have h := run_part_plain (P := P) w he hx
  simp [part, go_sem] at h
  simp [Instr.index, run_underlying hu, asIntOf, hk, run_sizeOf w hi, hc, go_sem]
  exact h
def barredA : Array Value := (barredL.map (fun x => (.string ⟨x.toArray⟩ : Value))).toArray
theorem barredA_get (k : Nat) (x : Bs) (h : barredL[k]? = some x) : barredA[k]? = some (.string ⟨x.toArray⟩) := by
  unfold barredA
  simp [h]
theorem barred_index (k : Nat) (x : Bs) (h : barredL[k]? = some x) (w : World) : (Instr.index 116 (.agg barredA) (.int .i64 k)).run Tryz.prog w = .ok (.string ⟨x.toArray⟩) w :=
  index_plain barredA k _ w Tryz.underlying116 (by kernel_rfl) (by kernel_rfl) (by kernel_rfl) (show k < 20 from (List.getElem?_eq_some_iff.1 h).1) (barredA_get k x h)
theorem barred_range (w : World) (h : BarredAt w) : w.rangeAt 0 0 (barredL.map (fun x => (.string ⟨x.toArray⟩ : Value))) := by
  intro j v hv
  rw [List.getElem?_map] at hv
  cases hx : barredL[j]? with
  | none => rw [hx] at hv; cases hv
  | some x => rw [hx] at hv; cases hv; rw [Nat.zero_add]; exact h j x hx
theorem barred_info : (Tryz.prog.info? 116).map (·.size) = some (barredL.map (fun x => (.string ⟨x.toArray⟩ : Value))).length := by kernel_rfl

set_option maxRecDepth 100000 in
set_option maxHeartbeats 4000000 in
theorem barred_any (s : ByteArray) (w : World) (hT : BarredAt w) :
    Calls Tryz.prog 37 #[.string s] w fun e w' => e = .returned (.bool (barredB (bytes s))) ∧ w = w' := by
  obtain ⟨R, hR⟩ : ∃ R, R = barredB (bytes s) := ⟨_, rfl⟩
  rw [← hR]
  have HR := Lib.hid (show R = (barredL.drop 0).any (fun y => y == bytes s) from hR)
  have HBI := Lib.hid (fun k x h w => barred_index k x h w)
  have HRG := Lib.hid (barred_range w hT)
  have HIN := Lib.hid barred_info
  unfold barredA at HBI
  generalize barredL.map (fun x => (.string ⟨x.toArray⟩ : Value)) = L at HBI HRG HIN
  clear hR hT
  go_enter Tryz.func37, Tryz.ntmps37
  go_wp2_with (refine wpList_load_mid rfl 116 _ rfl 0 0 rfl L _ HRG.out Tryz.underlying116 rfl HIN.out ?_)
  go_loopg [6] 20 (fun g v wr => ∃ k : Nat, v = .int .i64 k ∧ k ≤ 20 ∧ g = 20 - k ∧ wr = w ∧ R = (barredL.drop k).any (fun y => y == bytes s))
  case atStart => exact ⟨0, rfl, Nat.zero_le _, rfl, rfl, HR.out⟩
  case round =>
    obtain ⟨k, rfl, hk, hg, rfl, ho⟩ := hrel
    have HO := Lib.hid ho; have HG := Lib.hid hg
    clear ho hg
    by_cases hlt : k < 20
    · obtain ⟨x, hx⟩ : ∃ x, barredL[k]? = some x := ⟨_, List.getElem?_eq_getElem (by show k < 20; exact hlt)⟩
      have hI := HBI.out k x hx wr
      have hlt' : (k : Int) < 20 := by omega
      have HS := Lib.hid (barred_step (bytes s) k x hx)
      clear hx
      cases hb : (x == bytes s) with
      | true =>
        have HT := Lib.hid (show R = true by rw [HO.out, HS.out, hb]; rfl)
        have hb2 : (x == s.toList) = true := by rw [Lib.toList_data]; exact hb
        clear hb
        go_wp2_with fail
        go_ret
        exact ⟨by rw [HT.out]; rfl, rfl⟩
      | false =>
        have HN := Lib.hid (show R = (barredL.drop (k + 1)).any (fun y => y == bytes s) by rw [HO.out, HS.out, hb]; rfl)
        have hb2 : (x == s.toList) = false := by rw [Lib.toList_data]; exact hb
        clear hb
        go_wp2_with fail
        go_roundg (20 - (k + 1))
        case measure => have := HG.out; omega
        case rel => exact ⟨k + 1, by go_num, by omega, rfl, rfl, HN.out⟩
    · obtain rfl : k = 20 := by omega
      have HF := Lib.hid (show R = false from HO.out)
      go_wp2_with fail
      go_ret
      exact ⟨by rw [HF.out]; rfl, rfl⟩
end Go.Proofs.YtpijolcklmdjbaaGreatDoor

namespace Go.Proofs.YtpijolcklmdjbaaGreatDoor
open Go.RowKit Go.Lib Go.WideShapes

/-- A block of three cells that was made ahead of a call. -/
theorem three_kept {w w5 : World} {x y z : Value} {u : TypeId} (hb : Below (w.alloc (.cells #[x, y, z] u)).drew.heap.size (w.alloc (.cells #[x, y, z] u)).drew w5) :
    (w5.cell? ⟨w.heap.size, 0, none⟩ = some x ∧ w5.cell? ⟨w.heap.size, 1, none⟩ = some y ∧ w5.cell? ⟨w.heap.size, 2, none⟩ = some z) ∧ w5.frozen? ⟨w.heap.size, 0, none⟩ = false ∧ w5.frozen? ⟨w.heap.size, 1, none⟩ = false ∧ w5.frozen? ⟨w.heap.size, 2, none⟩ = false := by
  have hl : w.heap.size < (w.alloc (.cells #[x, y, z] u)).drew.heap.size := by simp
  refine ⟨⟨?_, ?_, ?_⟩, ?_, ?_, ?_⟩
  · exact (hb.cell (p := ⟨w.heap.size, 0, none⟩) hl).trans (by simp [go_sem])
  · exact (hb.cell (p := ⟨w.heap.size, 1, none⟩) hl).trans (by simp [go_sem])
  · exact (hb.cell (p := ⟨w.heap.size, 2, none⟩) hl).trans (by simp [go_sem])
  · exact (hb.frozen (p := ⟨w.heap.size, 0, none⟩) hl).trans (by simp [go_sem])
  · exact (hb.frozen (p := ⟨w.heap.size, 1, none⟩) hl).trans (by simp [go_sem])
  · exact (hb.frozen (p := ⟨w.heap.size, 2, none⟩) hl).trans (by simp [go_sem])
/-- The cells that Of makes: the statement's tokens, the result, the first token's text. -/
structure OfAt (w : World) (b : Nat) (V : Value) (X : Bs) (w1 : World) : Prop where
  below : Below b w w1
  lt : b + 2 < w1.heap.size
  v : w1.cell? ⟨b, 0, none⟩ = some V
  x : w1.cell? ⟨b + 1 + 1, 1, none⟩ = some (.string ⟨X.toArray⟩)
  c0 : w1.cell? ⟨b + 1, 0, none⟩ = some (.int .u8 0)
  c1 : w1.cell? ⟨b + 1, 1, none⟩ = some (.string { data := #[] })
  c2 : w1.cell? ⟨b + 1, 2, none⟩ = some (.string { data := #[] })
  f0 : w1.frozen? ⟨b + 1, 0, none⟩ = false
  f1 : w1.frozen? ⟨b + 1, 1, none⟩ = false
  f2 : w1.frozen? ⟨b + 1, 2, none⟩ = false
theorem OfAt.step {w w1 w2 : World} {b : Nat} {V : Value} {X : Bs} (h : OfAt w b V X w1) (hb : Below w1.heap.size w1 w2) : OfAt w b V X w2 := by
  have l0 : b < w1.heap.size := by have := h.lt; omega
  have l1 : b + 1 < w1.heap.size := by have := h.lt; omega
  have l2 : b + 1 + 1 < w1.heap.size := by have := h.lt; omega
  exact ⟨h.below.step hb (by omega), Nat.lt_of_lt_of_le h.lt hb.size, (hb.cell (p := ⟨b, 0, none⟩) l0).trans h.v, (hb.cell (p := ⟨b + 1 + 1, 1, none⟩) l2).trans h.x, (hb.cell (p := ⟨b + 1, 0, none⟩) l1).trans h.c0, (hb.cell (p := ⟨b + 1, 1, none⟩) l1).trans h.c1, (hb.cell (p := ⟨b + 1, 2, none⟩) l1).trans h.c2,
    (hb.frozen (p := ⟨b + 1, 0, none⟩) l1).trans h.f0, (hb.frozen (p := ⟨b + 1, 1, none⟩) l1).trans h.f1, (hb.frozen (p := ⟨b + 1, 2, none⟩) l1).trans h.f2⟩
theorem OfAt.held {w w3 w5 : World} {b : Nat} {V : Value} {X : Bs} (h : OfAt w b V X w3) (hb : Below w3.drew.heap.size w3.drew w5) : (w5.cell? ⟨b, 0, none⟩ = some V ∧ w5.cell? ⟨b + 1 + 1, 1, none⟩ = some (.string ⟨X.toArray⟩)) ∧ Below w3.heap.size w3 w5 := by
  have hb' : Below w3.heap.size w3 w5 := (Below.refl _ w3).drew.step hb (Nat.le_refl _)
  have := h.step hb'
  exact ⟨⟨this.v, this.x⟩, hb'⟩
theorem OfAt.put {w w1 : World} {b : Nat} {V : Value} {X : Bs} (h : OfAt w b V X w1) (x y z : Value) : ((((w1.setCell ⟨b + 1, 0, none⟩ x).setCell ⟨b + 1, 1, none⟩ y).setCell ⟨b + 1, 2, none⟩ z).cell? ⟨b + 1, 0, none⟩ = some x ∧ (((w1.setCell ⟨b + 1, 0, none⟩ x).setCell ⟨b + 1, 1, none⟩ y).setCell ⟨b + 1, 2, none⟩ z).cell? ⟨b + 1, 1, none⟩ = some y ∧ (((w1.setCell ⟨b + 1, 0, none⟩ x).setCell ⟨b + 1, 1, none⟩ y).setCell ⟨b + 1, 2, none⟩ z).cell? ⟨b + 1, 2, none⟩ = some z) ∧
    Below b w (((w1.setCell ⟨b + 1, 0, none⟩ x).setCell ⟨b + 1, 1, none⟩ y).setCell ⟨b + 1, 2, none⟩ z) :=
  ⟨res_put h.c0 h.c1 h.c2 x y z, ((h.below.setCell (Nat.le_succ _) x).setCell (Nat.le_succ _) y).setCell (Nat.le_succ _) z⟩
/-- What Of has behind the command's call. -/
def OfCut (w : World) (b : Nat) (V : Value) (X : Bs) (k n v : Value) (q : Nat) (wx : World) : Prop := OfAt w b V X wx ∧ wx.cell? ⟨q, 0, none⟩ = some k ∧ wx.cell? ⟨q, 1, none⟩ = some n ∧ wx.cell? ⟨q, 2, none⟩ = some v
theorem OfCut.new {w w5 : World} {b : Nat} {V : Value} {X : Bs} {k n v : Value} {u : TypeId} (h : OfAt w b V X w5) : OfCut w b V X k n v w5.heap.size (w5.alloc (.cells #[k, n, v] u)) :=
  ⟨h.step ((Below.refl _ _).alloc (Nat.le_refl _) _), by simp [go_sem], by simp [go_sem], by simp [go_sem]⟩
theorem OfCut.old {w w5 : World} {b g : Nat} {V : Value} {X : Bs} {x y z : Value} (k n v : Value) (h : OfAt w b V X w5) (hg : b + 2 < g) (h0 : w5.cell? ⟨g, 0, none⟩ = some x) (h1 : w5.cell? ⟨g, 1, none⟩ = some y) (h2 : w5.cell? ⟨g, 2, none⟩ = some z) :
    OfCut w b V X k n v g (((w5.setCell ⟨g, 0, none⟩ k).setCell ⟨g, 1, none⟩ n).setCell ⟨g, 2, none⟩ v) := by
  obtain ⟨k0, k1, k2⟩ := res_put h0 h1 h2 k n v
  refine ⟨?_, k0, k1, k2⟩
  have hB : Below g w5 (((w5.setCell ⟨g, 0, none⟩ k).setCell ⟨g, 1, none⟩ n).setCell ⟨g, 2, none⟩ v) := (((Below.refl g w5).setCell (p := ⟨g, 0, none⟩) (Nat.le_refl g) k).setCell (p := ⟨g, 1, none⟩) (Nat.le_refl g) n).setCell (p := ⟨g, 2, none⟩) (Nat.le_refl g) v
  have l0 : b < g := by omega
  have l1 : b + 1 < g := by omega
  have l2 : b + 1 + 1 < g := by omega
  exact ⟨((h.below.setCell (p := ⟨g, 0, none⟩) (show b ≤ g by omega) k).setCell (p := ⟨g, 1, none⟩) (show b ≤ g by omega) n).setCell (p := ⟨g, 2, none⟩) (show b ≤ g by omega) v, Nat.lt_of_lt_of_le h.lt hB.size, (hB.cell (p := ⟨b, 0, none⟩) l0).trans h.v, (hB.cell (p := ⟨b + 1 + 1, 1, none⟩) l2).trans h.x, (hB.cell (p := ⟨b + 1, 0, none⟩) l1).trans h.c0, (hB.cell (p := ⟨b + 1, 1, none⟩) l1).trans h.c1, (hB.cell (p := ⟨b + 1, 2, none⟩) l1).trans h.c2,
    (hB.frozen (p := ⟨b + 1, 0, none⟩) l1).trans h.f0, (hB.frozen (p := ⟨b + 1, 1, none⟩) l1).trans h.f1, (hB.frozen (p := ⟨b + 1, 2, none⟩) l1).trans h.f2⟩
theorem OfAt.start (w : World) (V L H : Value) (k lo hi : Value) (X : Bs) (u v x : TypeId) :
    OfAt w w.heap.size V X (((w.alloc (.cells #[V, L, H] u)).alloc (.cells #[.int .u8 0, .string { data := #[] }, .string { data := #[] }] v)).alloc (.cells #[k, .string ⟨X.toArray⟩, lo, hi] x)) := by
  refine ⟨(((Below.refl _ w).alloc (Nat.le_refl _) _).alloc (by simp) _).alloc (by simp; omega) _, by simp, ?_, ?_, ?_, ?_, ?_, ?_, ?_, ?_⟩ <;> simp [go_sem]

set_option maxRecDepth 100000 in
set_option maxHeartbeats 8000000 in
theorem of_any (p : Option Addr) (T : List Tok) (n c : Nat) (lo hi : Int) (m : Int) (w : World) (hT : T.length = n) (hn : n ≤ 100000) (hc : n ≤ c) (hc9 : c ≤ 9223372036854775807) (hA : TokOff w p T) (hx : ∀ q ∈ T, q.text.length ≤ 2000) (hm : w.cell? ⟨2, 0, none⟩ = some (.int .i64 m)) (hbar : BarredAt w) :
    Calls Tryz.prog 20 #[.agg #[.slice p n c, .int .i64 lo, .int .i64 hi]] w fun e w' => e = .returned (ofC T).val ∧ Below w.heap.size w w' := by
  obtain ⟨q, hq⟩ : ∃ q, q = ofC T := ⟨_, rfl⟩
  rw [← hq]
  have HQ := Lib.hid hq
  clear hq
  unfold Cmd.val
  have HB0 := Lib.hid ((Below.refl w.heap.size w).alloc (Nat.le_refl _) (Obj.cells #[.slice p n c, .int .i64 lo, .int .i64 hi] 60))
  have HS := Lib.hid (Res.start (w.alloc (Obj.cells #[.slice p n c, .int .i64 lo, .int .i64 hi] 60)))
  have HM := Lib.hid hm
  have HTK := Lib.hid hA
  have HZ := Lib.hid (World.block_lt_of_cell? w ⟨2, 0, none⟩ hm)
  have HA := Lib.hid ((hA.step HB0.out).step HS.out.below)
  have HBR := Lib.hid hbar
  have HT := Lib.hid hT; have HX := Lib.hid hx
  clear hm hA hbar hx
  cases T with
  | nil =>
    obtain rfl : 0 = n := hT
    have HE := Lib.hid (show q = ⟨48, [], []⟩ from HQ.out)
    go_enter Tryz.func20, Tryz.ntmps20
    go_wp2_with fail
    simp [bodyPost, results, Tryz.results20, go_sem]
    rw [HE.out]
    exact ⟨⟨rfl, rfl, rfl⟩, ((Below.refl _ w).alloc (Nat.le_refl _) _).alloc (by simp) _⟩
  | cons t r =>
    have hn1 : (1 : Int) ≤ n := by rw [← hT, List.length_cons]; omega
    obtain ⟨g, off, rfl, hg, hcc⟩ := HA.out.first
    obtain ⟨_, a0, a1, a2, a3⟩ := hcc.get (i := 0) rfl
    simp only [Nat.zero_mul, Nat.add_zero] at a0 a1 a2 a3
    clear hT hcc
    cases h1 : (t.kind == 119) with
    | false =>
      have hb : ((t.kind.toNat : Int) == 119) = false := by
        rw [kind_eq] at h1; simp at h1 ⊢; omega
      have HE := Lib.hid (show q = ⟨111, t.text, []⟩ by rw [HQ.out]; unfold ofC; simp only [h1]; rfl)
      clear h1
      go_enter Tryz.func20, Tryz.ntmps20
      go_wp2_with fail
      simp [bodyPost, results, Tryz.results20, go_sem]
      rw [HE.out]
      exact ⟨⟨rfl, rfl, rfl⟩, (((Below.refl _ w).alloc (Nat.le_refl _) _).alloc (by simp) _).alloc (by simp; omega) _⟩
    | true =>
      have hb : ((t.kind.toNat : Int) == 119) = true := by
        rw [kind_eq] at h1; simp at h1 ⊢; omega
      have HK := Lib.hid h1
      have hn2 : (n : Int) ≤ c := by omega
      clear h1
      obtain ⟨ok, hok⟩ : ∃ ok, ok = (commandC t.text r).2 := ⟨_, rfl⟩
      obtain ⟨cm, hcm⟩ : ∃ cm, cm = (commandC t.text r).1 := ⟨_, rfl⟩
      have HE := Lib.hid (show q = if ok then cm else if barredB t.text then ⟨117, t.text, []⟩ else ⟨111, t.text, []⟩ by rw [HQ.out, hok, hcm]; unfold ofC; simp only [HK.out]; rfl)
      have HX2 := Lib.hid (show ∀ q ∈ r, q.text.length ≤ 2000 from fun q hq => HX.out q (List.mem_cons_of_mem _ hq))
      have HLR := Lib.hid (show r.length = n - 1 by rw [← HT.out]; simp)
      have HTOK := HTK
      have HC := Lib.hid (show ∀ (W : World) (p' : Option Addr) (k c' : Nat), k = n - 1 → Below w.heap.size w W → (p' = some ⟨g, off + 4, none⟩ ∨ n = 1) → k ≤ c' → c' ≤ 9223372036854775807 → Calls Tryz.prog 36 #[.string ⟨t.text.toArray⟩, .slice p' k c'] W (fun e w' => e = .returned (.tuple #[cm.val, .bool ok]) ∧ Below W.heap.size W w') from fun W p' k c' hk hb hp' hc' hc9' => by
        subst hk
        have hh := command_any ⟨t.text.toArray⟩ p' r (n - 1) c' m W HLR.out (by omega) hc' hc9' (by
          rcases hp' with rfl | h
          · have := (HTOK.out.step hb).drop 1
            rw [Nat.one_mul] at this; exact this
          · exact .inl (List.length_eq_zero_iff.1 (by rw [HLR.out]; omega))) HX2.out ((hb.cell (p := ⟨2, 0, none⟩) HZ.out).trans HM.out)
        unfold CmdOut at hh
        rw [hok, hcm]; exact hh)
      clear hok hcm
      unfold Cmd.val at HC
      by_cases hc1 : c = 1
      · subst hc1
        obtain rfl : n = 1 := by omega
        go_enter Tryz.func20, Tryz.ntmps20
        go_upto_region 5 with (fail)
        have hO := OfAt.start w (.slice (some ⟨g, off, none⟩) 1 1) (.int .i64 lo) (.int .i64 hi) (.int .u8 (t.kind.toNat : Nat)) (.int .i64 (t.lo : Nat)) (.int .i64 (t.hi : Nat)) t.text 60 23 79
        generalize (((w.alloc (Obj.cells #[.slice (some ⟨g, off, none⟩) 1 1, .int .i64 lo, .int .i64 hi] 60)).alloc (Obj.cells #[.int .u8 0, .string { data := #[] }, .string { data := #[] }] 23)).alloc (Obj.cells #[.int .u8 (t.kind.toNat : Nat), .string ⟨t.text.toArray⟩, .int .i64 (t.lo : Nat), .int .i64 (t.hi : Nat)] 79)) = w3 at hO ⊢
        have HO := Lib.hid hO
        have hv0 := hO.v; have hx0 := hO.x
        have hz3 := HO.out.lt
        have HB3 := Lib.hid (show ∀ W, Below w3.heap.size w3 W → Below w.heap.size w W from fun W h => HO.out.below.step h (by omega))
        have HKEEP := Lib.hid (fun W (h : Below w3.heap.size w3 W) => HO.out.step h)
        have hz3a : w.heap.size < w3.heap.size := by omega
        have hz3b : w.heap.size + 1 + 1 < w3.heap.size := by omega
        clear a0 a1 a2 a3 hO
        go_cut [4, 5] (fun s4 s5 wx => ∃ qb : Nat, s4 = .pointer (some ⟨qb, 0, none⟩) ∧ s5 = .bool ok ∧ OfCut w w.heap.size (.slice (some ⟨g, off, none⟩) 1 1) t.text (.int .u8 (cm.kind.toNat : Nat)) (.string ⟨cm.name.toArray⟩) (.string ⟨cm.value.toArray⟩) qb wx)
        case first =>
          go_region_with (go_at_call 36; refine (HC.out _ (some ⟨g, off, none⟩) 0 0 rfl (HB3.out _ (by first | exact (Below.refl _ w3).drew | exact ((Below.refl _ w3).alloc (Nat.le_refl _) _).drew)) (.inr rfl) (by omega) (by omega)).mono ?_; rintro e w5 ⟨rfl, hb5⟩; have S1 := HKEEP.out w5 (by first | exact (Below.refl _ w3).drew.step hb5 (Nat.le_refl _) | exact ((Below.refl _ w3).alloc (Nat.le_refl _) _).drew.step hb5 (by simp)); first | (obtain ⟨⟨q0, q1, q2⟩, r0, r1, r2⟩ := three_kept hb5; clear hb5) | clear hb5)
          all_goals go_wp2_with fail
          all_goals go_meet
          all_goals first | exact ⟨_, rfl, rfl, OfCut.new S1⟩ | exact ⟨_, rfl, rfl, OfCut.old _ _ _ S1 hz3 q0 q1 q2⟩
        case rest =>
          obtain ⟨qb, rfl, rfl, hO, k0, k1, k2⟩ := hcut
          have HO := Lib.hid hO
          have c0 := hO.c0
          have c1 := hO.c1
          have c2 := hO.c2
          have f0 := hO.f0
          have f1 := hO.f1
          have f2 := hO.f2
          have hx0 := hO.x
          clear hO HKEEP HC hz3 hz3a hz3b
          cases ok with
          | true =>
            go_wp2_with fail
            obtain ⟨⟨z0, z1, z2⟩, hbb⟩ := HO.out.put (.int .u8 (cm.kind.toNat : Nat)) (.string ⟨cm.name.toArray⟩) (.string ⟨cm.value.toArray⟩)
            simp [bodyPost, results, Tryz.results20, go_sem, z0, z1, z2]
            rw [HE.out]
            exact ⟨⟨rfl, rfl, rfl⟩, hbb⟩
          | false =>
            have HBA := Lib.hid (barred_any ⟨t.text.toArray⟩ wc (HBR.out.step HO.out.below))
            cases hbr : barredB t.text with
            | true =>
              have HE := Lib.hid (show q = ⟨117, t.text, []⟩ by rw [HE.out, if_neg (by simp), if_pos hbr])
              have HBT := Lib.hid (show barredB (bytes ⟨t.text.toArray⟩) = true from hbr)
              clear hbr
              go_wp2_with fail
              refine HBA.out.mono ?_; rintro e w6 ⟨rfl, rfl⟩
              rw [HBT.out]
              go_wp2_with fail
              obtain ⟨⟨z0, z1, z2⟩, hbb⟩ := HO.out.put (.int .u8 117) (.string ⟨t.text.toArray⟩) (.string { data := #[] })
              simp [bodyPost, results, Tryz.results20, go_sem, z0, z1, z2]
              rw [HE.out]
              exact ⟨⟨rfl, rfl, rfl⟩, hbb⟩
            | false =>
              have HE := Lib.hid (show q = ⟨111, t.text, []⟩ by rw [HE.out, if_neg (by simp), if_neg (by rw [hbr]; simp)])
              have HBT := Lib.hid (show barredB (bytes ⟨t.text.toArray⟩) = false from hbr)
              clear hbr
              go_wp2_with fail
              refine HBA.out.mono ?_; rintro e w6 ⟨rfl, rfl⟩
              rw [HBT.out]
              go_wp2_with fail
              obtain ⟨⟨z0, z1, z2⟩, hbb⟩ := HO.out.put (.int .u8 111) (.string ⟨t.text.toArray⟩) (.string { data := #[] })
              simp [bodyPost, results, Tryz.results20, go_sem, z0, z1, z2]
              rw [HE.out]
              exact ⟨⟨rfl, rfl, rfl⟩, hbb⟩
      · have hc2 : (2 : Int) ≤ c := by omega
        go_enter Tryz.func20, Tryz.ntmps20
        go_upto_region 5 with (fail)
        have hO := OfAt.start w (.slice (some ⟨g, off, none⟩) n c) (.int .i64 lo) (.int .i64 hi) (.int .u8 (t.kind.toNat : Nat)) (.int .i64 (t.lo : Nat)) (.int .i64 (t.hi : Nat)) t.text 60 23 79
        generalize (((w.alloc (Obj.cells #[.slice (some ⟨g, off, none⟩) n c, .int .i64 lo, .int .i64 hi] 60)).alloc (Obj.cells #[.int .u8 0, .string { data := #[] }, .string { data := #[] }] 23)).alloc (Obj.cells #[.int .u8 (t.kind.toNat : Nat), .string ⟨t.text.toArray⟩, .int .i64 (t.lo : Nat), .int .i64 (t.hi : Nat)] 79)) = w3 at hO ⊢
        have HO := Lib.hid hO
        have hv0 := hO.v; have hx0 := hO.x
        have hz3 := HO.out.lt
        have HB3 := Lib.hid (show ∀ W, Below w3.heap.size w3 W → Below w.heap.size w W from fun W h => HO.out.below.step h (by omega))
        have HKEEP := Lib.hid (fun W (h : Below w3.heap.size w3 W) => HO.out.step h)
        have hz3a : w.heap.size < w3.heap.size := by omega
        have hz3b : w.heap.size + 1 + 1 < w3.heap.size := by omega
        clear a0 a1 a2 a3 hO
        go_cut [4, 5] (fun s4 s5 wx => ∃ qb : Nat, s4 = .pointer (some ⟨qb, 0, none⟩) ∧ s5 = .bool ok ∧ OfCut w w.heap.size (.slice (some ⟨g, off, none⟩) n c) t.text (.int .u8 (cm.kind.toNat : Nat)) (.string ⟨cm.name.toArray⟩) (.string ⟨cm.value.toArray⟩) qb wx)
        case first =>
          go_region_with (go_at_call 36; refine (HC.out _ (some ⟨g, off + 4, none⟩) (n - 1) (c - 1) rfl (HB3.out _ (by first | exact (Below.refl _ w3).drew | exact ((Below.refl _ w3).alloc (Nat.le_refl _) _).drew)) (.inl rfl) (by omega) (by omega)).mono ?_; rintro e w5 ⟨rfl, hb5⟩; have S1 := HKEEP.out w5 (by first | exact (Below.refl _ w3).drew.step hb5 (Nat.le_refl _) | exact ((Below.refl _ w3).alloc (Nat.le_refl _) _).drew.step hb5 (by simp)); first | (obtain ⟨⟨q0, q1, q2⟩, r0, r1, r2⟩ := three_kept hb5; clear hb5) | clear hb5)
          all_goals go_wp2_with fail
          all_goals go_meet
          all_goals first | exact ⟨_, rfl, rfl, OfCut.new S1⟩ | exact ⟨_, rfl, rfl, OfCut.old _ _ _ S1 hz3 q0 q1 q2⟩
        case rest =>
          obtain ⟨qb, rfl, rfl, hO, k0, k1, k2⟩ := hcut
          have HO := Lib.hid hO
          have c0 := hO.c0
          have c1 := hO.c1
          have c2 := hO.c2
          have f0 := hO.f0
          have f1 := hO.f1
          have f2 := hO.f2
          have hx0 := hO.x
          clear hO HKEEP HC hz3 hz3a hz3b
          cases ok with
          | true =>
            go_wp2_with fail
            obtain ⟨⟨z0, z1, z2⟩, hbb⟩ := HO.out.put (.int .u8 (cm.kind.toNat : Nat)) (.string ⟨cm.name.toArray⟩) (.string ⟨cm.value.toArray⟩)
            simp [bodyPost, results, Tryz.results20, go_sem, z0, z1, z2]
            rw [HE.out]
            exact ⟨⟨rfl, rfl, rfl⟩, hbb⟩
          | false =>
            have HBA := Lib.hid (barred_any ⟨t.text.toArray⟩ wc (HBR.out.step HO.out.below))
            cases hbr : barredB t.text with
            | true =>
              have HE := Lib.hid (show q = ⟨117, t.text, []⟩ by rw [HE.out, if_neg (by simp), if_pos hbr])
              have HBT := Lib.hid (show barredB (bytes ⟨t.text.toArray⟩) = true from hbr)
              clear hbr
              go_wp2_with fail
              refine HBA.out.mono ?_; rintro e w6 ⟨rfl, rfl⟩
              rw [HBT.out]
              go_wp2_with fail
              obtain ⟨⟨z0, z1, z2⟩, hbb⟩ := HO.out.put (.int .u8 117) (.string ⟨t.text.toArray⟩) (.string { data := #[] })
              simp [bodyPost, results, Tryz.results20, go_sem, z0, z1, z2]
              rw [HE.out]
              exact ⟨⟨rfl, rfl, rfl⟩, hbb⟩
            | false =>
              have HE := Lib.hid (show q = ⟨111, t.text, []⟩ by rw [HE.out, if_neg (by simp), if_neg (by rw [hbr]; simp)])
              have HBT := Lib.hid (show barredB (bytes ⟨t.text.toArray⟩) = false from hbr)
              clear hbr
              go_wp2_with fail
              refine HBA.out.mono ?_; rintro e w6 ⟨rfl, rfl⟩
              rw [HBT.out]
              go_wp2_with fail
              obtain ⟨⟨z0, z1, z2⟩, hbb⟩ := HO.out.put (.int .u8 111) (.string ⟨t.text.toArray⟩) (.string { data := #[] })
              simp [bodyPost, results, Tryz.results20, go_sem, z0, z1, z2]
              rw [HE.out]
              exact ⟨⟨rfl, rfl, rfl⟩, hbb⟩
end Go.Proofs.YtpijolcklmdjbaaGreatDoor
