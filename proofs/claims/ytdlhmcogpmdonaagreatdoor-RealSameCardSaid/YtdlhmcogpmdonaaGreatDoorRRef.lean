/- The document's small functions of numbers' texts. -/
import Derived.Test.YtdlhmcogpmdonaaGreatDoorRReal
import Derived.Test.YtdlhmcogpmdonaaGreatDoorRRefM
import Derived.Test.YtdlhmcogpmdonaaGreatDoorNRefFold
import Derived.Deep.DeepCutAuto
namespace Go.Proofs.YtdlhmcogpmdonaaGreatDoor
open Go.RowKit Go.Lib Go.WideShapes

def allD (l : Bs) : Bool := l.all fun c => decide (isDg c)
theorem allD_take {l : Bs} {k : Nat} (hk : k < l.length) (h : allD (l.take k) = true) (hc : isDg l[k]) : allD (l.take (k + 1)) = true := by
  unfold allD at h ⊢
  rw [List.take_succ_eq_append_getElem hk, List.all_append, h]
  simp [hc]
theorem allD_bad {l : Bs} {k : Nat} (hk : k < l.length) (hc : ¬ isDg l[k]) : allD l = false := by
  rw [← Bool.not_eq_true]
  intro h
  unfold allD at h
  exact hc (of_decide_eq_true (List.all_eq_true.1 h _ (List.getElem_mem hk)))
set_option maxHeartbeats 4000000 in
theorem rdigits_any (s : ByteArray) (w : World) (hs : s.size ≤ 1000000) :
    Calls Tryz.prog 23 #[.string s] w fun e w' => e = .returned (.bool (allD (bytes s))) ∧ w = w' := by
  obtain ⟨R, hR⟩ : ∃ R, R = allD (bytes s) := ⟨_, rfl⟩
  rw [← hR]
  have HR := Lib.hid hR
  clear hR
  go_enter Tryz.func23, Tryz.ntmps23
  go_wp2_with fail
  go_loopg [3] s.size (fun g v wr => ∃ k : Nat, v = .int .i64 k ∧ k ≤ s.size ∧ g = s.size - k ∧ wr = w ∧ allD ((bytes s).take k) = true)
  case atStart => exact ⟨0, rfl, Nat.zero_le _, rfl, rfl, rfl⟩
  case round =>
    obtain ⟨k, rfl, hk, hg, rfl, ho⟩ := hrel
    have HO := Lib.hid ho; have HG := Lib.hid hg
    clear ho hg
    by_cases hlt : k < s.size
    · have hlt' : (k : Int) < s.size := by omega
      have hkl : k < (bytes s).length := by rw [bytes_len]; exact hlt
      obtain ⟨c, hc⟩ : ∃ c, c = s[k].toNat := ⟨_, rfl⟩
      have HC := Lib.hid (show isDg (bytes s)[k] ↔ 48 ≤ c ∧ c ≤ 57 by rw [hc]; exact Iff.rfl)
      have hc2 := hc.symm
      clear hc
      rcases (by omega : (48 ≤ c ∧ c ≤ 57) ∨ c < 48 ∨ (48 ≤ c ∧ 57 < c)) with ⟨a1, a2⟩ | a1 | ⟨a0, a1⟩
      · have HX := Lib.hid (allD_take hkl HO.out (HC.out.2 ⟨a1, a2⟩))
        have b1 : (48 : Int) ≤ c := by omega
        have b2 : (c : Int) ≤ 57 := by omega
        clear a1 a2
        go_wp2_with fail
        go_roundg (s.size - (k + 1))
        case measure => have := HG.out; omega
        case rel => exact ⟨k + 1, by go_num, by omega, rfl, rfl, HX.out⟩
      · have HF := Lib.hid (show R = false by rw [HR.out]; exact allD_bad hkl (fun h => by have := HC.out.1 h; omega))
        have b1 : (c : Int) < 48 := by omega
        clear a1
        go_wp2_with fail
        go_ret
        exact ⟨by rw [HF.out]; rfl, rfl⟩
      · have HF := Lib.hid (show R = false by rw [HR.out]; exact allD_bad hkl (fun h => by have := HC.out.1 h; omega))
        have b0 : (48 : Int) ≤ c := by omega
        have b1 : (57 : Int) < c := by omega
        clear a1 a0
        go_wp2_with fail
        go_ret
        exact ⟨by rw [HF.out]; rfl, rfl⟩
    · obtain rfl : k = s.size := by omega
      have HF := Lib.hid (show R = true by rw [HR.out]; have := HO.out; rwa [List.take_of_length_le (by rw [bytes_len]; exact Nat.le_refl _)] at this)
      clear hlt hk
      go_wp2_with fail
      go_ret
      exact ⟨by rw [HF.out]; rfl, rfl⟩

/-- Where a form stands. -/
def Num.rank : Num → Int
  | .nan => 2
  | .inf false => 1
  | .inf true => -1
  | .fin _ _ => 0
theorem fin_head {s : Bool} {X : Nat} (h : X < 1000000000000000) : ∀ k : Bs, (∀ c t, k = c :: t → 65 ≤ c.toNat ∨ (c = 45 ∧ ∃ d u, t = d :: u ∧ 65 ≤ d.toNat)) → k ≠ [] → canonB (.fin s X) ≠ k := by
  intro k hk hk0 e
  have he : canonB (.fin s X) = (if s = true then [45] else []) ++ (cdm X).text := by show milText s X = _; rw [milText_eq, ← cdm_text]
  have ho := cdm_ok h
  obtain ⟨c, t, hct⟩ : ∃ c t, (cdm X).text = c :: t := by
    cases he : (cdm X).text with
    | nil => have := ho.pos; rw [he] at this; cases this
    | cons c t => exact ⟨c, t, rfl⟩
  have hb := ho.byte (c := c) (by rw [hct]; exact List.mem_cons_self)
  rw [he, hct] at e
  cases s with
  | false =>
    rw [if_neg (by decide), List.nil_append] at e
    rcases hk c t e.symm with h1 | ⟨h1, _⟩
    · omega
    · subst h1; exact absurd hb (by decide)
  | true =>
    rw [if_pos rfl] at e
    rcases hk 45 (c :: t) e.symm with h1 | ⟨_, d, u, hd, h1⟩
    · exact absurd h1 (by decide)
    · injection hd with hd _; subst hd; omega
set_option maxHeartbeats 4000000 in
theorem rank_any (n : Num) (w : World) (hn : n.ok) :
    Calls Tryz.prog 25 #[.string ⟨(canonB n).toArray⟩] w fun e w' => e = .returned (.int .i64 n.rank) ∧ w = w' := by
  cases n with
  | nan =>
    rw [show canonB .nan = [78, 97, 78] from rfl]
    go_enter Tryz.func25, Tryz.ntmps25
    go_wp2_with fail
    go_ret
    exact ⟨rfl, rfl⟩
  | inf s =>
    cases s with
    | false =>
      rw [show canonB (.inf false) = [73, 110, 102, 105, 110, 105, 116, 121] from rfl]
      go_enter Tryz.func25, Tryz.ntmps25
      go_wp2_with fail
      go_ret
      exact ⟨rfl, rfl⟩
    | true =>
      rw [show canonB (.inf true) = [45, 73, 110, 102, 105, 110, 105, 116, 121] from rfl]
      go_enter Tryz.func25, Tryz.ntmps25
      go_wp2_with fail
      go_ret
      exact ⟨rfl, rfl⟩
  | fin s X =>
    have h : X < 1000000000000000 := hn
    obtain ⟨R, hR⟩ : ∃ R : ByteArray, R = ⟨(canonB (.fin s X)).toArray⟩ := ⟨_, rfl⟩
    have rb : ∀ k : Bs, canonB (.fin s X) ≠ k → (R.toList == k) = false := fun k hk => by
      rw [hR, mk_data, beq_eq_false_iff_ne]; exact hk
    have n1 := rb [78, 97, 78] (fin_head h _ (fun c t e => by injection e with e _; subst e; exact .inl (by decide)) (by decide))
    have n2 := rb [73, 110, 102, 105, 110, 105, 116, 121] (fin_head h _ (fun c t e => by injection e with e _; subst e; exact .inl (by decide)) (by decide))
    have n3 := rb [45, 73, 110, 102, 105, 110, 105, 116, 121] (fin_head h _ (fun c t e => by injection e with e e2; subst e; exact .inr ⟨rfl, 73, _, e2.symm, by decide⟩) (by decide))
    rw [← hR]
    clear rb hR h hn
    go_enter Tryz.func25, Tryz.ntmps25
    go_wp2_with fail
    go_ret
    exact ⟨rfl, rfl⟩
end Go.Proofs.YtdlhmcogpmdonaaGreatDoor
