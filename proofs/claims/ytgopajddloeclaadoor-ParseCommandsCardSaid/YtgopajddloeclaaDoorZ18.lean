/- Contracts and mathematics: PCommandB, PCommand. -/
import Derived.Test.YtgopajddloeclaaDoorZ17
namespace Go.Proofs.YtgopajddloeclaaDoor
open Go.RowKit Go.Lib Go.WideShapes

set_option maxRecDepth 100000 in
set_option maxHeartbeats 4000000 in
theorem cmd_commit (p : Option Addr) (T : List Tok) (n c : Nat) (m : Int) (w : World) (hT : T.length = n) (hn : n ≤ 100000) (hc : n ≤ c) (hc9 : c ≤ 9223372036854775807) (hA : TokW w p T) (_hx : ∀ q ∈ T, q.text.length ≤ 2000) (hm : w.cell? ⟨2, 0, none⟩ = some (.int .i64 m)) :
    Calls Tryd.prog 26 #[.string { data := #[99, 111, 109, 109, 105, 116] }, .slice p n c] w (CmdOut (commandC w_commit T) w) := by
  rw [show commandC w_commit T = (⟨99, [], []⟩, (workW T).length == 0) by unfold commandC; rw [if_neg (by decide), if_neg (by decide), if_neg (by decide), if_neg (by decide), if_neg (by decide), if_neg (by decide), if_pos rfl]]
  have HS := Lib.hid (Res.start w)
  have HW0 := Lib.hid (World.block_lt_of_cell? w ⟨2, 0, none⟩ hm)
  have HM := Lib.hid (Lib.cell?_alloc_some (Obj.cells #[.int .u8 0, .string { data := #[] }, .string { data := #[] }] 27) hm)
  have HA := Lib.hid (hA.step HS.out.below)
  have HWK := Lib.hid (fun W hb => work_any p T n c W hT hn hc hc9 (HA.out.step hb))
  have HL := Lib.hid (show (workW T).length ≤ n from hT ▸ workW_length T)
  obtain ⟨b, hb0⟩ : ∃ b, b = ((workW T).length == 0) := ⟨_, rfl⟩
  rw [← hb0]
  have HBV := Lib.hid hb0
  clear hb0
  clear hT hA hm
  unfold CmdOut
  go_enter Tryd.func26, Tryd.ntmps26
  go_wp2_with fail
  refine (HWK.out _ (Below.refl _ _)).mono ?_; rintro e w1 ⟨hb1, p', n', c', rfl, h1, h2, h3, h4⟩
  have HR1 := Lib.hid (HS.out.step hb1)
  clear hb1 h4
  by_cases h0 : n' = 0
  · have hb : ((n' : Int) == 0) = true := by simp; omega
    obtain rfl : b = true := by rw [HBV.out, h1]; simpa using h0
    clear h0 h1 h2 h3
    have c0 := HR1.out.c0
    have c1 := HR1.out.c1
    have c2 := HR1.out.c2
    have f0 := HR1.out.f0
    have f1 := HR1.out.f1
    have f2 := HR1.out.f2
    go_wp2_with fail
    obtain ⟨⟨k0, k1, k2⟩, hbb⟩ := HR1.out.put (.int .u8 99) (.string { data := #[] }) (.string { data := #[] })
    simp [bodyPost, results, Tryd.results26, go_sem, k0, k1, k2]
    first | exact hbb | exact ⟨rfl, hbb⟩ | exact ⟨by simp, hbb⟩
  · have hb : ((n' : Int) == 0) = false := by simp; omega
    obtain rfl : b = false := by rw [HBV.out, h1]; simpa using h0
    clear h0 h1 h2 h3
    have c0 := HR1.out.c0
    have c1 := HR1.out.c1
    have c2 := HR1.out.c2
    have f0 := HR1.out.f0
    have f1 := HR1.out.f1
    have f2 := HR1.out.f2
    go_wp2_with fail
    obtain ⟨⟨k0, k1, k2⟩, hbb⟩ := HR1.out.put (.int .u8 99) (.string { data := #[] }) (.string { data := #[] })
    simp [bodyPost, results, Tryd.results26, go_sem, k0, k1, k2]
    first | exact hbb | exact ⟨rfl, hbb⟩ | exact ⟨by simp, hbb⟩

set_option maxRecDepth 100000 in
set_option maxHeartbeats 4000000 in
theorem cmd_abort (p : Option Addr) (T : List Tok) (n c : Nat) (m : Int) (w : World) (hT : T.length = n) (hn : n ≤ 100000) (hc : n ≤ c) (hc9 : c ≤ 9223372036854775807) (hA : TokW w p T) (_hx : ∀ q ∈ T, q.text.length ≤ 2000) (hm : w.cell? ⟨2, 0, none⟩ = some (.int .i64 m)) :
    Calls Tryd.prog 26 #[.string { data := #[97, 98, 111, 114, 116] }, .slice p n c] w (CmdOut (commandC w_abort T) w) := by
  rw [show commandC w_abort T = rollC (workW T) by unfold commandC; rw [if_neg (by decide), if_neg (by decide), if_neg (by decide), if_neg (by decide), if_neg (by decide), if_neg (by decide), if_neg (by decide), if_pos rfl]]
  have HS := Lib.hid (Res.start w)
  have HW0 := Lib.hid (World.block_lt_of_cell? w ⟨2, 0, none⟩ hm)
  have HM := Lib.hid (Lib.cell?_alloc_some (Obj.cells #[.int .u8 0, .string { data := #[] }, .string { data := #[] }] 27) hm)
  have HA := Lib.hid (hA.step HS.out.below)
  have HWK := Lib.hid (fun W hb => work_any p T n c W hT hn hc hc9 (HA.out.step hb))
  have HL := Lib.hid (show (workW T).length ≤ n from hT ▸ workW_length T)
  have HC := Lib.hid (fun p' n' c' W h1 h2 h3 h4 h5 => roll_any p' (workW T) n' c' W h1 h2 h3 h4 h5)
  clear hT hA hm
  unfold CmdOut at HC ⊢
  generalize rollC (workW T) = q at HC ⊢
  obtain ⟨⟨ck, cn, cv⟩, cb⟩ := q
  unfold Cmd.val at HC ⊢
  simp only at HC ⊢
  go_enter Tryd.func26, Tryd.ntmps26
  go_wp2_with fail
  refine (HWK.out _ (Below.refl _ _)).mono ?_; rintro e w1 ⟨hb1, p', n', c', rfl, h1, h2, h3, h4⟩
  have HR1 := Lib.hid (HS.out.step hb1)
  have HC1 := Lib.hid (HC.out p' n' c' w1 h1 (by rw [← h1]; exact Nat.le_trans HL.out hn) h2 h3 h4)
  clear hb1 h1 h2 h3 h4 HC HWK
  go_wp2_with fail
  refine HC1.out.mono ?_; rintro e w2 ⟨rfl, hb2⟩
  have HR2 := Lib.hid (HR1.out.step hb2)
  clear hb2
  have c0 := HR2.out.c0
  have c1 := HR2.out.c1
  have c2 := HR2.out.c2
  have f0 := HR2.out.f0
  have f1 := HR2.out.f1
  have f2 := HR2.out.f2
  go_wp2_with fail
  obtain ⟨⟨k0, k1, k2⟩, hbb⟩ := HR2.out.put (.int .u8 (ck.toNat : Nat)) (.string ⟨cn.toArray⟩) (.string ⟨cv.toArray⟩)
  simp [bodyPost, results, Tryd.results26, go_sem, k0, k1, k2]
  first | exact hbb | exact ⟨rfl, hbb⟩ | exact ⟨by simp, hbb⟩

set_option maxRecDepth 100000 in
set_option maxHeartbeats 4000000 in
theorem cmd_rollback (p : Option Addr) (T : List Tok) (n c : Nat) (m : Int) (w : World) (hT : T.length = n) (hn : n ≤ 100000) (hc : n ≤ c) (hc9 : c ≤ 9223372036854775807) (hA : TokW w p T) (_hx : ∀ q ∈ T, q.text.length ≤ 2000) (hm : w.cell? ⟨2, 0, none⟩ = some (.int .i64 m)) :
    Calls Tryd.prog 26 #[.string { data := #[114, 111, 108, 108, 98, 97, 99, 107] }, .slice p n c] w (CmdOut (commandC w_rollback T) w) := by
  rw [show commandC w_rollback T = rollC (workW T) by unfold commandC; rw [if_neg (by decide), if_neg (by decide), if_neg (by decide), if_neg (by decide), if_neg (by decide), if_neg (by decide), if_neg (by decide), if_neg (by decide), if_pos rfl]]
  have HS := Lib.hid (Res.start w)
  have HW0 := Lib.hid (World.block_lt_of_cell? w ⟨2, 0, none⟩ hm)
  have HM := Lib.hid (Lib.cell?_alloc_some (Obj.cells #[.int .u8 0, .string { data := #[] }, .string { data := #[] }] 27) hm)
  have HA := Lib.hid (hA.step HS.out.below)
  have HWK := Lib.hid (fun W hb => work_any p T n c W hT hn hc hc9 (HA.out.step hb))
  have HL := Lib.hid (show (workW T).length ≤ n from hT ▸ workW_length T)
  have HC := Lib.hid (fun p' n' c' W h1 h2 h3 h4 h5 => roll_any p' (workW T) n' c' W h1 h2 h3 h4 h5)
  clear hT hA hm
  unfold CmdOut at HC ⊢
  generalize rollC (workW T) = q at HC ⊢
  obtain ⟨⟨ck, cn, cv⟩, cb⟩ := q
  unfold Cmd.val at HC ⊢
  simp only at HC ⊢
  go_enter Tryd.func26, Tryd.ntmps26
  go_wp2_with fail
  refine (HWK.out _ (Below.refl _ _)).mono ?_; rintro e w1 ⟨hb1, p', n', c', rfl, h1, h2, h3, h4⟩
  have HR1 := Lib.hid (HS.out.step hb1)
  have HC1 := Lib.hid (HC.out p' n' c' w1 h1 (by rw [← h1]; exact Nat.le_trans HL.out hn) h2 h3 h4)
  clear hb1 h1 h2 h3 h4 HC HWK
  go_wp2_with fail
  refine HC1.out.mono ?_; rintro e w2 ⟨rfl, hb2⟩
  have HR2 := Lib.hid (HR1.out.step hb2)
  clear hb2
  have c0 := HR2.out.c0
  have c1 := HR2.out.c1
  have c2 := HR2.out.c2
  have f0 := HR2.out.f0
  have f1 := HR2.out.f1
  have f2 := HR2.out.f2
  go_wp2_with fail
  obtain ⟨⟨k0, k1, k2⟩, hbb⟩ := HR2.out.put (.int .u8 (ck.toNat : Nat)) (.string ⟨cn.toArray⟩) (.string ⟨cv.toArray⟩)
  simp [bodyPost, results, Tryd.results26, go_sem, k0, k1, k2]
  first | exact hbb | exact ⟨rfl, hbb⟩ | exact ⟨by simp, hbb⟩

set_option maxRecDepth 100000 in
set_option maxHeartbeats 4000000 in
theorem cmd_savepoint (p : Option Addr) (T : List Tok) (n c : Nat) (m : Int) (w : World) (hT : T.length = n) (_hn : n ≤ 100000) (_hc : n ≤ c) (_hc9 : c ≤ 9223372036854775807) (hA : TokW w p T) (_hx : ∀ q ∈ T, q.text.length ≤ 2000) (hm : w.cell? ⟨2, 0, none⟩ = some (.int .i64 m)) :
    Calls Tryd.prog 26 #[.string { data := #[115, 97, 118, 101, 112, 111, 105, 110, 116] }, .slice p n c] w (CmdOut (commandC w_savepoint T) w) := by
  rw [show commandC w_savepoint T = pointC 112 T by unfold commandC; rw [if_neg (by decide), if_neg (by decide), if_neg (by decide), if_neg (by decide), if_neg (by decide), if_neg (by decide), if_neg (by decide), if_neg (by decide), if_neg (by decide), if_pos rfl]]
  have HS := Lib.hid (Res.start w)
  have HW0 := Lib.hid (World.block_lt_of_cell? w ⟨2, 0, none⟩ hm)
  have HM := Lib.hid (Lib.cell?_alloc_some (Obj.cells #[.int .u8 0, .string { data := #[] }, .string { data := #[] }] 27) hm)
  have HA := Lib.hid (hA.step HS.out.below)
  have HC := Lib.hid (point_any 112 p T n c _ hT HA.out)
  unfold CmdOut at HC ⊢
  generalize pointC 112 T = q at HC ⊢
  obtain ⟨⟨ck, cn, cv⟩, cb⟩ := q
  unfold Cmd.val at HC ⊢
  simp only at HC ⊢
  clear hT hA hm
  go_enter Tryd.func26, Tryd.ntmps26
  go_wp2_with fail
  refine HC.out.mono ?_; rintro e w1 ⟨rfl, hb1⟩
  have HR1 := Lib.hid (HS.out.step hb1)
  clear hb1
  have c0 := HR1.out.c0
  have c1 := HR1.out.c1
  have c2 := HR1.out.c2
  have f0 := HR1.out.f0
  have f1 := HR1.out.f1
  have f2 := HR1.out.f2
  go_wp2_with fail
  obtain ⟨⟨k0, k1, k2⟩, hbb⟩ := HR1.out.put (.int .u8 (ck.toNat : Nat)) (.string ⟨cn.toArray⟩) (.string ⟨cv.toArray⟩)
  simp [bodyPost, results, Tryd.results26, go_sem, k0, k1, k2]
  first | exact hbb | exact ⟨rfl, hbb⟩ | exact ⟨by simp, hbb⟩

set_option maxRecDepth 100000 in
set_option maxHeartbeats 4000000 in
theorem cmd_release (p : Option Addr) (T : List Tok) (n c : Nat) (m : Int) (w : World) (hT : T.length = n) (hn : n ≤ 100000) (hc : n ≤ c) (hc9 : c ≤ 9223372036854775807) (hA : TokW w p T) (_hx : ∀ q ∈ T, q.text.length ≤ 2000) (hm : w.cell? ⟨2, 0, none⟩ = some (.int .i64 m)) :
    Calls Tryd.prog 26 #[.string { data := #[114, 101, 108, 101, 97, 115, 101] }, .slice p n c] w (CmdOut (commandC w_release T) w) := by
  rw [show commandC w_release T = pointC 101 (saveW T) by unfold commandC; rw [if_neg (by decide), if_neg (by decide), if_neg (by decide), if_neg (by decide), if_neg (by decide), if_neg (by decide), if_neg (by decide), if_neg (by decide), if_neg (by decide), if_neg (by decide), if_pos rfl]]
  have HS := Lib.hid (Res.start w)
  have HW0 := Lib.hid (World.block_lt_of_cell? w ⟨2, 0, none⟩ hm)
  have HM := Lib.hid (Lib.cell?_alloc_some (Obj.cells #[.int .u8 0, .string { data := #[] }, .string { data := #[] }] 27) hm)
  have HA := Lib.hid (hA.step HS.out.below)
  have HSV := Lib.hid (save_any p T n c _ hT hn hc hc9 HA.out)
  have HC := Lib.hid (fun p' n' c' W h1 h5 => point_any 101 p' (saveW T) n' c' W h1 h5)
  clear hT hA hm
  unfold CmdOut at HC ⊢
  generalize pointC 101 (saveW T) = q at HC ⊢
  obtain ⟨⟨ck, cn, cv⟩, cb⟩ := q
  unfold Cmd.val at HC ⊢
  simp only at HC ⊢
  go_enter Tryd.func26, Tryd.ntmps26
  go_wp2_with fail
  refine HSV.out.mono ?_; rintro e w1 ⟨hb1, p', n', c', rfl, h1, h2, h3, h4⟩
  have HR1 := Lib.hid (HS.out.step hb1)
  have HC1 := Lib.hid (HC.out p' n' c' w1 h1 h4)
  clear hb1 h1 h2 h3 h4 HC HSV
  go_wp2_with fail
  refine HC1.out.mono ?_; rintro e w2 ⟨rfl, hb2⟩
  have HR2 := Lib.hid (HR1.out.step hb2)
  clear hb2
  have c0 := HR2.out.c0
  have c1 := HR2.out.c1
  have c2 := HR2.out.c2
  have f0 := HR2.out.f0
  have f1 := HR2.out.f1
  have f2 := HR2.out.f2
  go_wp2_with fail
  obtain ⟨⟨k0, k1, k2⟩, hbb⟩ := HR2.out.put (.int .u8 (ck.toNat : Nat)) (.string ⟨cn.toArray⟩) (.string ⟨cv.toArray⟩)
  simp [bodyPost, results, Tryd.results26, go_sem, k0, k1, k2]
  first | exact hbb | exact ⟨rfl, hbb⟩ | exact ⟨by simp, hbb⟩

set_option maxRecDepth 100000 in
set_option maxHeartbeats 4000000 in
theorem cmd_show (p : Option Addr) (T : List Tok) (n c : Nat) (m : Int) (w : World) (hT : T.length = n) (hn : n ≤ 100000) (_hc : n ≤ c) (_hc9 : c ≤ 9223372036854775807) (hA : TokW w p T) (hx : ∀ q ∈ T, q.text.length ≤ 2000) (hm : w.cell? ⟨2, 0, none⟩ = some (.int .i64 m)) :
    Calls Tryd.prog 26 #[.string { data := #[115, 104, 111, 119] }, .slice p n c] w (CmdOut (commandC w_show T) w) := by
  rw [show commandC w_show T = namedC 119 T by unfold commandC; rw [if_neg (by decide), if_neg (by decide), if_neg (by decide), if_neg (by decide), if_neg (by decide), if_neg (by decide), if_neg (by decide), if_neg (by decide), if_neg (by decide), if_neg (by decide), if_neg (by decide), if_pos rfl]]
  have HS := Lib.hid (Res.start w)
  have HW0 := Lib.hid (World.block_lt_of_cell? w ⟨2, 0, none⟩ hm)
  have HM := Lib.hid (Lib.cell?_alloc_some (Obj.cells #[.int .u8 0, .string { data := #[] }, .string { data := #[] }] 27) hm)
  have HA := Lib.hid (hA.step HS.out.below)
  have HC := Lib.hid (named2_any 119 p T n c m _ hT hn HA.out hx HM.out)
  unfold CmdOut at HC ⊢
  generalize namedC 119 T = q at HC ⊢
  obtain ⟨⟨ck, cn, cv⟩, cb⟩ := q
  unfold Cmd.val at HC ⊢
  simp only at HC ⊢
  clear hT hA hx hm
  go_enter Tryd.func26, Tryd.ntmps26
  go_wp2_with fail
  refine HC.out.mono ?_; rintro e w1 ⟨rfl, hb1⟩
  have HR1 := Lib.hid (HS.out.step hb1)
  clear hb1
  have c0 := HR1.out.c0
  have c1 := HR1.out.c1
  have c2 := HR1.out.c2
  have f0 := HR1.out.f0
  have f1 := HR1.out.f1
  have f2 := HR1.out.f2
  go_wp2_with fail
  obtain ⟨⟨k0, k1, k2⟩, hbb⟩ := HR1.out.put (.int .u8 (ck.toNat : Nat)) (.string ⟨cn.toArray⟩) (.string ⟨cv.toArray⟩)
  simp [bodyPost, results, Tryd.results26, go_sem, k0, k1, k2]
  first | exact hbb | exact ⟨rfl, hbb⟩ | exact ⟨by simp, hbb⟩
end Go.Proofs.YtgopajddloeclaaDoor

namespace Go.Proofs.YtgopajddloeclaaDoor
open Go.RowKit Go.Lib Go.WideShapes

theorem bytes_inj {S S' : ByteArray} (h : bytes S = bytes S') : S = S' := by
  cases S; cases S'; congr 1; exact Array.toList_inj.1 h

set_option maxRecDepth 100000 in
set_option maxHeartbeats 4000000 in
theorem cmd_none (S : ByteArray) (v : Value) (T : List Tok) (w : World) (n_set : ¬ bytes S = w_set) (n_reset : ¬ bytes S = w_reset) (n_discard : ¬ bytes S = w_discard) (n_start : ¬ bytes S = w_start) (n_begin : ¬ bytes S = w_begin) (n_end : ¬ bytes S = w_end) (n_commit : ¬ bytes S = w_commit) (n_abort : ¬ bytes S = w_abort) (n_rollback : ¬ bytes S = w_rollback) (n_savepoint : ¬ bytes S = w_savepoint) (n_release : ¬ bytes S = w_release) (n_show : ¬ bytes S = w_show) :
    Calls Tryd.prog 26 #[.string S, v] w (CmdOut (commandC (bytes S) T) w) := by
  rw [show commandC (bytes S) T = (noCmd, false) by unfold commandC; rw [if_neg n_set, if_neg n_reset, if_neg n_discard, if_neg n_start, if_neg n_begin, if_neg n_end, if_neg n_commit, if_neg n_abort, if_neg n_rollback, if_neg n_savepoint, if_neg n_release, if_neg n_show]]
  have HS := Lib.hid (Res.start w)
  have b_set : (S.toList == [115, 101, 116]) = false := by rw [Lib.toList_data]; exact beq_eq_false_iff_ne.2 n_set
  have b_reset : (S.toList == [114, 101, 115, 101, 116]) = false := by rw [Lib.toList_data]; exact beq_eq_false_iff_ne.2 n_reset
  have b_discard : (S.toList == [100, 105, 115, 99, 97, 114, 100]) = false := by rw [Lib.toList_data]; exact beq_eq_false_iff_ne.2 n_discard
  have b_start : (S.toList == [115, 116, 97, 114, 116]) = false := by rw [Lib.toList_data]; exact beq_eq_false_iff_ne.2 n_start
  have b_begin : (S.toList == [98, 101, 103, 105, 110]) = false := by rw [Lib.toList_data]; exact beq_eq_false_iff_ne.2 n_begin
  have b_end : (S.toList == [101, 110, 100]) = false := by rw [Lib.toList_data]; exact beq_eq_false_iff_ne.2 n_end
  have b_commit : (S.toList == [99, 111, 109, 109, 105, 116]) = false := by rw [Lib.toList_data]; exact beq_eq_false_iff_ne.2 n_commit
  have b_abort : (S.toList == [97, 98, 111, 114, 116]) = false := by rw [Lib.toList_data]; exact beq_eq_false_iff_ne.2 n_abort
  have b_rollback : (S.toList == [114, 111, 108, 108, 98, 97, 99, 107]) = false := by rw [Lib.toList_data]; exact beq_eq_false_iff_ne.2 n_rollback
  have b_savepoint : (S.toList == [115, 97, 118, 101, 112, 111, 105, 110, 116]) = false := by rw [Lib.toList_data]; exact beq_eq_false_iff_ne.2 n_savepoint
  have b_release : (S.toList == [114, 101, 108, 101, 97, 115, 101]) = false := by rw [Lib.toList_data]; exact beq_eq_false_iff_ne.2 n_release
  have b_show : (S.toList == [115, 104, 111, 119]) = false := by rw [Lib.toList_data]; exact beq_eq_false_iff_ne.2 n_show
  clear n_set n_reset n_discard n_start n_begin n_end n_commit n_abort n_rollback n_savepoint n_release n_show
  unfold CmdOut
  go_enter Tryd.func26, Tryd.ntmps26
  go_wp2_with fail
  simp [bodyPost, results, Tryd.results26, go_sem]
  exact ⟨rfl, HS.out.below⟩

theorem command_any (S : ByteArray) (p : Option Addr) (T : List Tok) (n c : Nat) (m : Int) (w : World) (hT : T.length = n) (hn : n ≤ 100000) (hc : n ≤ c) (hc9 : c ≤ 9223372036854775807) (hA : TokW w p T) (hx : ∀ q ∈ T, q.text.length ≤ 2000) (hm : w.cell? ⟨2, 0, none⟩ = some (.int .i64 m)) :
    Calls Tryd.prog 26 #[.string S, .slice p n c] w (CmdOut (commandC (bytes S) T) w) := by
  by_cases n_set : bytes S = w_set
  · obtain rfl : S = { data := #[115, 101, 116] } := bytes_inj n_set
    exact cmd_set p T n c m w hT hn hc hc9 hA hx hm
  by_cases n_reset : bytes S = w_reset
  · obtain rfl : S = { data := #[114, 101, 115, 101, 116] } := bytes_inj n_reset
    exact cmd_reset p T n c m w hT hn hc hc9 hA hx hm
  by_cases n_discard : bytes S = w_discard
  · obtain rfl : S = { data := #[100, 105, 115, 99, 97, 114, 100] } := bytes_inj n_discard
    exact cmd_discard p T n c m w hT hn hc hc9 hA hx hm
  by_cases n_start : bytes S = w_start
  · obtain rfl : S = { data := #[115, 116, 97, 114, 116] } := bytes_inj n_start
    exact cmd_start p T n c m w hT hn hc hc9 hA hx hm
  by_cases n_begin : bytes S = w_begin
  · obtain rfl : S = { data := #[98, 101, 103, 105, 110] } := bytes_inj n_begin
    exact cmd_begin p T n c m w hT hn hc hc9 hA hx hm
  by_cases n_end : bytes S = w_end
  · obtain rfl : S = { data := #[101, 110, 100] } := bytes_inj n_end
    exact cmd_end p T n c m w hT hn hc hc9 hA hx hm
  by_cases n_commit : bytes S = w_commit
  · obtain rfl : S = { data := #[99, 111, 109, 109, 105, 116] } := bytes_inj n_commit
    exact cmd_commit p T n c m w hT hn hc hc9 hA hx hm
  by_cases n_abort : bytes S = w_abort
  · obtain rfl : S = { data := #[97, 98, 111, 114, 116] } := bytes_inj n_abort
    exact cmd_abort p T n c m w hT hn hc hc9 hA hx hm
  by_cases n_rollback : bytes S = w_rollback
  · obtain rfl : S = { data := #[114, 111, 108, 108, 98, 97, 99, 107] } := bytes_inj n_rollback
    exact cmd_rollback p T n c m w hT hn hc hc9 hA hx hm
  by_cases n_savepoint : bytes S = w_savepoint
  · obtain rfl : S = { data := #[115, 97, 118, 101, 112, 111, 105, 110, 116] } := bytes_inj n_savepoint
    exact cmd_savepoint p T n c m w hT hn hc hc9 hA hx hm
  by_cases n_release : bytes S = w_release
  · obtain rfl : S = { data := #[114, 101, 108, 101, 97, 115, 101] } := bytes_inj n_release
    exact cmd_release p T n c m w hT hn hc hc9 hA hx hm
  by_cases n_show : bytes S = w_show
  · obtain rfl : S = { data := #[115, 104, 111, 119] } := bytes_inj n_show
    exact cmd_show p T n c m w hT hn hc hc9 hA hx hm
  exact cmd_none S _ T w n_set n_reset n_discard n_start n_begin n_end n_commit n_abort n_rollback n_savepoint n_release n_show
end Go.Proofs.YtgopajddloeclaaDoor
