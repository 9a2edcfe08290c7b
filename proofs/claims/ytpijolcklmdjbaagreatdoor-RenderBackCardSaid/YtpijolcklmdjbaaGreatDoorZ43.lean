/- Contracts and mathematics: PCommandA, PCommandB. -/
import Derived.Test.YtpijolcklmdjbaaGreatDoorZ39
import Derived.Test.YtpijolcklmdjbaaGreatDoorZ42
namespace Go.Proofs.YtpijolcklmdjbaaGreatDoor
open Go.RowKit Go.Lib Go.WideShapes

theorem workW_length (T : List Tok) : (workW T).length ≤ T.length := by
  unfold workW
  split
  · rw [List.length_drop]; omega
  · exact Nat.le_refl _
theorem saveW_length (T : List Tok) : (saveW T).length ≤ T.length := by
  unfold saveW
  split
  · rw [List.length_drop]; omega
  · exact Nat.le_refl _

set_option maxRecDepth 100000 in
set_option maxHeartbeats 4000000 in
theorem cmd_set (p : Option Addr) (T : List Tok) (n c : Nat) (m : Int) (w : World) (hT : T.length = n) (hn : n ≤ 100000) (hc : n ≤ c) (hc9 : c ≤ 9223372036854775807) (hA : TokOff w p T) (hx : ∀ q ∈ T, q.text.length ≤ 2000) (hm : w.cell? ⟨2, 0, none⟩ = some (.int .i64 m)) :
    Calls Tryz.prog 36 #[.string { data := #[115, 101, 116] }, .slice p n c] w (CmdOut (commandC w_set T) w) := by
  rw [show commandC w_set T = setC T by unfold commandC; rw [if_pos rfl]]
  have HS := Lib.hid (Res.start w)
  have HW0 := Lib.hid (World.block_lt_of_cell? w ⟨2, 0, none⟩ hm)
  have HM := Lib.hid (Lib.cell?_alloc_some (Obj.cells #[.int .u8 0, .string { data := #[] }, .string { data := #[] }] 23) hm)
  have HA := Lib.hid (hA.step HS.out.below)
  have HC := Lib.hid (set_any p T n c m _ hT hn hc hc9 HA.out hx HM.out)
  unfold CmdOut at HC ⊢
  generalize setC T = q at HC ⊢
  obtain ⟨⟨ck, cn, cv⟩, cb⟩ := q
  unfold Cmd.val at HC ⊢
  simp only at HC ⊢
  clear hT hA hx hm
  go_enter Tryz.func36, Tryz.ntmps36
  go_wp2_with fail
  refine HC.out.mono ?_; rintro e w1 ⟨rfl, hb1⟩
  have HR1 := Lib.hid (HS.out.step hb1)
  clear hb1
  have c0 := HR1.out.c0
  have c1 := HR1.out.c1
  have c2 := HR1.out.c2
  have f0 := HR1.out.f0
  have f1 := HR1.out.f1
  have f2 := HR1.out.f2
  go_wp2_with fail
  obtain ⟨⟨k0, k1, k2⟩, hbb⟩ := HR1.out.put (.int .u8 (ck.toNat : Nat)) (.string ⟨cn.toArray⟩) (.string ⟨cv.toArray⟩)
  simp [bodyPost, results, Tryz.results36, go_sem, k0, k1, k2]
  first | exact hbb | exact ⟨rfl, hbb⟩ | exact ⟨by simp, hbb⟩

set_option maxRecDepth 100000 in
set_option maxHeartbeats 4000000 in
theorem cmd_reset (p : Option Addr) (T : List Tok) (n c : Nat) (m : Int) (w : World) (hT : T.length = n) (hn : n ≤ 100000) (_hc : n ≤ c) (_hc9 : c ≤ 9223372036854775807) (hA : TokOff w p T) (hx : ∀ q ∈ T, q.text.length ≤ 2000) (hm : w.cell? ⟨2, 0, none⟩ = some (.int .i64 m)) :
    Calls Tryz.prog 36 #[.string { data := #[114, 101, 115, 101, 116] }, .slice p n c] w (CmdOut (commandC w_reset T) w) := by
  rw [show commandC w_reset T = (if aloneW T w_all then (⟨97, [], []⟩, true) else namedC 114 T) by unfold commandC; rw [if_neg (by decide), if_pos rfl]]
  have HS := Lib.hid (Res.start w)
  have HW0 := Lib.hid (World.block_lt_of_cell? w ⟨2, 0, none⟩ hm)
  have HM := Lib.hid (Lib.cell?_alloc_some (Obj.cells #[.int .u8 0, .string { data := #[] }, .string { data := #[] }] 23) hm)
  have HA := Lib.hid (hA.step HS.out.below)
  have HC := Lib.hid (alone_any p T n c { data := #[97, 108, 108] } _ hT hn HA.out)
  have HT := Lib.hid hT; have HX := Lib.hid hx
  clear hT hA hx hm
  cases h : aloneW T (bytes { data := #[97, 108, 108] }) with
  | true =>
    rw [if_pos rfl]
    have H := Lib.hid h
    clear h
    unfold CmdOut
    go_enter Tryz.func36, Tryz.ntmps36
    go_wp2_with fail
    refine HC.out.mono ?_; rintro e w1 ⟨rfl, hb1⟩
    rw [H.out]
    have HR1 := Lib.hid (HS.out.step hb1)
    clear hb1
    have c0 := HR1.out.c0
    have c1 := HR1.out.c1
    have c2 := HR1.out.c2
    have f0 := HR1.out.f0
    have f1 := HR1.out.f1
    have f2 := HR1.out.f2
    go_wp2_with fail
    obtain ⟨⟨k0, k1, k2⟩, hbb⟩ := HR1.out.put (.int .u8 97) (.string { data := #[] }) (.string { data := #[] })
    simp [bodyPost, results, Tryz.results36, go_sem, k0, k1, k2]
    first | exact hbb | exact ⟨rfl, hbb⟩ | exact ⟨by simp, hbb⟩
  | false =>
    rw [if_neg (by simp)]
    have H := Lib.hid h
    clear h
    have HC2 := Lib.hid (fun W hb => named2_any 114 p T n c m W HT.out hn (HA.out.step hb) HX.out ((hb.cell (p := ⟨2, 0, none⟩) (by simp; exact Nat.lt_succ_of_lt HW0.out)).trans HM.out))
    unfold CmdOut at HC2 ⊢
    generalize namedC 114 T = q at HC2 ⊢
    obtain ⟨⟨ck, cn, cv⟩, cb⟩ := q
    unfold Cmd.val at HC2 ⊢
    simp only at HC2 ⊢
    go_enter Tryz.func36, Tryz.ntmps36
    go_wp2_with fail
    refine HC.out.mono ?_; rintro e w1 ⟨rfl, hb1⟩
    rw [H.out]
    have HC3 := Lib.hid (HC2.out w1 hb1)
    have HR1 := Lib.hid (HS.out.step hb1)
    clear hb1 HC2
    go_wp2_with fail
    refine HC3.out.mono ?_; rintro e w2 ⟨rfl, hb2⟩
    have HR2 := Lib.hid (HR1.out.step hb2)
    clear hb2
    have c0 := HR2.out.c0
    have c1 := HR2.out.c1
    have c2 := HR2.out.c2
    have f0 := HR2.out.f0
    have f1 := HR2.out.f1
    have f2 := HR2.out.f2
    go_wp2_with fail
    obtain ⟨⟨k0, k1, k2⟩, hbb⟩ := HR2.out.put (.int .u8 (ck.toNat : Nat)) (.string ⟨cn.toArray⟩) (.string ⟨cv.toArray⟩)
    simp [bodyPost, results, Tryz.results36, go_sem, k0, k1, k2]
    first | exact hbb | exact ⟨rfl, hbb⟩ | exact ⟨by simp, hbb⟩

set_option maxRecDepth 100000 in
set_option maxHeartbeats 4000000 in
theorem cmd_discard (p : Option Addr) (T : List Tok) (n c : Nat) (m : Int) (w : World) (hT : T.length = n) (hn : n ≤ 100000) (_hc : n ≤ c) (_hc9 : c ≤ 9223372036854775807) (hA : TokOff w p T) (_hx : ∀ q ∈ T, q.text.length ≤ 2000) (hm : w.cell? ⟨2, 0, none⟩ = some (.int .i64 m)) :
    Calls Tryz.prog 36 #[.string { data := #[100, 105, 115, 99, 97, 114, 100] }, .slice p n c] w (CmdOut (commandC w_discard T) w) := by
  rw [show commandC w_discard T = (⟨120, [], []⟩, aloneW T w_all) by unfold commandC; rw [if_neg (by decide), if_neg (by decide), if_pos rfl]]
  have HS := Lib.hid (Res.start w)
  have HW0 := Lib.hid (World.block_lt_of_cell? w ⟨2, 0, none⟩ hm)
  have HM := Lib.hid (Lib.cell?_alloc_some (Obj.cells #[.int .u8 0, .string { data := #[] }, .string { data := #[] }] 23) hm)
  have HA := Lib.hid (hA.step HS.out.below)
  have HC := Lib.hid (alone_any p T n c { data := #[97, 108, 108] } _ hT hn HA.out)
  clear hT hA hm
  generalize aloneW T (bytes { data := #[97, 108, 108] }) = b at HC ⊢
  unfold CmdOut
  go_enter Tryz.func36, Tryz.ntmps36
  go_wp2_with fail
  refine HC.out.mono ?_; rintro e w1 ⟨rfl, hb1⟩
  have HR1 := Lib.hid (HS.out.step hb1)
  clear hb1
  have c0 := HR1.out.c0
  have c1 := HR1.out.c1
  have c2 := HR1.out.c2
  have f0 := HR1.out.f0
  have f1 := HR1.out.f1
  have f2 := HR1.out.f2
  go_wp2_with fail
  obtain ⟨⟨k0, k1, k2⟩, hbb⟩ := HR1.out.put (.int .u8 120) (.string { data := #[] }) (.string { data := #[] })
  simp [bodyPost, results, Tryz.results36, go_sem, k0, k1, k2]
  first | exact hbb | exact ⟨rfl, hbb⟩ | exact ⟨by simp, hbb⟩

set_option maxRecDepth 100000 in
set_option maxHeartbeats 4000000 in
theorem cmd_start (p : Option Addr) (T : List Tok) (n c : Nat) (m : Int) (w : World) (hT : T.length = n) (hn : n ≤ 100000) (hc : n ≤ c) (hc9 : c ≤ 9223372036854775807) (hA : TokOff w p T) (_hx : ∀ q ∈ T, q.text.length ≤ 2000) (hm : w.cell? ⟨2, 0, none⟩ = some (.int .i64 m)) :
    Calls Tryz.prog 36 #[.string { data := #[115, 116, 97, 114, 116] }, .slice p n c] w (CmdOut (commandC w_start T) w) := by
  rw [show commandC w_start T = (if aloneW T w_transaction then (⟨98, [], []⟩, (workW T).length == 0) else (noCmd, false)) by unfold commandC; rw [if_neg (by decide), if_neg (by decide), if_neg (by decide), if_pos rfl]]
  have HS := Lib.hid (Res.start w)
  have HW0 := Lib.hid (World.block_lt_of_cell? w ⟨2, 0, none⟩ hm)
  have HM := Lib.hid (Lib.cell?_alloc_some (Obj.cells #[.int .u8 0, .string { data := #[] }, .string { data := #[] }] 23) hm)
  have HA := Lib.hid (hA.step HS.out.below)
  have HWK := Lib.hid (fun W hb => work_any p T n c W hT hn hc hc9 (HA.out.step hb))
  have HL := Lib.hid (show (workW T).length ≤ n from hT ▸ workW_length T)
  have HC := Lib.hid (alone_any p T n c { data := #[116, 114, 97, 110, 115, 97, 99, 116, 105, 111, 110] } _ hT hn HA.out)
  clear hT hA hm
  unfold CmdOut
  cases h : aloneW T (bytes { data := #[116, 114, 97, 110, 115, 97, 99, 116, 105, 111, 110] }) with
  | false =>
    rw [if_neg (by simp)]
    have H := Lib.hid h
    clear h HWK
    go_enter Tryz.func36, Tryz.ntmps36
    go_wp2_with fail
    refine HC.out.mono ?_; rintro e w1 ⟨rfl, hb1⟩
    rw [H.out]
    have HR1 := Lib.hid (HS.out.step hb1)
    clear hb1
    have c0 := HR1.out.c0
    have c1 := HR1.out.c1
    have c2 := HR1.out.c2
    have f0 := HR1.out.f0
    have f1 := HR1.out.f1
    have f2 := HR1.out.f2
    go_wp2_with fail
    obtain ⟨⟨k0, k1, k2⟩, hbb⟩ := HR1.out.put (.int .u8 0) (.string { data := #[] }) (.string { data := #[] })
    simp [bodyPost, results, Tryz.results36, go_sem, k0, k1, k2]
    first | exact hbb | exact ⟨rfl, hbb⟩ | exact ⟨by simp, hbb⟩
  | true =>
    rw [if_pos rfl]
    have H := Lib.hid h
    clear h
    obtain ⟨b, hb0⟩ : ∃ b, b = ((workW T).length == 0) := ⟨_, rfl⟩
    rw [← hb0]
    have HBV := Lib.hid hb0
    clear hb0
    go_enter Tryz.func36, Tryz.ntmps36
    go_wp2_with fail
    refine HC.out.mono ?_; rintro e w1 ⟨rfl, hb1⟩
    rw [H.out]
    have HR1 := Lib.hid (HS.out.step hb1)
    have HWK := Lib.hid (HWK.out w1 hb1)
    clear hb1
    go_wp2_with fail
    refine (HWK.out).mono ?_; rintro e w2 ⟨hb2, p', n', c', rfl, h1, h2, h3, h4⟩
    have HR2 := Lib.hid (HR1.out.step hb2)
    clear hb2 h4
    by_cases h0 : n' = 0
    · have hb : ((n' : Int) == 0) = true := by simp; omega
      obtain rfl : b = true := by rw [HBV.out, h1]; simpa using h0
      clear h0 h1 h2 h3
      have c0 := HR2.out.c0
      have c1 := HR2.out.c1
      have c2 := HR2.out.c2
      have f0 := HR2.out.f0
      have f1 := HR2.out.f1
      have f2 := HR2.out.f2
      go_wp2_with fail
      obtain ⟨⟨k0, k1, k2⟩, hbb⟩ := HR2.out.put (.int .u8 98) (.string { data := #[] }) (.string { data := #[] })
      simp [bodyPost, results, Tryz.results36, go_sem, k0, k1, k2]
      first | exact hbb | exact ⟨rfl, hbb⟩ | exact ⟨by simp, hbb⟩
    · have hb : ((n' : Int) == 0) = false := by simp; omega
      obtain rfl : b = false := by rw [HBV.out, h1]; simpa using h0
      clear h0 h1 h2 h3
      have c0 := HR2.out.c0
      have c1 := HR2.out.c1
      have c2 := HR2.out.c2
      have f0 := HR2.out.f0
      have f1 := HR2.out.f1
      have f2 := HR2.out.f2
      go_wp2_with fail
      obtain ⟨⟨k0, k1, k2⟩, hbb⟩ := HR2.out.put (.int .u8 98) (.string { data := #[] }) (.string { data := #[] })
      simp [bodyPost, results, Tryz.results36, go_sem, k0, k1, k2]
      first | exact hbb | exact ⟨rfl, hbb⟩ | exact ⟨by simp, hbb⟩

set_option maxRecDepth 100000 in
set_option maxHeartbeats 4000000 in
theorem cmd_begin (p : Option Addr) (T : List Tok) (n c : Nat) (m : Int) (w : World) (hT : T.length = n) (hn : n ≤ 100000) (hc : n ≤ c) (hc9 : c ≤ 9223372036854775807) (hA : TokOff w p T) (_hx : ∀ q ∈ T, q.text.length ≤ 2000) (hm : w.cell? ⟨2, 0, none⟩ = some (.int .i64 m)) :
    Calls Tryz.prog 36 #[.string { data := #[98, 101, 103, 105, 110] }, .slice p n c] w (CmdOut (commandC w_begin T) w) := by
  rw [show commandC w_begin T = (⟨98, [], []⟩, (workW T).length == 0) by unfold commandC; rw [if_neg (by decide), if_neg (by decide), if_neg (by decide), if_neg (by decide), if_pos rfl]]
  have HS := Lib.hid (Res.start w)
  have HW0 := Lib.hid (World.block_lt_of_cell? w ⟨2, 0, none⟩ hm)
  have HM := Lib.hid (Lib.cell?_alloc_some (Obj.cells #[.int .u8 0, .string { data := #[] }, .string { data := #[] }] 23) hm)
  have HA := Lib.hid (hA.step HS.out.below)
  have HWK := Lib.hid (fun W hb => work_any p T n c W hT hn hc hc9 (HA.out.step hb))
  have HL := Lib.hid (show (workW T).length ≤ n from hT ▸ workW_length T)
  obtain ⟨b, hb0⟩ : ∃ b, b = ((workW T).length == 0) := ⟨_, rfl⟩
  rw [← hb0]
  have HBV := Lib.hid hb0
  clear hb0
  clear hT hA hm
  unfold CmdOut
  go_enter Tryz.func36, Tryz.ntmps36
  go_wp2_with fail
  refine (HWK.out _ (Below.refl _ _)).mono ?_; rintro e w1 ⟨hb1, p', n', c', rfl, h1, h2, h3, h4⟩
  have HR1 := Lib.hid (HS.out.step hb1)
  clear hb1 h4
  by_cases h0 : n' = 0
  · have hb : ((n' : Int) == 0) = true := by simp; omega
    obtain rfl : b = true := by rw [HBV.out, h1]; simpa using h0
    clear h0 h1 h2 h3
    have c0 := HR1.out.c0
    have c1 := HR1.out.c1
    have c2 := HR1.out.c2
    have f0 := HR1.out.f0
    have f1 := HR1.out.f1
    have f2 := HR1.out.f2
    go_wp2_with fail
    obtain ⟨⟨k0, k1, k2⟩, hbb⟩ := HR1.out.put (.int .u8 98) (.string { data := #[] }) (.string { data := #[] })
    simp [bodyPost, results, Tryz.results36, go_sem, k0, k1, k2]
    first | exact hbb | exact ⟨rfl, hbb⟩ | exact ⟨by simp, hbb⟩
  · have hb : ((n' : Int) == 0) = false := by simp; omega
    obtain rfl : b = false := by rw [HBV.out, h1]; simpa using h0
    clear h0 h1 h2 h3
    have c0 := HR1.out.c0
    have c1 := HR1.out.c1
    have c2 := HR1.out.c2
    have f0 := HR1.out.f0
    have f1 := HR1.out.f1
    have f2 := HR1.out.f2
    go_wp2_with fail
    obtain ⟨⟨k0, k1, k2⟩, hbb⟩ := HR1.out.put (.int .u8 98) (.string { data := #[] }) (.string { data := #[] })
    simp [bodyPost, results, Tryz.results36, go_sem, k0, k1, k2]
    first | exact hbb | exact ⟨rfl, hbb⟩ | exact ⟨by simp, hbb⟩

set_option maxRecDepth 100000 in
set_option maxHeartbeats 4000000 in
theorem cmd_end (p : Option Addr) (T : List Tok) (n c : Nat) (m : Int) (w : World) (hT : T.length = n) (hn : n ≤ 100000) (hc : n ≤ c) (hc9 : c ≤ 9223372036854775807) (hA : TokOff w p T) (_hx : ∀ q ∈ T, q.text.length ≤ 2000) (hm : w.cell? ⟨2, 0, none⟩ = some (.int .i64 m)) :
    Calls Tryz.prog 36 #[.string { data := #[101, 110, 100] }, .slice p n c] w (CmdOut (commandC w_end T) w) := by
  rw [show commandC w_end T = (⟨99, [], []⟩, (workW T).length == 0) by unfold commandC; rw [if_neg (by decide), if_neg (by decide), if_neg (by decide), if_neg (by decide), if_neg (by decide), if_pos rfl]]
  have HS := Lib.hid (Res.start w)
  have HW0 := Lib.hid (World.block_lt_of_cell? w ⟨2, 0, none⟩ hm)
  have HM := Lib.hid (Lib.cell?_alloc_some (Obj.cells #[.int .u8 0, .string { data := #[] }, .string { data := #[] }] 23) hm)
  have HA := Lib.hid (hA.step HS.out.below)
  have HWK := Lib.hid (fun W hb => work_any p T n c W hT hn hc hc9 (HA.out.step hb))
  have HL := Lib.hid (show (workW T).length ≤ n from hT ▸ workW_length T)
  obtain ⟨b, hb0⟩ : ∃ b, b = ((workW T).length == 0) := ⟨_, rfl⟩
  rw [← hb0]
  have HBV := Lib.hid hb0
  clear hb0
  clear hT hA hm
  unfold CmdOut
  go_enter Tryz.func36, Tryz.ntmps36
  go_wp2_with fail
  refine (HWK.out _ (Below.refl _ _)).mono ?_; rintro e w1 ⟨hb1, p', n', c', rfl, h1, h2, h3, h4⟩
  have HR1 := Lib.hid (HS.out.step hb1)
  clear hb1 h4
  by_cases h0 : n' = 0
  · have hb : ((n' : Int) == 0) = true := by simp; omega
    obtain rfl : b = true := by rw [HBV.out, h1]; simpa using h0
    clear h0 h1 h2 h3
    have c0 := HR1.out.c0
    have c1 := HR1.out.c1
    have c2 := HR1.out.c2
    have f0 := HR1.out.f0
    have f1 := HR1.out.f1
    have f2 := HR1.out.f2
    go_wp2_with fail
    obtain ⟨⟨k0, k1, k2⟩, hbb⟩ := HR1.out.put (.int .u8 99) (.string { data := #[] }) (.string { data := #[] })
    simp [bodyPost, results, Tryz.results36, go_sem, k0, k1, k2]
    first | exact hbb | exact ⟨rfl, hbb⟩ | exact ⟨by simp, hbb⟩
  · have hb : ((n' : Int) == 0) = false := by simp; omega
    obtain rfl : b = false := by rw [HBV.out, h1]; simpa using h0
    clear h0 h1 h2 h3
    have c0 := HR1.out.c0
    have c1 := HR1.out.c1
    have c2 := HR1.out.c2
    have f0 := HR1.out.f0
    have f1 := HR1.out.f1
    have f2 := HR1.out.f2
    go_wp2_with fail
    obtain ⟨⟨k0, k1, k2⟩, hbb⟩ := HR1.out.put (.int .u8 99) (.string { data := #[] }) (.string { data := #[] })
    simp [bodyPost, results, Tryz.results36, go_sem, k0, k1, k2]
    first | exact hbb | exact ⟨rfl, hbb⟩ | exact ⟨by simp, hbb⟩
end Go.Proofs.YtpijolcklmdjbaaGreatDoor

namespace Go.Proofs.YtpijolcklmdjbaaGreatDoor
open Go.RowKit Go.Lib Go.WideShapes

set_option maxRecDepth 100000 in
set_option maxHeartbeats 4000000 in
theorem cmd_commit (p : Option Addr) (T : List Tok) (n c : Nat) (m : Int) (w : World) (hT : T.length = n) (hn : n ≤ 100000) (hc : n ≤ c) (hc9 : c ≤ 9223372036854775807) (hA : TokOff w p T) (_hx : ∀ q ∈ T, q.text.length ≤ 2000) (hm : w.cell? ⟨2, 0, none⟩ = some (.int .i64 m)) :
    Calls Tryz.prog 36 #[.string { data := #[99, 111, 109, 109, 105, 116] }, .slice p n c] w (CmdOut (commandC w_commit T) w) := by
  rw [show commandC w_commit T = (⟨99, [], []⟩, (workW T).length == 0) by unfold commandC; rw [if_neg (by decide), if_neg (by decide), if_neg (by decide), if_neg (by decide), if_neg (by decide), if_neg (by decide), if_pos rfl]]
  have HS := Lib.hid (Res.start w)
  have HW0 := Lib.hid (World.block_lt_of_cell? w ⟨2, 0, none⟩ hm)
  have HM := Lib.hid (Lib.cell?_alloc_some (Obj.cells #[.int .u8 0, .string { data := #[] }, .string { data := #[] }] 23) hm)
  have HA := Lib.hid (hA.step HS.out.below)
  have HWK := Lib.hid (fun W hb => work_any p T n c W hT hn hc hc9 (HA.out.step hb))
  have HL := Lib.hid (show (workW T).length ≤ n from hT ▸ workW_length T)
  obtain ⟨b, hb0⟩ : ∃ b, b = ((workW T).length == 0) := ⟨_, rfl⟩
  rw [← hb0]
  have HBV := Lib.hid hb0
  clear hb0
  clear hT hA hm
  unfold CmdOut
  go_enter Tryz.func36, Tryz.ntmps36
  go_wp2_with fail
  refine (HWK.out _ (Below.refl _ _)).mono ?_; rintro e w1 ⟨hb1, p', n', c', rfl, h1, h2, h3, h4⟩
  have HR1 := Lib.hid (HS.out.step hb1)
  clear hb1 h4
  by_cases h0 : n' = 0
  · have hb : ((n' : Int) == 0) = true := by simp; omega
    obtain rfl : b = true := by rw [HBV.out, h1]; simpa using h0
    clear h0 h1 h2 h3
    have c0 := HR1.out.c0
    have c1 := HR1.out.c1
    have c2 := HR1.out.c2
    have f0 := HR1.out.f0
    have f1 := HR1.out.f1
    have f2 := HR1.out.f2
    go_wp2_with fail
    obtain ⟨⟨k0, k1, k2⟩, hbb⟩ := HR1.out.put (.int .u8 99) (.string { data := #[] }) (.string { data := #[] })
    simp [bodyPost, results, Tryz.results36, go_sem, k0, k1, k2]
    first | exact hbb | exact ⟨rfl, hbb⟩ | exact ⟨by simp, hbb⟩
  · have hb : ((n' : Int) == 0) = false := by simp; omega
    obtain rfl : b = false := by rw [HBV.out, h1]; simpa using h0
    clear h0 h1 h2 h3
    have c0 := HR1.out.c0
    have c1 := HR1.out.c1
    have c2 := HR1.out.c2
    have f0 := HR1.out.f0
    have f1 := HR1.out.f1
    have f2 := HR1.out.f2
    go_wp2_with fail
    obtain ⟨⟨k0, k1, k2⟩, hbb⟩ := HR1.out.put (.int .u8 99) (.string { data := #[] }) (.string { data := #[] })
    simp [bodyPost, results, Tryz.results36, go_sem, k0, k1, k2]
    first | exact hbb | exact ⟨rfl, hbb⟩ | exact ⟨by simp, hbb⟩

set_option maxRecDepth 100000 in
set_option maxHeartbeats 4000000 in
theorem cmd_abort (p : Option Addr) (T : List Tok) (n c : Nat) (m : Int) (w : World) (hT : T.length = n) (hn : n ≤ 100000) (hc : n ≤ c) (hc9 : c ≤ 9223372036854775807) (hA : TokOff w p T) (_hx : ∀ q ∈ T, q.text.length ≤ 2000) (hm : w.cell? ⟨2, 0, none⟩ = some (.int .i64 m)) :
    Calls Tryz.prog 36 #[.string { data := #[97, 98, 111, 114, 116] }, .slice p n c] w (CmdOut (commandC w_abort T) w) := by
  rw [show commandC w_abort T = rollC (workW T) by unfold commandC; rw [if_neg (by decide), if_neg (by decide), if_neg (by decide), if_neg (by decide), if_neg (by decide), if_neg (by decide), if_neg (by decide), if_pos rfl]]
  have HS := Lib.hid (Res.start w)
  have HW0 := Lib.hid (World.block_lt_of_cell? w ⟨2, 0, none⟩ hm)
  have HM := Lib.hid (Lib.cell?_alloc_some (Obj.cells #[.int .u8 0, .string { data := #[] }, .string { data := #[] }] 23) hm)
  have HA := Lib.hid (hA.step HS.out.below)
  have HWK := Lib.hid (fun W hb => work_any p T n c W hT hn hc hc9 (HA.out.step hb))
  have HL := Lib.hid (show (workW T).length ≤ n from hT ▸ workW_length T)
  have HC := Lib.hid (fun p' n' c' W h1 h2 h3 h4 h5 => roll_any p' (workW T) n' c' W h1 h2 h3 h4 h5)
  clear hT hA hm
  unfold CmdOut at HC ⊢
  generalize rollC (workW T) = q at HC ⊢
  obtain ⟨⟨ck, cn, cv⟩, cb⟩ := q
  unfold Cmd.val at HC ⊢
  simp only at HC ⊢
  go_enter Tryz.func36, Tryz.ntmps36
  go_wp2_with fail
  refine (HWK.out _ (Below.refl _ _)).mono ?_; rintro e w1 ⟨hb1, p', n', c', rfl, h1, h2, h3, h4⟩
  have HR1 := Lib.hid (HS.out.step hb1)
  have HC1 := Lib.hid (HC.out p' n' c' w1 h1 (by rw [← h1]; exact Nat.le_trans HL.out hn) h2 h3 h4)
  clear hb1 h1 h2 h3 h4 HC HWK
  go_wp2_with fail
  refine HC1.out.mono ?_; rintro e w2 ⟨rfl, hb2⟩
  have HR2 := Lib.hid (HR1.out.step hb2)
  clear hb2
  have c0 := HR2.out.c0
  have c1 := HR2.out.c1
  have c2 := HR2.out.c2
  have f0 := HR2.out.f0
  have f1 := HR2.out.f1
  have f2 := HR2.out.f2
  go_wp2_with fail
  obtain ⟨⟨k0, k1, k2⟩, hbb⟩ := HR2.out.put (.int .u8 (ck.toNat : Nat)) (.string ⟨cn.toArray⟩) (.string ⟨cv.toArray⟩)
  simp [bodyPost, results, Tryz.results36, go_sem, k0, k1, k2]
  first | exact hbb | exact ⟨rfl, hbb⟩ | exact ⟨by simp, hbb⟩

set_option maxRecDepth 100000 in
set_option maxHeartbeats 4000000 in
theorem cmd_rollback (p : Option Addr) (T : List Tok) (n c : Nat) (m : Int) (w : World) (hT : T.length = n) (hn : n ≤ 100000) (hc : n ≤ c) (hc9 : c ≤ 9223372036854775807) (hA : TokOff w p T) (_hx : ∀ q ∈ T, q.text.length ≤ 2000) (hm : w.cell? ⟨2, 0, none⟩ = some (.int .i64 m)) :
    Calls Tryz.prog 36 #[.string { data := #[114, 111, 108, 108, 98, 97, 99, 107] }, .slice p n c] w (CmdOut (commandC w_rollback T) w) := by
  rw [show commandC w_rollback T = rollC (workW T) by unfold commandC; rw [if_neg (by decide), if_neg (by decide), if_neg (by decide), if_neg (by decide), if_neg (by decide), if_neg (by decide), if_neg (by decide), if_neg (by decide), if_pos rfl]]
  have HS := Lib.hid (Res.start w)
  have HW0 := Lib.hid (World.block_lt_of_cell? w ⟨2, 0, none⟩ hm)
  have HM := Lib.hid (Lib.cell?_alloc_some (Obj.cells #[.int .u8 0, .string { data := #[] }, .string { data := #[] }] 23) hm)
  have HA := Lib.hid (hA.step HS.out.below)
  have HWK := Lib.hid (fun W hb => work_any p T n c W hT hn hc hc9 (HA.out.step hb))
  have HL := Lib.hid (show (workW T).length ≤ n from hT ▸ workW_length T)
  have HC := Lib.hid (fun p' n' c' W h1 h2 h3 h4 h5 => roll_any p' (workW T) n' c' W h1 h2 h3 h4 h5)
  clear hT hA hm
  unfold CmdOut at HC ⊢
  generalize rollC (workW T) = q at HC ⊢
  obtain ⟨⟨ck, cn, cv⟩, cb⟩ := q
  unfold Cmd.val at HC ⊢
  simp only at HC ⊢
  go_enter Tryz.func36, Tryz.ntmps36
  go_wp2_with fail
  refine (HWK.out _ (Below.refl _ _)).mono ?_; rintro e w1 ⟨hb1, p', n', c', rfl, h1, h2, h3, h4⟩
  have HR1 := Lib.hid (HS.out.step hb1)
  have HC1 := Lib.hid (HC.out p' n' c' w1 h1 (by rw [← h1]; exact Nat.le_trans HL.out hn) h2 h3 h4)
  clear hb1 h1 h2 h3 h4 HC HWK
  go_wp2_with fail
  refine HC1.out.mono ?_; rintro e w2 ⟨rfl, hb2⟩
  have HR2 := Lib.hid (HR1.out.step hb2)
  clear hb2
  have c0 := HR2.out.c0
  have c1 := HR2.out.c1
  have c2 := HR2.out.c2
  have f0 := HR2.out.f0
  have f1 := HR2.out.f1
  have f2 := HR2.out.f2
  go_wp2_with fail
  obtain ⟨⟨k0, k1, k2⟩, hbb⟩ := HR2.out.put (.int .u8 (ck.toNat : Nat)) (.string ⟨cn.toArray⟩) (.string ⟨cv.toArray⟩)
  simp [bodyPost, results, Tryz.results36, go_sem, k0, k1, k2]
  first | exact hbb | exact ⟨rfl, hbb⟩ | exact ⟨by simp, hbb⟩

set_option maxRecDepth 100000 in
set_option maxHeartbeats 4000000 in
theorem cmd_savepoint (p : Option Addr) (T : List Tok) (n c : Nat) (m : Int) (w : World) (hT : T.length = n) (_hn : n ≤ 100000) (_hc : n ≤ c) (_hc9 : c ≤ 9223372036854775807) (hA : TokOff w p T) (_hx : ∀ q ∈ T, q.text.length ≤ 2000) (hm : w.cell? ⟨2, 0, none⟩ = some (.int .i64 m)) :
    Calls Tryz.prog 36 #[.string { data := #[115, 97, 118, 101, 112, 111, 105, 110, 116] }, .slice p n c] w (CmdOut (commandC w_savepoint T) w) := by
  rw [show commandC w_savepoint T = pointC 112 T by unfold commandC; rw [if_neg (by decide), if_neg (by decide), if_neg (by decide), if_neg (by decide), if_neg (by decide), if_neg (by decide), if_neg (by decide), if_neg (by decide), if_neg (by decide), if_pos rfl]]
  have HS := Lib.hid (Res.start w)
  have HW0 := Lib.hid (World.block_lt_of_cell? w ⟨2, 0, none⟩ hm)
  have HM := Lib.hid (Lib.cell?_alloc_some (Obj.cells #[.int .u8 0, .string { data := #[] }, .string { data := #[] }] 23) hm)
  have HA := Lib.hid (hA.step HS.out.below)
  have HC := Lib.hid (point_any 112 p T n c _ hT HA.out)
  unfold CmdOut at HC ⊢
  generalize pointC 112 T = q at HC ⊢
  obtain ⟨⟨ck, cn, cv⟩, cb⟩ := q
  unfold Cmd.val at HC ⊢
  simp only at HC ⊢
  clear hT hA hm
  go_enter Tryz.func36, Tryz.ntmps36
  go_wp2_with fail
  refine HC.out.mono ?_; rintro e w1 ⟨rfl, hb1⟩
  have HR1 := Lib.hid (HS.out.step hb1)
  clear hb1
  have c0 := HR1.out.c0
  have c1 := HR1.out.c1
  have c2 := HR1.out.c2
  have f0 := HR1.out.f0
  have f1 := HR1.out.f1
  have f2 := HR1.out.f2
  go_wp2_with fail
  obtain ⟨⟨k0, k1, k2⟩, hbb⟩ := HR1.out.put (.int .u8 (ck.toNat : Nat)) (.string ⟨cn.toArray⟩) (.string ⟨cv.toArray⟩)
  simp [bodyPost, results, Tryz.results36, go_sem, k0, k1, k2]
  first | exact hbb | exact ⟨rfl, hbb⟩ | exact ⟨by simp, hbb⟩

set_option maxRecDepth 100000 in
set_option maxHeartbeats 4000000 in
theorem cmd_release (p : Option Addr) (T : List Tok) (n c : Nat) (m : Int) (w : World) (hT : T.length = n) (hn : n ≤ 100000) (hc : n ≤ c) (hc9 : c ≤ 9223372036854775807) (hA : TokOff w p T) (_hx : ∀ q ∈ T, q.text.length ≤ 2000) (hm : w.cell? ⟨2, 0, none⟩ = some (.int .i64 m)) :
    Calls Tryz.prog 36 #[.string { data := #[114, 101, 108, 101, 97, 115, 101] }, .slice p n c] w (CmdOut (commandC w_release T) w) := by
  rw [show commandC w_release T = pointC 101 (saveW T) by unfold commandC; rw [if_neg (by decide), if_neg (by decide), if_neg (by decide), if_neg (by decide), if_neg (by decide), if_neg (by decide), if_neg (by decide), if_neg (by decide), if_neg (by decide), if_neg (by decide), if_pos rfl]]
  have HS := Lib.hid (Res.start w)
  have HW0 := Lib.hid (World.block_lt_of_cell? w ⟨2, 0, none⟩ hm)
  have HM := Lib.hid (Lib.cell?_alloc_some (Obj.cells #[.int .u8 0, .string { data := #[] }, .string { data := #[] }] 23) hm)
  have HA := Lib.hid (hA.step HS.out.below)
  have HSV := Lib.hid (save_any p T n c _ hT hn hc hc9 HA.out)
  have HC := Lib.hid (fun p' n' c' W h1 h5 => point_any 101 p' (saveW T) n' c' W h1 h5)
  clear hT hA hm
  unfold CmdOut at HC ⊢
  generalize pointC 101 (saveW T) = q at HC ⊢
  obtain ⟨⟨ck, cn, cv⟩, cb⟩ := q
  unfold Cmd.val at HC ⊢
  simp only at HC ⊢
  go_enter Tryz.func36, Tryz.ntmps36
  go_wp2_with fail
  refine HSV.out.mono ?_; rintro e w1 ⟨hb1, p', n', c', rfl, h1, h2, h3, h4⟩
  have HR1 := Lib.hid (HS.out.step hb1)
  have HC1 := Lib.hid (HC.out p' n' c' w1 h1 h4)
  clear hb1 h1 h2 h3 h4 HC HSV
  go_wp2_with fail
  refine HC1.out.mono ?_; rintro e w2 ⟨rfl, hb2⟩
  have HR2 := Lib.hid (HR1.out.step hb2)
  clear hb2
  have c0 := HR2.out.c0
  have c1 := HR2.out.c1
  have c2 := HR2.out.c2
  have f0 := HR2.out.f0
  have f1 := HR2.out.f1
  have f2 := HR2.out.f2
  go_wp2_with fail
  obtain ⟨⟨k0, k1, k2⟩, hbb⟩ := HR2.out.put (.int .u8 (ck.toNat : Nat)) (.string ⟨cn.toArray⟩) (.string ⟨cv.toArray⟩)
  simp [bodyPost, results, Tryz.results36, go_sem, k0, k1, k2]
  first | exact hbb | exact ⟨rfl, hbb⟩ | exact ⟨by simp, hbb⟩

set_option maxRecDepth 100000 in
set_option maxHeartbeats 4000000 in
theorem cmd_show (p : Option Addr) (T : List Tok) (n c : Nat) (m : Int) (w : World) (hT : T.length = n) (hn : n ≤ 100000) (_hc : n ≤ c) (_hc9 : c ≤ 9223372036854775807) (hA : TokOff w p T) (hx : ∀ q ∈ T, q.text.length ≤ 2000) (hm : w.cell? ⟨2, 0, none⟩ = some (.int .i64 m)) :
    Calls Tryz.prog 36 #[.string { data := #[115, 104, 111, 119] }, .slice p n c] w (CmdOut (commandC w_show T) w) := by
  rw [show commandC w_show T = namedC 119 T by unfold commandC; rw [if_neg (by decide), if_neg (by decide), if_neg (by decide), if_neg (by decide), if_neg (by decide), if_neg (by decide), if_neg (by decide), if_neg (by decide), if_neg (by decide), if_neg (by decide), if_neg (by decide), if_pos rfl]]
  have HS := Lib.hid (Res.start w)
  have HW0 := Lib.hid (World.block_lt_of_cell? w ⟨2, 0, none⟩ hm)
  have HM := Lib.hid (Lib.cell?_alloc_some (Obj.cells #[.int .u8 0, .string { data := #[] }, .string { data := #[] }] 23) hm)
  have HA := Lib.hid (hA.step HS.out.below)
  have HC := Lib.hid (named2_any 119 p T n c m _ hT hn HA.out hx HM.out)
  unfold CmdOut at HC ⊢
  generalize namedC 119 T = q at HC ⊢
  obtain ⟨⟨ck, cn, cv⟩, cb⟩ := q
  unfold Cmd.val at HC ⊢
  simp only at HC ⊢
  clear hT hA hx hm
  go_enter Tryz.func36, Tryz.ntmps36
  go_wp2_with fail
  refine HC.out.mono ?_; rintro e w1 ⟨rfl, hb1⟩
  have HR1 := Lib.hid (HS.out.step hb1)
  clear hb1
  have c0 := HR1.out.c0
  have c1 := HR1.out.c1
  have c2 := HR1.out.c2
  have f0 := HR1.out.f0
  have f1 := HR1.out.f1
  have f2 := HR1.out.f2
  go_wp2_with fail
  obtain ⟨⟨k0, k1, k2⟩, hbb⟩ := HR1.out.put (.int .u8 (ck.toNat : Nat)) (.string ⟨cn.toArray⟩) (.string ⟨cv.toArray⟩)
  simp [bodyPost, results, Tryz.results36, go_sem, k0, k1, k2]
  first | exact hbb | exact ⟨rfl, hbb⟩ | exact ⟨by simp, hbb⟩
end Go.Proofs.YtpijolcklmdjbaaGreatDoor
