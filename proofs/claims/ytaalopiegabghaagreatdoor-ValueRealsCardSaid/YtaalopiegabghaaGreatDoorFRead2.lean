/- Go's reader of numbers, at digits with or without a point: the sign minus. -/
import Derived.Test.YtaalopiegabghaaGreatDoorFRead
namespace Go.Proofs.YtaalopiegabghaaGreatDoor
open Go.RowKit Go.Lib Go.WideShapes

set_option maxRecDepth 100000 in
set_option maxHeartbeats 8000000 in
theorem readfloat_2 (s : ByteArray) (d : Dcm) (w : World) (hd : d.ok) (hs : bytes s = [45] ++ d.text) :
    Calls Tryz.prog 79 #[.string s] w fun e w' => e = .returned (.tuple #[.int .u64 (d.man : Nat), .int .i64 (if d.man = 0 then 0 else -(d.p.length : Int)), .bool (sgB [45]), .bool false, .bool false, .int .i64 (s.size : Nat), .bool true]) ∧ w = w' := by
  obtain ⟨V, hV⟩ : ∃ V, V = Value.tuple #[.int .u64 (d.man : Nat), .int .i64 (if d.man = 0 then 0 else -(d.p.length : Int)), .bool (sgB [45]), .bool false, .bool false, .int .i64 (s.size : Nat), .bool true] := ⟨_, rfl⟩
  rw [← hV]
  have HV := Lib.hid hV
  clear hV
  have hlen : s.size = ([45] : Bs).length + d.text.length := by rw [← bytes_len, hs, List.length_append]
  have hpos := hd.pos
  have hshort := hd.short
  have hsg1 := (show Sgn [45] from .inr (.inr rfl)).one
  obtain ⟨B, hB⟩ : ∃ B, B = ([45] : Bs).length := ⟨_, rfl⟩
  -- the body's bytes
  have HAT := Lib.hid (show ∀ j x c, x = B + j → d.text[j]? = some c → ∃ hk : x < s.size, (s[x]'hk).toNat = c.toNat from fun j x c hx hj => text_at hs (by rw [List.getElem?_append_right (by omega), show x - ([45] : Bs).length = j by omega]; exact hj))
  have HSZ := Lib.hid hlen
  have hsz : s.size ≤ 17 := by omega
  have hBs : B < s.size := by omega
  have hBi : (B : Int) < s.size := by omega
  have h0 : (0 : Int) < s.size := by omega
  have HD := Lib.hid hd
  have hb0 := hd.byte (List.getElem_mem hpos)
  obtain ⟨hk0, hc0⟩ := HAT.out 0 B _ rfl (List.getElem?_eq_getElem hpos)
  obtain ⟨c0, hc0'⟩ : ∃ c, c = d.text[0].toNat := ⟨_, rfl⟩
  rw [← hc0'] at hb0 hc0
  have hne43 : ((c0 : Int) == 43) = false := by rw [beq_eq_false_iff_ne]; omega
  have hne45 : ((c0 : Int) == 45) = false := by rw [beq_eq_false_iff_ne]; omega
  have hne : ¬ s = ByteArray.empty := fun e => by subst e; exact absurd h0 (by decide)
  have HX : Hid (∀ x, x = B + 1 → ∀ h1 : x < s.size, (48 : Int) ≤ (s[x]'h1).toNat ∧ ((s[x]'h1).toNat : Int) ≤ 57 ∨ ((s[x]'h1).toNat : Int) = 46) := Lib.hid fun x hx h1 => by
    have hj : 1 < d.text.length := by omega
    obtain ⟨_, hc⟩ := HAT.out 1 x _ hx (List.getElem?_eq_getElem hj)
    have := hd.byte (List.getElem_mem hj)
    omega
  obtain rfl : B = 1 := hB
  have HB := Lib.hid (show s.size = 1 + d.text.length by simpa using hlen)
  have HS := Lib.hid hs
  clear hlen hd hpos hshort hsg1 hs hc0'
  have hs0 : (s[0]'(by omega)).toNat = 45 := (text_at (l := [45] ++ d.text) (k := 0) (c := 45) HS.out rfl).2
  go_enter Tryz.func79, Tryz.ntmps79
  go_wp2_with fail
  refine wp_scope_straight ?_
  go_upto_region 12 with (fail)
  go_cut [54] (fun t wx => t = .bool false ∧ w = wx)
  case first =>
    by_cases h2 : (3 : Int) < s.size
    · have h1 : 2 < s.size := by omega
      have h1' : (2 : Int) < s.size := by omega
      have hx := HX.out 2 rfl h1
      obtain ⟨c1, hc1⟩ : ∃ c, (s[2]'h1).toNat = c := ⟨_, rfl⟩
      rw [hc1] at hx
      have h120 : ((c1 : Int) == 120) = false := by rw [beq_eq_false_iff_ne]; omega
      cases h48 : ((c0 : Int) == 48) with
      | true =>
        go_wp2_with (go_at_call 94; refine (lower_dg c1 (by omega) _).mono ?_; rintro e w' ⟨rfl, rfl⟩)
        all_goals go_meet
        all_goals exact ⟨rfl, rfl⟩
      | false =>
        go_wp2_with fail
        all_goals go_meet
        all_goals exact ⟨rfl, rfl⟩
    · go_wp2_with fail
      all_goals go_meet
      all_goals exact ⟨rfl, rfl⟩
  case rest =>
    obtain ⟨rfl, rfl⟩ := hcut
    clear hc0 hb0 hne43 hne45 hne
    go_wp2_with fail
    refine wp_label ?_
    go_wp2_with fail
    go_loop [2, 5, 7, 9, 13, 14, 15, 16, 17] (fun m tr i us dot sd nd ndm dp => ∃ (j x : Nat) (dt sdb : Bool) (M n : Nat) (q : Int), x = 1 + j ∧ j ≤ d.text.length ∧ RSt d j dt M n q sdb ∧ i = .int .i64 x ∧ m = .int .u64 M ∧ dot = .bool dt ∧ sd = .bool sdb ∧ nd = .int .i64 n ∧ ndm = .int .i64 n ∧ dp = .int .i64 q ∧ tr = .bool false ∧ us = .bool false) (fun _ _ i _ _ _ _ _ _ => s.size - (RowKit.intOf i).toNat)
    case atStart => exact ⟨0, 1, false, false, 0, 0, 0, rfl, Nat.zero_le _, RSt.start d, rfl, rfl, rfl, rfl, rfl, rfl, rfl, rfl, rfl⟩
    case round =>
      obtain ⟨j, x, dt, sdb, M, n, q, hx, hj, hR, rfl, rfl, rfl, rfl, rfl, rfl, rfl, rfl, rfl⟩ := hrel
      obtain ⟨b1, b2, b3, b4, b5⟩ := hR.small HD.out
      have HXJ := Lib.hid hx
      by_cases hlt : x < s.size
      · have hjl : j < d.text.length := by have := HB.out; omega
        have hN := hR.next HD.out hjl
        have hlt' : (x : Int) < s.size := by omega
        clear hR hj
        rcases hN with ⟨hc, rfl, hN⟩ | ⟨c, hc, hdg, hN0, hN1⟩
        · obtain ⟨_, hcx0⟩ := HAT.out j x _ hx hc
          have hcx : (s[x]'hlt).toNat = 46 := hcx0
          clear hcx0
          have HN := Lib.hid hN
          clear hN hc hx
          go_wp2_with fail
          go_round
          case rel => exact ⟨j + 1, x + 1, true, sdb, M, n, n, by have := HXJ.out; omega, hjl, HN.out, by go_num, rfl, rfl, rfl, rfl, rfl, rfl, rfl, rfl⟩
          case measure => simp [RowKit.intOf]; omega
        · obtain ⟨_, hcx0⟩ := HAT.out j x _ hx hc
          have hcx : (s[x]'hlt).toNat = c.toNat := hcx0
          clear hcx0
          unfold isDg at hdg
          obtain ⟨cn, hcn⟩ : ∃ cn, cn = c.toNat := ⟨_, rfl⟩
          rw [← hcn] at hdg hN0 hN1 hcx
          obtain ⟨d1, d2⟩ := hdg
          have HN0 := Lib.hid hN0; have HN1 := Lib.hid hN1
          have t95 : ((cn : Int) == 95) = false := by rw [beq_eq_false_iff_ne]; omega
          have t46 : ((cn : Int) == 46) = false := by rw [beq_eq_false_iff_ne]; omega
          have d1' : (48 : Int) ≤ cn := by omega
          have d2' : (cn : Int) ≤ 57 := by omega
          have m1 : (M : Int) ≤ 1000000000000000 := by omega
          have n1 : (n : Int) ≤ 15 := by omega
          clear hN0 hN1 hc hcn hx
          by_cases h48 : cn = 48
          · by_cases hn0 : n = 0
            · subst h48; subst hn0
              have HN := Lib.hid (HN0.out rfl rfl)
              clear HN0 HN1 t95 t46 d1' d2' n1
              go_wp2_with fail
              go_round
              case rel => exact ⟨j + 1, x + 1, dt, true, M, 0, q - 1, by have := HXJ.out; omega, hjl, HN.out, by go_num, rfl, rfl, rfl, rfl, rfl, rfl, rfl, rfl⟩
              case measure => simp [RowKit.intOf]; omega
            · subst h48
              have HN := Lib.hid (HN1.out (by omega))
              have hnn : ((n : Int) == 0) = false := by rw [beq_eq_false_iff_ne]; omega
              clear HN0 HN1 t95 t46 d1' d2' hn0
              go_wp2_with fail
              go_round
              case rel => exact ⟨j + 1, x + 1, dt, true, _, n + 1, q, by have := HXJ.out; omega, hjl, HN.out, by go_num, by congr 1; omega, rfl, rfl, by go_num, by go_num, rfl, rfl, rfl⟩
              case measure => simp [RowKit.intOf]; omega
          · have HN := Lib.hid (HN1.out (by omega))
            have hnn : ((cn : Int) == 48) = false := by rw [beq_eq_false_iff_ne]; omega
            clear HN0 HN1 h48
            go_wp2_with fail
            go_round
            case rel => exact ⟨j + 1, x + 1, dt, true, _, n + 1, q, by have := HXJ.out; omega, hjl, HN.out, by go_num, by congr 1; omega, rfl, rfl, by go_num, by go_num, rfl, rfl, rfl⟩
            case measure => simp [RowKit.intOf]; omega
      · have hjl : ¬ j < d.text.length := by have := HB.out; omega
        obtain ⟨e1, e2, e3, e4, e5⟩ := hR.end HD.out hjl
        obtain rfl : x = s.size := by have := HB.out; omega
        clear hlt hj hjl hR hx
        subst e2
        subst e3
        have hv := HV.out
        rw [← e1] at hv
        have p6 := HD.out.p6
        have b2' : (n : Int) ≤ 15 := by omega
        obtain ⟨pl, hpl⟩ : ∃ pl, pl = d.p.length := ⟨_, rfl⟩
        rw [← hpl] at e4 e5 p6 hv
        have p6' : (pl : Int) ≤ 6 := by omega
        clear hpl e1 HV
        by_cases hM : M = 0
        · rw [if_pos hM] at hv
          subst hM
          have HV := Lib.hid hv
          clear hv
          cases hdt : d.dot with
          | true =>
            clear e4 e5 hdt
            go_wp2_with fail
            exact bodyPost_ret (v := .tuple #[.int .u64 0, .int .i64 0, .bool true, .bool false, .bool false, .int .i64 (s.size : Nat), .bool true]) (by simp [results, Tryz.results79, go_sem]) rfl ⟨by rw [HV.out]; rfl, rfl⟩
          | false =>
            clear e4 e5 hdt
            go_wp2_with fail
            exact bodyPost_ret (v := .tuple #[.int .u64 0, .int .i64 0, .bool true, .bool false, .bool false, .int .i64 (s.size : Nat), .bool true]) (by simp [results, Tryz.results79, go_sem]) rfl ⟨by rw [HV.out]; rfl, rfl⟩
        · rw [if_neg hM] at hv
          have HV := Lib.hid hv
          clear hv
          have hm0 : ((M : Int) == 0) = false := by rw [beq_eq_false_iff_ne]; omega
          clear hM
          cases hdt : d.dot with
          | true =>
            rw [hdt] at e4
            obtain rfl := e4 rfl
            clear e4 e5 b3 b4 hdt
            go_wp2_with fail
            exact bodyPost_ret (v := .tuple #[.int .u64 (M : Nat), .int .i64 (-((pl : Nat) : Int)), .bool true, .bool false, .bool false, .int .i64 (s.size : Nat), .bool true]) (by simp [results, Tryz.results79, go_sem]; try omega) rfl ⟨by rw [HV.out]; rfl, rfl⟩
          | false =>
            rw [hdt] at e5
            obtain rfl : pl = 0 := e5 rfl
            clear e4 e5 hdt
            go_wp2_with fail
            exact bodyPost_ret (v := .tuple #[.int .u64 (M : Nat), .int .i64 (-(((0 : Nat) : Int) : Int)), .bool true, .bool false, .bool false, .int .i64 (s.size : Nat), .bool true]) (by simp [results, Tryz.results79, go_sem]; try omega) rfl ⟨by rw [HV.out]; rfl, rfl⟩
end Go.Proofs.YtaalopiegabghaaGreatDoor
