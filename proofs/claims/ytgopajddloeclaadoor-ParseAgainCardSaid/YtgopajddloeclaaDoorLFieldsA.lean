/- scan.Fields: its contract. -/
import Derived.Test.YtgopajddloeclaaDoorZ20
namespace Go.Proofs.YtgopajddloeclaaDoor
open Go.RowKit Go.Lib Go.WideShapes

theorem take_ne_nil {T : List Tok} {k : Nat} (h0 : 0 < k) (hk : k < T.length) : T.take k ≠ [] := fun e => by
  have := congrArg List.length e
  rw [List.length_take] at this
  have h0 : ([] : List Tok).length = 0 := rfl
  omega

set_option maxRecDepth 100000 in
set_option maxHeartbeats 4000000 in
theorem fields_any (p : Option Addr) (T : List Tok) (n c : Nat) (m : Int) (w : World) (hT : T.length = n) (hn : n ≤ 2001) (hA : TokOff w p T) (hx : ∀ q ∈ T, q.text.length ≤ 2000) (hm : w.cell? ⟨2, 0, none⟩ = some (.int .i64 m)) :
    Calls Tryd.prog 19 #[.slice p n c] w fun e w' => e = .returned (.string ⟨(fieldsB T).toArray⟩) ∧ Below w.heap.size w w' := by
  have HM := Lib.hid hm
  have HW0 := Lib.hid (World.block_lt_of_cell? w ⟨2, 0, none⟩ hm)
  have HX := Lib.hid hx; have HA := Lib.hid hA; have HL := Lib.hid hT
  have HQ := Lib.hid (fun c (S : Bs) (W : World) h1 h2 => squote_any c ⟨S.toArray⟩ m W (by rw [str_size]; exact h1) h2)
  clear hm hx hA hT
  go_enter Tryd.func19, Tryd.ntmps19
  go_wp2_with fail
  have HI := Lib.hid (isB_new w)
  have HB0 := Lib.hid ((Below.refl w.heap.size w).alloc (Nat.le_refl _) (Obj.cells #[.pointer none, .slice none 0 0] 73))
  generalize w.alloc (Obj.cells #[.pointer none, .slice none 0 0] 73) = w1 at HI HB0 ⊢
  go_loopg [8] n (fun g v wr => ∃ k : Nat, v = .int .i64 k ∧ k ≤ n ∧ g = n - k ∧ IsB w.heap.size w.heap.size (fieldsB (T.take k)) wr ∧ Below w.heap.size w wr)
  case atStart => exact ⟨0, rfl, Nat.zero_le _, rfl, HI.out, HB0.out⟩
  case round =>
    obtain ⟨k, rfl, hk, hg, hib, hbb⟩ := hrel
    have HIB := Lib.hid hib; have HBB := Lib.hid hbb; have HG := Lib.hid hg
    clear hib hbb hg HI HB0
    by_cases hlt : k < n
    · have hlt' : (k : Int) < n := by omega
      have hkT : k < T.length := by rw [HL.out]; exact hlt
      obtain ⟨q, hq⟩ : ∃ q, T[k]? = some q := ⟨_, List.getElem?_eq_getElem hkT⟩
      have hqm : q ∈ T := List.mem_of_getElem? hq
      have hqx := HX.out q hqm
      have HLE := Lib.hid (fieldsB_take T HX.out k (by omega))
      have HSN := Lib.hid (show fieldsB (T.take (k + 1)) = fieldsB (T.take k) ++ ((if T.take k = [] then [] else [32]) ++ fieldT q) by
        rw [List.take_succ_eq_append_getElem hkT, fieldsB_snoc]
        rw [List.getElem?_eq_getElem hkT] at hq
        cases hq; rfl)
      rcases HA.out with hnil | ⟨g, off, rfl, hgw, hc⟩
      · rw [hnil] at hkT; simp at hkT
      obtain ⟨a0, a1, a2, a3⟩ := hc k q hq
      have a0 := (HBB.out.cell (p := ⟨g, off + k * 4, none⟩) hgw).trans a0
      have a1 := (HBB.out.cell (p := ⟨g, off + k * 4 + 1, none⟩) hgw).trans a1
      have a2 := (HBB.out.cell (p := ⟨g, off + k * 4 + 2, none⟩) hgw).trans a2
      have a3 := (HBB.out.cell (p := ⟨g, off + k * 4 + 3, none⟩) hgw).trans a3
      clear hc hq hqm hkT
      have HLT := Lib.hid (HIB.out.elim (fun x => x.lt) (fun x => x.lt))
      have HFL := Lib.hid (fieldT_length hqx)
      by_cases hk0 : 0 < k
      · have HKE := Lib.hid (show (if T.take k = [] then ([] : Bs) else [32]) = [32] by rw [if_neg (take_ne_nil hk0 (by rw [HL.out]; exact hlt))])
        by_cases h1 : q.kind = 113
        · have HKD := Lib.hid (show (if q.kind = 113 then quoted 34 q.text else if q.kind = 115 then quoted 39 q.text else q.text) = quoted 34 q.text by rw [if_pos h1])
          have hk1 : ((q.kind.toNat : Int) == 113) = true := by rw [h1]; rfl
          clear h1
          go_wp2_with fail
          have hib2 := HIB.out.alloc (Obj.cells #[.int .u8 (q.kind.toNat : Nat), .string ⟨q.text.toArray⟩, .int .i64 q.lo, .int .i64 q.hi] 25)
          have hbb2 := HBB.out.alloc HBB.out.size (Obj.cells #[.int .u8 (q.kind.toNat : Nat), .string ⟨q.text.toArray⟩, .int .i64 q.lo, .int .i64 q.hi] 25)
          have hbx : (wr.alloc (Obj.cells #[.int .u8 (q.kind.toNat : Nat), .string ⟨q.text.toArray⟩, .int .i64 q.lo, .int .i64 q.hi] 25)).heap[wr.heap.size]? = some (Obj.cells #[.int .u8 (q.kind.toNat : Nat), .string ⟨q.text.toArray⟩, .int .i64 q.lo, .int .i64 q.hi] 25) := heap_alloc_new wr _
          generalize wr.alloc (Obj.cells #[.int .u8 (q.kind.toNat : Nat), .string ⟨q.text.toArray⟩, .int .i64 q.lo, .int .i64 q.hi] 25) = w2 at hib2 hbb2 hbx ⊢
          have hz2 := hbb2.size
          have HIB2 := Lib.hid hib2; have HBB2 := Lib.hid hbb2; have HBX := Lib.hid hbx
          clear hib2 hbb2 hbx
          refine (wr_byte w.heap.size w.heap.size _ 32 w2 HIB2.out (by have := HLE.out; omega) hz2).mono ?_; rintro e w3 ⟨rfl, hib3, hb3, hok3⟩
          have hbb3 := HBB2.out.trans hb3
          have hbx3 := hok3 _ _ HBX.out (fun e => by have h := Option.some.inj e; have := HLT.out; omega) (by intro c fz e; cases e)
          have hz3 := hbb3.size
          clear hb3 hok3 hz2 HIB2 HBB2 HBX
          have HIB3 := Lib.hid hib3; have HBB3 := Lib.hid hbb3
          have c0 : w3.cell? ⟨wr.heap.size, 0, none⟩ = some (.int .u8 (q.kind.toNat : Nat)) := by simp [World.cell?, hbx3]
          have c1 : w3.cell? ⟨wr.heap.size, 1, none⟩ = some (.string ⟨q.text.toArray⟩) := by simp [World.cell?, hbx3]
          clear hib3 hbb3 hbx3
          go_wp2_with fail
          have HM3 := Lib.hid ((HBB3.out.cell (p := ⟨2, 0, none⟩) HW0.out).trans HM.out)
          refine (HQ.out 34 q.text w3 (by omega) HM3.out).mono ?_; rintro e w4 ⟨rfl, hb4⟩
          rw [show 34 :: (doubled 34 (bytes ⟨q.text.toArray⟩) ++ [34]) = fieldT q by unfold fieldT; rw [HKD.out]; simp [bytes, quoted]]
          have HIB4 := Lib.hid (HIB3.out.below hb4)
          have HBB4 := Lib.hid (HBB3.out.step hb4 HBB3.out.size)
          have hz4 := HBB4.out.size
          clear hb4 HIB3 HBB3 HM3
          go_wp2_with fail
          refine (wr_string w.heap.size w.heap.size _ ⟨(fieldT q).toArray⟩ w4 HIB4.out (by rw [str_size]; have := HLE.out; have := HFL.out; (try simp only [List.length_append, List.length_cons, List.length_nil]); omega) hz4).mono ?_; rintro e w6 ⟨rfl, hib6, hb6⟩
          have HIB6 := Lib.hid hib6; have HBB6 := Lib.hid (HBB4.out.trans hb6)
          clear hib6 hb6
          go_wp2_with fail
          go_roundg (n - (k + 1))
          case measure => have := HG.out; omega
          case rel =>
            refine ⟨k + 1, by go_num, by omega, rfl, ?_, HBB6.out⟩
            have := HIB6.out
            rw [HSN.out, HKE.out]
            simpa [bytes] using this
        · have hk1 : ((q.kind.toNat : Int) == 113) = false := by
            rw [beq_eq_false_iff_ne]; intro e; exact h1 (UInt8.toNat_inj.1 (show q.kind.toNat = (113 : UInt8).toNat from by have : ((113 : UInt8).toNat : Int) = 113 := rfl; omega))
          by_cases h2 : q.kind = 115
          · have HKD := Lib.hid (show (if q.kind = 113 then quoted 34 q.text else if q.kind = 115 then quoted 39 q.text else q.text) = quoted 39 q.text by rw [if_neg h1, if_pos h2])
            have hk2 : ((q.kind.toNat : Int) == 115) = true := by rw [h2]; rfl
            clear h1 h2
            go_wp2_with fail
            have hib2 := HIB.out.alloc (Obj.cells #[.int .u8 (q.kind.toNat : Nat), .string ⟨q.text.toArray⟩, .int .i64 q.lo, .int .i64 q.hi] 25)
            have hbb2 := HBB.out.alloc HBB.out.size (Obj.cells #[.int .u8 (q.kind.toNat : Nat), .string ⟨q.text.toArray⟩, .int .i64 q.lo, .int .i64 q.hi] 25)
            have hbx : (wr.alloc (Obj.cells #[.int .u8 (q.kind.toNat : Nat), .string ⟨q.text.toArray⟩, .int .i64 q.lo, .int .i64 q.hi] 25)).heap[wr.heap.size]? = some (Obj.cells #[.int .u8 (q.kind.toNat : Nat), .string ⟨q.text.toArray⟩, .int .i64 q.lo, .int .i64 q.hi] 25) := heap_alloc_new wr _
            generalize wr.alloc (Obj.cells #[.int .u8 (q.kind.toNat : Nat), .string ⟨q.text.toArray⟩, .int .i64 q.lo, .int .i64 q.hi] 25) = w2 at hib2 hbb2 hbx ⊢
            have hz2 := hbb2.size
            have HIB2 := Lib.hid hib2; have HBB2 := Lib.hid hbb2; have HBX := Lib.hid hbx
            clear hib2 hbb2 hbx
            refine (wr_byte w.heap.size w.heap.size _ 32 w2 HIB2.out (by have := HLE.out; omega) hz2).mono ?_; rintro e w3 ⟨rfl, hib3, hb3, hok3⟩
            have hbb3 := HBB2.out.trans hb3
            have hbx3 := hok3 _ _ HBX.out (fun e => by have h := Option.some.inj e; have := HLT.out; omega) (by intro c fz e; cases e)
            have hz3 := hbb3.size
            clear hb3 hok3 hz2 HIB2 HBB2 HBX
            have HIB3 := Lib.hid hib3; have HBB3 := Lib.hid hbb3
            have c0 : w3.cell? ⟨wr.heap.size, 0, none⟩ = some (.int .u8 (q.kind.toNat : Nat)) := by simp [World.cell?, hbx3]
            have c1 : w3.cell? ⟨wr.heap.size, 1, none⟩ = some (.string ⟨q.text.toArray⟩) := by simp [World.cell?, hbx3]
            clear hib3 hbb3 hbx3
            go_wp2_with fail
            have HM3 := Lib.hid ((HBB3.out.cell (p := ⟨2, 0, none⟩) HW0.out).trans HM.out)
            refine (HQ.out 39 q.text w3 (by omega) HM3.out).mono ?_; rintro e w4 ⟨rfl, hb4⟩
            rw [show 39 :: (doubled 39 (bytes ⟨q.text.toArray⟩) ++ [39]) = fieldT q by unfold fieldT; rw [HKD.out]; simp [bytes, quoted]]
            have HIB4 := Lib.hid (HIB3.out.below hb4)
            have HBB4 := Lib.hid (HBB3.out.step hb4 HBB3.out.size)
            have hz4 := HBB4.out.size
            clear hb4 HIB3 HBB3 HM3
            go_wp2_with fail
            refine (wr_string w.heap.size w.heap.size _ ⟨(fieldT q).toArray⟩ w4 HIB4.out (by rw [str_size]; have := HLE.out; have := HFL.out; (try simp only [List.length_append, List.length_cons, List.length_nil]); omega) hz4).mono ?_; rintro e w6 ⟨rfl, hib6, hb6⟩
            have HIB6 := Lib.hid hib6; have HBB6 := Lib.hid (HBB4.out.trans hb6)
            clear hib6 hb6
            go_wp2_with fail
            go_roundg (n - (k + 1))
            case measure => have := HG.out; omega
            case rel =>
              refine ⟨k + 1, by go_num, by omega, rfl, ?_, HBB6.out⟩
              have := HIB6.out
              rw [HSN.out, HKE.out]
              simpa [bytes] using this
          · have HKD := Lib.hid (And.intro h1 h2)
            have hk2 : ((q.kind.toNat : Int) == 115) = false := by
              rw [beq_eq_false_iff_ne]; intro e; exact h2 (UInt8.toNat_inj.1 (show q.kind.toNat = (115 : UInt8).toNat from by have : ((115 : UInt8).toNat : Int) = 115 := rfl; omega))
            clear h1 h2
            go_wp2_with fail
            have hib2 := HIB.out.alloc (Obj.cells #[.int .u8 (q.kind.toNat : Nat), .string ⟨q.text.toArray⟩, .int .i64 q.lo, .int .i64 q.hi] 25)
            have hbb2 := HBB.out.alloc HBB.out.size (Obj.cells #[.int .u8 (q.kind.toNat : Nat), .string ⟨q.text.toArray⟩, .int .i64 q.lo, .int .i64 q.hi] 25)
            have hbx : (wr.alloc (Obj.cells #[.int .u8 (q.kind.toNat : Nat), .string ⟨q.text.toArray⟩, .int .i64 q.lo, .int .i64 q.hi] 25)).heap[wr.heap.size]? = some (Obj.cells #[.int .u8 (q.kind.toNat : Nat), .string ⟨q.text.toArray⟩, .int .i64 q.lo, .int .i64 q.hi] 25) := heap_alloc_new wr _
            generalize wr.alloc (Obj.cells #[.int .u8 (q.kind.toNat : Nat), .string ⟨q.text.toArray⟩, .int .i64 q.lo, .int .i64 q.hi] 25) = w2 at hib2 hbb2 hbx ⊢
            have hz2 := hbb2.size
            have HIB2 := Lib.hid hib2; have HBB2 := Lib.hid hbb2; have HBX := Lib.hid hbx
            clear hib2 hbb2 hbx
            refine (wr_byte w.heap.size w.heap.size _ 32 w2 HIB2.out (by have := HLE.out; omega) hz2).mono ?_; rintro e w3 ⟨rfl, hib3, hb3, hok3⟩
            have hbb3 := HBB2.out.trans hb3
            have hbx3 := hok3 _ _ HBX.out (fun e => by have h := Option.some.inj e; have := HLT.out; omega) (by intro c fz e; cases e)
            have hz3 := hbb3.size
            clear hb3 hok3 hz2 HIB2 HBB2 HBX
            have HIB3 := Lib.hid hib3; have HBB3 := Lib.hid hbb3
            have c0 : w3.cell? ⟨wr.heap.size, 0, none⟩ = some (.int .u8 (q.kind.toNat : Nat)) := by simp [World.cell?, hbx3]
            have c1 : w3.cell? ⟨wr.heap.size, 1, none⟩ = some (.string ⟨q.text.toArray⟩) := by simp [World.cell?, hbx3]
            clear hib3 hbb3 hbx3
            go_wp2_with fail
            have HTE := Lib.hid (show fieldT q = q.text by unfold fieldT; rw [if_neg HKD.out.1, if_neg HKD.out.2])
            refine (wr_string w.heap.size w.heap.size _ ⟨q.text.toArray⟩ w3 HIB3.out (by rw [str_size]; have := HLE.out; have := HFL.out; rw [HTE.out] at this; (try simp only [List.length_append, List.length_cons, List.length_nil]); omega) hz3).mono ?_; rintro e w6 ⟨rfl, hib6, hb6⟩
            have HIB6 := Lib.hid hib6; have HBB6 := Lib.hid (HBB3.out.trans hb6)
            clear hib6 hb6
            go_wp2_with fail
            go_roundg (n - (k + 1))
            case measure => have := HG.out; omega
            case rel =>
              refine ⟨k + 1, by go_num, by omega, rfl, ?_, HBB6.out⟩
              have := HIB6.out
              rw [HSN.out, HKE.out]
              rw [HTE.out]; simpa [bytes] using this
      · obtain rfl : k = 0 := by omega
        simp only [Nat.zero_mul, Nat.add_zero] at a0 a1 a2 a3
        have HKE := Lib.hid (show (if T.take 0 = [] then ([] : Bs) else [32]) = [] by rw [if_pos (by simp)])
        by_cases h1 : q.kind = 113
        · have HKD := Lib.hid (show (if q.kind = 113 then quoted 34 q.text else if q.kind = 115 then quoted 39 q.text else q.text) = quoted 34 q.text by rw [if_pos h1])
          have hk1 : ((q.kind.toNat : Int) == 113) = true := by rw [h1]; rfl
          clear h1
          go_wp2_with fail
          have hib2 := HIB.out.alloc (Obj.cells #[.int .u8 (q.kind.toNat : Nat), .string ⟨q.text.toArray⟩, .int .i64 q.lo, .int .i64 q.hi] 25)
          have hbb2 := HBB.out.alloc HBB.out.size (Obj.cells #[.int .u8 (q.kind.toNat : Nat), .string ⟨q.text.toArray⟩, .int .i64 q.lo, .int .i64 q.hi] 25)
          have hbx : (wr.alloc (Obj.cells #[.int .u8 (q.kind.toNat : Nat), .string ⟨q.text.toArray⟩, .int .i64 q.lo, .int .i64 q.hi] 25)).heap[wr.heap.size]? = some (Obj.cells #[.int .u8 (q.kind.toNat : Nat), .string ⟨q.text.toArray⟩, .int .i64 q.lo, .int .i64 q.hi] 25) := heap_alloc_new wr _
          generalize wr.alloc (Obj.cells #[.int .u8 (q.kind.toNat : Nat), .string ⟨q.text.toArray⟩, .int .i64 q.lo, .int .i64 q.hi] 25) = w2 at hib2 hbb2 hbx ⊢
          have hz2 := hbb2.size
          have HIB3 := Lib.hid hib2; have HBB3 := Lib.hid hbb2
          clear hib2 hbb2 hbx
          have HM3 := Lib.hid ((HBB3.out.cell (p := ⟨2, 0, none⟩) HW0.out).trans HM.out)
          refine (HQ.out 34 q.text w2 (by omega) HM3.out).mono ?_; rintro e w4 ⟨rfl, hb4⟩
          rw [show 34 :: (doubled 34 (bytes ⟨q.text.toArray⟩) ++ [34]) = fieldT q by unfold fieldT; rw [HKD.out]; simp [bytes, quoted]]
          have HIB4 := Lib.hid (HIB3.out.below hb4)
          have HBB4 := Lib.hid (HBB3.out.step hb4 HBB3.out.size)
          have hz4 := HBB4.out.size
          clear hb4 HIB3 HBB3 HM3
          go_wp2_with fail
          refine (wr_string w.heap.size w.heap.size _ ⟨(fieldT q).toArray⟩ w4 HIB4.out (by rw [str_size]; have := HLE.out; have := HFL.out; (try simp only [List.length_append, List.length_cons, List.length_nil]); omega) hz4).mono ?_; rintro e w6 ⟨rfl, hib6, hb6⟩
          have HIB6 := Lib.hid hib6; have HBB6 := Lib.hid (HBB4.out.trans hb6)
          clear hib6 hb6
          go_wp2_with fail
          go_roundg (n - (0 + 1))
          case measure => have := HG.out; omega
          case rel =>
            refine ⟨0 + 1, by go_num, by omega, rfl, ?_, HBB6.out⟩
            have := HIB6.out
            rw [HSN.out, HKE.out]
            simpa [bytes] using this
        · have hk1 : ((q.kind.toNat : Int) == 113) = false := by
            rw [beq_eq_false_iff_ne]; intro e; exact h1 (UInt8.toNat_inj.1 (show q.kind.toNat = (113 : UInt8).toNat from by have : ((113 : UInt8).toNat : Int) = 113 := rfl; omega))
          by_cases h2 : q.kind = 115
          · have HKD := Lib.hid (show (if q.kind = 113 then quoted 34 q.text else if q.kind = 115 then quoted 39 q.text else q.text) = quoted 39 q.text by rw [if_neg h1, if_pos h2])
            have hk2 : ((q.kind.toNat : Int) == 115) = true := by rw [h2]; rfl
            clear h1 h2
            go_wp2_with fail
            have hib2 := HIB.out.alloc (Obj.cells #[.int .u8 (q.kind.toNat : Nat), .string ⟨q.text.toArray⟩, .int .i64 q.lo, .int .i64 q.hi] 25)
            have hbb2 := HBB.out.alloc HBB.out.size (Obj.cells #[.int .u8 (q.kind.toNat : Nat), .string ⟨q.text.toArray⟩, .int .i64 q.lo, .int .i64 q.hi] 25)
            have hbx : (wr.alloc (Obj.cells #[.int .u8 (q.kind.toNat : Nat), .string ⟨q.text.toArray⟩, .int .i64 q.lo, .int .i64 q.hi] 25)).heap[wr.heap.size]? = some (Obj.cells #[.int .u8 (q.kind.toNat : Nat), .string ⟨q.text.toArray⟩, .int .i64 q.lo, .int .i64 q.hi] 25) := heap_alloc_new wr _
            generalize wr.alloc (Obj.cells #[.int .u8 (q.kind.toNat : Nat), .string ⟨q.text.toArray⟩, .int .i64 q.lo, .int .i64 q.hi] 25) = w2 at hib2 hbb2 hbx ⊢
            have hz2 := hbb2.size
            have HIB3 := Lib.hid hib2; have HBB3 := Lib.hid hbb2
            clear hib2 hbb2 hbx
            have HM3 := Lib.hid ((HBB3.out.cell (p := ⟨2, 0, none⟩) HW0.out).trans HM.out)
            refine (HQ.out 39 q.text w2 (by omega) HM3.out).mono ?_; rintro e w4 ⟨rfl, hb4⟩
            rw [show 39 :: (doubled 39 (bytes ⟨q.text.toArray⟩) ++ [39]) = fieldT q by unfold fieldT; rw [HKD.out]; simp [bytes, quoted]]
            have HIB4 := Lib.hid (HIB3.out.below hb4)
            have HBB4 := Lib.hid (HBB3.out.step hb4 HBB3.out.size)
            have hz4 := HBB4.out.size
            clear hb4 HIB3 HBB3 HM3
            go_wp2_with fail
            refine (wr_string w.heap.size w.heap.size _ ⟨(fieldT q).toArray⟩ w4 HIB4.out (by rw [str_size]; have := HLE.out; have := HFL.out; (try simp only [List.length_append, List.length_cons, List.length_nil]); omega) hz4).mono ?_; rintro e w6 ⟨rfl, hib6, hb6⟩
            have HIB6 := Lib.hid hib6; have HBB6 := Lib.hid (HBB4.out.trans hb6)
            clear hib6 hb6
            go_wp2_with fail
            go_roundg (n - (0 + 1))
            case measure => have := HG.out; omega
            case rel =>
              refine ⟨0 + 1, by go_num, by omega, rfl, ?_, HBB6.out⟩
              have := HIB6.out
              rw [HSN.out, HKE.out]
              simpa [bytes] using this
          · have HKD := Lib.hid (And.intro h1 h2)
            have hk2 : ((q.kind.toNat : Int) == 115) = false := by
              rw [beq_eq_false_iff_ne]; intro e; exact h2 (UInt8.toNat_inj.1 (show q.kind.toNat = (115 : UInt8).toNat from by have : ((115 : UInt8).toNat : Int) = 115 := rfl; omega))
            clear h1 h2
            go_wp2_with fail
            have hib2 := HIB.out.alloc (Obj.cells #[.int .u8 (q.kind.toNat : Nat), .string ⟨q.text.toArray⟩, .int .i64 q.lo, .int .i64 q.hi] 25)
            have hbb2 := HBB.out.alloc HBB.out.size (Obj.cells #[.int .u8 (q.kind.toNat : Nat), .string ⟨q.text.toArray⟩, .int .i64 q.lo, .int .i64 q.hi] 25)
            have hbx : (wr.alloc (Obj.cells #[.int .u8 (q.kind.toNat : Nat), .string ⟨q.text.toArray⟩, .int .i64 q.lo, .int .i64 q.hi] 25)).heap[wr.heap.size]? = some (Obj.cells #[.int .u8 (q.kind.toNat : Nat), .string ⟨q.text.toArray⟩, .int .i64 q.lo, .int .i64 q.hi] 25) := heap_alloc_new wr _
            generalize wr.alloc (Obj.cells #[.int .u8 (q.kind.toNat : Nat), .string ⟨q.text.toArray⟩, .int .i64 q.lo, .int .i64 q.hi] 25) = w2 at hib2 hbb2 hbx ⊢
            have hz2 := hbb2.size
            have HIB3 := Lib.hid hib2; have HBB3 := Lib.hid hbb2
            clear hib2 hbb2 hbx
            have HTE := Lib.hid (show fieldT q = q.text by unfold fieldT; rw [if_neg HKD.out.1, if_neg HKD.out.2])
            refine (wr_string w.heap.size w.heap.size _ ⟨q.text.toArray⟩ w2 HIB3.out (by rw [str_size]; have := HLE.out; have := HFL.out; rw [HTE.out] at this; (try simp only [List.length_append, List.length_cons, List.length_nil]); omega) hz2).mono ?_; rintro e w6 ⟨rfl, hib6, hb6⟩
            have HIB6 := Lib.hid hib6; have HBB6 := Lib.hid (HBB3.out.trans hb6)
            clear hib6 hb6
            go_wp2_with fail
            go_roundg (n - (0 + 1))
            case measure => have := HG.out; omega
            case rel =>
              refine ⟨0 + 1, by go_num, by omega, rfl, ?_, HBB6.out⟩
              have := HIB6.out
              rw [HSN.out, HKE.out]
              rw [HTE.out]; simpa [bytes] using this
    · obtain rfl : k = n := by omega
      have HE := Lib.hid (show fieldsB (T.take k) = fieldsB T by rw [List.take_of_length_le (by rw [HL.out]; exact Nat.le_refl _)])
      have hz := HBB.out.size
      go_wp2_with fail
      refine (str_of w.heap.size w.heap.size _ wr HIB.out hz).mono ?_; rintro e w5 ⟨rfl, hb5⟩
      rw [HE.out]
      have HB5 := Lib.hid (HBB.out.trans hb5)
      clear hb5
      go_wp2_with fail
      go_ret
      exact ⟨rfl, HB5.out⟩
end Go.Proofs.YtgopajddloeclaaDoor
