/- Contracts and mathematics: KFeedB. -/
import Derived.Test.YtmofnkinclckoaaGreatDoorZ22
namespace Go.Proofs.YtmofnkinclckoaaGreatDoor
open Go.RowKit Go.Lib Go.WideShapes

/-- What Feed leaves. -/
def FedF (p q : Nat) (v : Value) (s x : ByteArray) (b : Bool) (w : World) (e : Ending) (w' : World) : Prop := ∃ tv L st v', e = .returned tv ∧ KTold (s ++ x) b L st ∧ EvRow w' w.heap.size tv L ∧ FSt w' p q v' st ∧ TurnedF w w' p q v.ownBlock ∧ (∀ k, v'.ownBlock = some k → v.ownBlock = some k ∨ w.heap.size ≤ k)
/-- How much is to be done: the bytes that are left, while the front goes on. -/
def meas (p q : Nat) (w : World) : Nat := match w.cell? ⟨p, 0, none⟩ with
  | some (.pointer (some _)) => (match w.cell? ⟨q, 0, none⟩ with
    | some (.slice _ n _) => n + 1
    | _ => 0)
  | _ => 0
theorem meas_on {w : World} {p q : Nat} {v : Value} {s : ByteArray} {b : Bool} (h : FIs w p q v s b) : meas p q w = s.size + 1 := by
  obtain ⟨a, c, rfl⟩ := h.rd.own.form
  unfold meas
  rw [h.cell.cell.1, h.rd.cell.1]
theorem meas_over {w : World} {p q : Nat} {b : Bool} (h : FCell w p (.pointer none) b) : meas p q w = 0 := by
  unfold meas
  rw [h.cell.1]
theorem frameR_lt {s : ByteArray} {b : Bool} (h : frameE s (!b) = 0) : (frameR s b).size < s.size := by
  have g := good_frame h
  have h5 := headN_ge (!b)
  have h6 : 4 ≤ frameN s (!b) := by unfold frameN; omega
  unfold frameR
  rw [ByteArray.size_extract]
  omega
theorem KRun.size {s s' : ByteArray} {b b' : Bool} {L : List Ev} (h : KRun s b L s' b') : L.length + s'.size ≤ s.size := by
  induction h with
  | nil => simp
  | snoc hr h hf ih =>
    have := frameR_lt h
    rw [List.length_append, List.length_singleton]
    omega
theorem FIs.turned {w w' : World} {p q : Nat} {v v' : Value} {s s' : ByteArray} {b b' : Bool} (h : FIs w p q v s b) (ht : Turned w w' q none) (hr : RIs w' q v' s' (!b') 0) (hc : b' = b) (hv : ∀ k, v'.ownBlock = some k → v.ownBlock = some k) : FIs w' p q v' s' b' := by
  subst hc
  exact ⟨h.cell.same (ht.block p h.cell.lt h.ne (by simp)), hr, h.ne, fun e => h.row (hv p e.symm).symm⟩
theorem FIs.grown {w w' : World} {p q : Nat} {v : Value} {s : ByteArray} {b : Bool} (h : FIs w p q v s b) (hb : Below w.heap.size w w') : FIs w' p q v s b :=
  ⟨h.cell.same (hb.block p h.cell.lt), h.rd.grown hb, h.ne, h.row⟩
theorem rIs_flag {w w' : World} {p q : Nat} {v : Value} {s : ByteArray} {b : Bool} {e : Int} (h : RIs w q v s b e) (ht : Turned w w' p none) (hp : p ≠ q) (hr : some p ≠ v.ownBlock) : RIs w' q v s b e :=
  ⟨(ht.block q h.lt (fun e => hp e.symm) (by simp)).trans h.heap, h.own.kept (fun k hk => ht.block k (h.own.lt k hk) (fun e => hr (by rw [hk, e])) (by simp))⟩
theorem frameB_le {s : ByteArray} {b : Bool} (h : frameE s (!b) = 0) : (frameB s (!b)).size ≤ 10000 := by
  have g := good_frame h
  unfold frameB
  rw [ByteArray.size_extract]
  have h5 := headN_ge (!b)
  unfold frameN at *
  omega

set_option maxRecDepth 100000 in
set_option maxHeartbeats 16000000 in
theorem feedF_any (p q : Nat) (v : Value) (s x : ByteArray) (b : Bool) (w : World) (h : FIs w p q v s b) (hx : s.size + x.size ≤ 1000000000) :
    Calls Tryz.prog 6 #[.pointer (some ⟨p, 0, none⟩), .string x] w (FedF p q v s x b w) := by
  obtain ⟨iv, hiv, z0, z1, z2⟩ := info_parts info_event
  have HOV := Lib.hid (over_no p q b w h.cell)
  have HFD := Lib.hid (feed_any q v s x (!b) w h.rd (by omega))
  have HF := Lib.hid h
  obtain ⟨c0, c1⟩ := h.cell.cell
  have hpw := h.cell.lt
  have hqw := h.rd.lt
  clear h
  go_enter Tryz.func6, Tryz.ntmps6
  go_wp2_with fail
  refine HOV.out.mono ?_; rintro e w0 ⟨rfl, rfl⟩
  go_wp2_with fail
  refine HFD.out.mono ?_; rintro e w1 ⟨rfl, v1, hR1, hT1, hv1⟩
  have HF1 := Lib.hid (show FIs w1 p q v1 (s ++ x) b from ⟨HF.out.cell.same (hT1.block p hpw HF.out.ne HF.out.row), hR1, HF.out.ne, fun e => by
    rcases hv1 p e.symm with hh | hh
    · exact HF.out.row hh.symm
    · omega⟩)
  have HT1 := Lib.hid (TurnedF.one (p := p) hT1)
  have HV1 := Lib.hid hv1
  have HS1 := Lib.hid hT1.size
  clear hR1 hT1 hv1 HOV HFD c0 c1
  go_wp2_with fail
  go_loopw [5] (fun tv wr => ∃ L, EvRow wr w1.heap.size tv L ∧ TurnedF w wr p q v.ownBlock ∧ w1.heap.size ≤ wr.heap.size ∧ ((∃ s' b' v', FIs wr p q v' s' b' ∧ KRun (s ++ x) b L s' b' ∧ (∀ k, v'.ownBlock = some k → v1.ownBlock = some k)) ∨ ((∃ b', FCell wr p (.pointer none) b') ∧ KTold (s ++ x) b L none))) (fun _ wr => meas p q wr)
  case atStart => exact ⟨[], EvRow.nil _ _, HT1.out, Nat.le_refl _, .inl ⟨_, _, _, HF1.out, KRun.nil, fun k hk => hk⟩⟩
  case round =>
    obtain ⟨L, hL, hT, hsz, hst⟩ := hrel
    obtain ⟨ta, tc, rfl⟩ : ∃ ta tc, u5 = .slice ta L.length tc := by obtain ⟨xs, hO, _⟩ := hL; exact ownsRow_form hO
    have HL := Lib.hid hL; have HT := Lib.hid hT; have HSZ := Lib.hid hsz
    clear hL hT hsz
    rcases hst with ⟨s', b', v', hF, hK, hv'⟩ | ⟨⟨b', hF⟩, hK⟩
    · have HF2 := Lib.hid hF; have HK := Lib.hid hK; have HV' := Lib.hid hv'
      have HOV := Lib.hid (over_no p q b' wr hF.cell)
      obtain ⟨c0, c1⟩ := hF.cell.cell
      have hll := hK.size
      rw [ByteArray.size_append] at hll
      clear hF hK hv'
      go_wp2_with fail
      refine HOV.out.mono ?_; rintro e w0 ⟨rfl, rfl⟩
      clear HOV
      by_cases h4 : frameE s' (!b') = 4
      · have HN := Lib.hid (next_more q v' s' (!b') wr HF2.out.rd h4)
        go_wp2_with fail
        refine HN.out.mono ?_; rintro e w3 ⟨rfl, hb3⟩
        have HB3 := Lib.hid hb3
        have HKT := Lib.hid (HK.out.told (KTold.more h4))
        clear hb3 HN h4
        go_wp2_with fail
        go_ret
        have hb9 : Below wr.heap.size wr (w3.alloc (.cells #[.int .u8 0, .string { data := #[] }] 50)) := HB3.out.alloc HB3.out.size _
        have hw1 := HS1.out
        have hw2 := HSZ.out
        refine ⟨_, L, some (s', b'), v', rfl, by have := HKT.out; rw [List.append_nil] at this; exact this, (HL.out.keep hb9.size (fun k _ hk => hb9.block k hk)).base hw1, (show FIs _ p q v' s' b' from HF2.out.grown hb9), HT.out.b (hb9.mono (by omega)), fun k hk => HV1.out k (HV'.out k hk)⟩
      · have HNE := Lib.hid (show (frameE s' (!b') == 4) = false from by simpa using h4)
        by_cases h0 : frameE s' (!b') = 0
        · have hcn := frameC_nat s' b'
          have HN := Lib.hid (show Calls Tryz.prog 15 #[.pointer (some ⟨q, 0, none⟩)] wr (fun e w' => e = .returned (.tuple #[.agg #[.int .u8 ((frameC s' b').toNat : Nat), .string (frameB s' (!b'))], .int .i64 0]) ∧ Nexted q v' (frameR s' b') false 0 wr w') from by rw [hcn]; exact next_good q v' s' (!b') wr HF2.out.rd h0)
          have hbl := frameB_le h0
          have hlt := frameR_lt h0
          have HDE := Lib.hid (fun W => (show Calls Tryz.prog 16 #[.bool false, .agg #[.int .u8 ((frameC s' b').toNat : Nat), .string (frameB s' (!b'))]] W (MsgOut W (frameC s' b') 2 (readD false (frameC s' b') (bytes (frameB s' (!b'))))) from by
            have := decode_any W false (frameC s' b') (bytes (frameB s' (!b'))) (by rw [bytes_len]; omega)
            rw [show (⟨(bytes (frameB s' (!b'))).toArray⟩ : ByteArray) = frameB s' (!b') from by simp [bytes]] at this
            exact this))
          obtain ⟨E, hEE⟩ : ∃ E, E = frameEv s' b' := ⟨_, rfl⟩
          have hEr : E = eventE b' (frameC s' b') (readD false (frameC s' b') (bytes (frameB s' (!b')))) := hEE
          have HOVER := Lib.hid (show fin E = true → KTold (s ++ x) b (L ++ [E]) none from fun h => by
            rw [hEE] at h ⊢
            exact HK.out.told (KTold.last h0 h))
          have HRUN := Lib.hid (show fin E = false → KRun (s ++ x) b (L ++ [E]) (frameR s' b') true from fun h => by
            rw [hEE] at h ⊢
            exact KRun.snoc HK.out h0 h)
          obtain ⟨c, hc⟩ : ∃ c, c = frameC s' b' := ⟨_, rfl⟩
          have hc0 : b' = false → c = 0 := fun h => by rw [hc, h]; rfl
          obtain ⟨fb, hfb⟩ : ∃ z, z = frameB s' (!b') := ⟨_, rfl⟩
          obtain ⟨sr, hsr⟩ : ∃ z, z = frameR s' b' := ⟨_, rfl⟩
          rw [← hsr] at HRUN hlt HN
          rw [← hc, ← hfb] at HDE HN hEr
          rw [← hfb] at hbl
          have HLT5 := Lib.hid hlt
          obtain ⟨ci, hci⟩ : ∃ z : Int, z = (c.toNat : Nat) := ⟨_, rfl⟩
          rw [← hci] at HN
          have HCI := Lib.hid hci; have HER := Lib.hid hEr; have HC0 := Lib.hid hc0; have HBL := Lib.hid hbl
          clear h4 h0 hcn hbl hlt hEE hEr hc hc0 hfb hsr hci HNE
          go_wp2_with fail
          refine HN.out.mono ?_; rintro e w3 ⟨rfl, v3, hR3, hT3, hv3⟩
          have HT3 := Lib.hid (HT.out.q hT3)
          have HC3 := Lib.hid (HF2.out.cell.same (hT3.block p HF2.out.cell.lt HF2.out.ne (by simp)))
          have HL3 := Lib.hid (HL.out.keep hT3.size (fun k hB hk => hT3.block k hk (by have := HS1.out; omega) (by simp)))
          have HS3 := Lib.hid (Nat.le_trans HSZ.out hT3.size)
          have HR3 := Lib.hid hR3; have HV3 := Lib.hid hv3; have HSZ3 := Lib.hid hT3.size
          clear hR3 hT3 hv3 HN
          go_wp2_with fail
          have HD1 := Lib.hid (HDE.out (w3.alloc (.cells #[.int .u8 ci, .string fb] 50)))
          rw [← HCI.out] at HD1
          cases hrd : readD false c (bytes fb) with
          | none =>
            rw [hrd] at HD1
            have hEw : E = wrongEv c_bytes := by rw [HER.out, hrd]; rfl
            refine (show Calls _ _ _ _ (fun e w' => e = .returned (.tuple #[.agg #[.int .u8 0, .slice none 0 0, .slice none 0 0], .int .i64 2]) ∧ Below (w3.alloc (.cells #[.int .u8 ci, .string fb] 50)).heap.size (w3.alloc (.cells #[.int .u8 ci, .string fb] 50)) w') from HD1.out).mono ?_; rintro e w4 ⟨rfl, hb4⟩
            have HB4 := Lib.hid (show Below w3.heap.size w3 w4 from ((Below.refl _ _).alloc (Nat.le_refl _) _).step hb4 (by simp))
            clear hb4 hrd HD1 HDE
            go_wp2_with fail
            have hb41 : Below w3.heap.size w3 (w4.alloc (.cells #[.int .u8 0, .slice none 0 0, .slice none 0 0] 54)) := HB4.out.alloc HB4.out.size _
            have HTQ := Lib.hid (HT3.out.b (hb41.mono (by have := HS1.out; have := HS3.out; omega)))
            have HLQ := Lib.hid (HL3.out.keep hb41.size (fun k _ hk => hb41.block k hk))
            have HSQ := Lib.hid (Nat.le_trans HS3.out hb41.size)
            refine (event_wrong p _ _ _ _ _ _ _ (HC3.out.same (hb41.block p HC3.out.lt)) (by decide) (fun g => w1.heap.size ≤ g ∧ some g ≠ (Value.slice ta L.length tc).ownBlock)).mono ?_; rintro e w5 ⟨sl, rfl, hE5, hC5, hT5⟩
            rw [← hEw] at hE5 ⊢
            have HON := Lib.hid (show fin E = false → ∃ v5 s5, RIs w5 q v5 s5 false 0 ∧ (∀ k, v5.ownBlock = some k → v'.ownBlock = some k) ∧ KRun (s ++ x) b (L ++ [E]) s5 true ∧ s5.size < s'.size from fun h => by rw [hEw] at h; cases h)
            clear hb41 hEw
            have HTE := Lib.hid (HTQ.out.p hT5)
            have HLE := Lib.hid (HLQ.out.keep hT5.size (fun k hB hk => hT5.block k hk (by have := HS1.out; omega) (by simp)))
            have HSE := Lib.hid (Nat.le_trans HSQ.out hT5.size)
            have HCE := Lib.hid hC5
            obtain ⟨b5, m5, d5, rfl, hN5, hQ5⟩ := hE5
            have HNE5 := Lib.hid (show EvNums w5 (fun g => w1.heap.size ≤ g ∧ some g ≠ (Value.slice ta L.length tc).ownBlock) E.n (.slice b5 m5 d5) from ⟨b5, m5, d5, rfl, hN5, hQ5⟩)
            obtain ⟨ke, hke⟩ : ∃ z : Int, z = (E.k.toNat : Nat) := ⟨_, rfl⟩
            have hkr : 0 ≤ ke ∧ ke < 256 := by have := UInt8.toNat_lt E.k; omega
            rw [show evV E (.slice b5 m5 d5) = .agg #[.int .u8 ke, .string ⟨E.u.toArray⟩, .string ⟨E.d.toArray⟩, .string ⟨E.t.toArray⟩, .slice b5 m5 d5] from by rw [hke]]
            obtain ⟨ub, hub⟩ : ∃ z : ByteArray, z = ⟨E.u.toArray⟩ := ⟨_, rfl⟩
            obtain ⟨db, hdb⟩ : ∃ z : ByteArray, z = ⟨E.d.toArray⟩ := ⟨_, rfl⟩
            obtain ⟨tb, htb⟩ : ∃ z : ByteArray, z = ⟨E.t.toArray⟩ := ⟨_, rfl⟩
            rw [← hub, ← hdb, ← htb]
            have HUB := Lib.hid hub; have HDB := Lib.hid hdb; have HTB := Lib.hid htb; have HKE := Lib.hid hke
            clear hT5 hC5 hN5 hQ5 hub hdb htb hke
            go_upto_region 11 with (fail)
            obtain ⟨w6, hw6⟩ : ∃ z, z = w5.alloc (.cells #[.int .u8 ke, .string ub, .string db, .string tb, .slice b5 m5 d5] 38) := ⟨_, rfl⟩
            rw [← hw6]
            have HB6 := Lib.hid (show Below w5.heap.size w5 w6 by rw [hw6]; exact (Below.refl _ _).alloc (Nat.le_refl _) _)
            have HZ6 := Lib.hid (show w6.heap.size = w5.heap.size + 1 by rw [hw6]; simp)
            have m6 : w6.cell? ⟨w5.heap.size, 0, none⟩ = some (.int .u8 ke) ∧ w6.cell? ⟨w5.heap.size, 1, none⟩ = some (.string ub) ∧ w6.cell? ⟨w5.heap.size, 2, none⟩ = some (.string db) ∧ w6.cell? ⟨w5.heap.size, 3, none⟩ = some (.string tb) ∧ w6.cell? ⟨w5.heap.size, 4, none⟩ = some (.slice b5 m5 d5) := by rw [hw6]; simp [go_sem]
            obtain ⟨m0, m1, m2, m3, m4⟩ := m6
            clear hw6
            go_cut [57] (fun r wx => r = .bool (fin E) ∧ wx = w6)
            case first =>
              have hfin : fin E = (decide (ke = 120) || decide (ke = 99) || decide (ke = 101)) := by
                rw [HKE.out]
                unfold fin
                have h : ∀ c : UInt8, (E.k == c) = decide ((E.k.toNat : Int) = (c.toNat : Nat)) := fun c => by
                  by_cases e : E.k = c
                  · rw [e]; simp
                  · rw [decide_eq_false (fun e9 => e (UInt8.toNat_inj.1 (by omega)))]; simpa using e
                rw [h, h, h]; rfl
              by_cases e1 : ke = 120
              · have d1 : (ke == 120) = true := by simpa using e1
                have hf1 : fin E = true := by rw [hfin, decide_eq_true e1]; rfl
                clear hfin e1
                go_wp2_with fail
                go_meet
                exact ⟨by rw [hf1], rfl⟩
              · have d1 : (ke == 120) = false := by simpa using e1
                by_cases e2 : ke = 99
                · have d2 : (ke == 99) = true := by simpa using e2
                  have hf1 : fin E = true := by rw [hfin, decide_eq_true e2]; simp
                  clear hfin e1 e2
                  go_wp2_with fail
                  go_meet
                  exact ⟨by rw [hf1], rfl⟩
                · have d2 : (ke == 99) = false := by simpa using e2
                  by_cases e3 : ke = 101
                  · have d3 : (ke == 101) = true := by simpa using e3
                    have hf1 : fin E = true := by rw [hfin, decide_eq_true e3]; simp
                    clear hfin e1 e2 e3
                    go_wp2_with fail
                    go_meet
                    exact ⟨by rw [hf1], rfl⟩
                  · have d3 : (ke == 101) = false := by simpa using e3
                    have hf1 : fin E = false := by rw [hfin, decide_eq_false e1, decide_eq_false e2, decide_eq_false e3]; rfl
                    clear hfin e1 e2 e3
                    go_wp2_with fail
                    go_meet
                    exact ⟨by rw [hf1], rfl⟩
            case rest =>
              obtain ⟨rfl, hwc⟩ := hcut
              subst hwc
              have hp6 : p < w5.heap.size := by have := HS1.out; have := HSE.out; omega
              have HC6 := Lib.hid (HCE.out.same (HB6.out.block p hp6))
              have HT6 := Lib.hid (HTE.out.b (HB6.out.mono (by have := HS1.out; have := HSE.out; omega)))
              have HL6 := Lib.hid (HLE.out.keep HB6.out.size (fun k _ hk => HB6.out.block k hk))
              have HS6 := Lib.hid (Nat.le_trans HSE.out HB6.out.size)
              have HNE6 := Lib.hid (HNE5.out.keep HB6.out.size (fun k _ hk => HB6.out.block k hk))
              by_cases hf : fin E = true
              · rw [hf]
                obtain ⟨n0, n1⟩ := HC6.out.cell
                have nf := HC6.out.frozen 0
                have hne5 : p ≠ w5.heap.size := by omega
                go_upto_region 13 with (fail)
                obtain ⟨w7, hw7⟩ : ∃ z, z = wc.setCell ⟨p, 0, none⟩ (.pointer none) := ⟨_, rfl⟩
                rw [← hw7]
                have hk7 : ∀ k, k ≠ p → w7.heap[k]? = wc.heap[k]? := fun k hk => by rw [hw7]; exact Below.heap_setCell _ _ _ _ hk
                have hz7 : w7.heap.size = wc.heap.size := by rw [hw7, World.size_setCell]
                have HC7 := Lib.hid (show FCell w7 p (.pointer none) true from by rw [hw7]; exact HC6.out.end _)
                have HT67 : Turned wc w7 p none := ⟨by rw [hw7]; rfl, by rw [hw7]; rfl, by rw [hw7]; rfl, by omega, fun k _ hk _ => hk7 k hk⟩
                have HT7 := Lib.hid (HT6.out.p HT67)
                have HL7 := Lib.hid (HL6.out.keep HT67.size (fun k hB hk => hk7 k (by have := HS1.out; omega)))
                have HS7 := Lib.hid (Nat.le_trans HS6.out HT67.size)
                have HNE7 := Lib.hid (HNE6.out.keep HT67.size (fun k hB hk => hk7 k (by have := HS1.out; omega)))
                have m7 : w7.cell? ⟨w5.heap.size, 0, none⟩ = some (.int .u8 ke) ∧ w7.cell? ⟨w5.heap.size, 1, none⟩ = some (.string ub) ∧ w7.cell? ⟨w5.heap.size, 2, none⟩ = some (.string db) ∧ w7.cell? ⟨w5.heap.size, 3, none⟩ = some (.string tb) ∧ w7.cell? ⟨w5.heap.size, 4, none⟩ = some (.slice b5 m5 d5) := by
                  have h : ∀ i, w7.cell? ⟨w5.heap.size, i, none⟩ = wc.cell? ⟨w5.heap.size, i, none⟩ := fun i => World.cell?_of_block (a := ⟨w5.heap.size, i, none⟩) (hk7 _ (fun e => hne5 e.symm))
                  exact ⟨(h 0).trans m0, (h 1).trans m1, (h 2).trans m2, (h 3).trans m3, (h 4).trans m4⟩
                clear m0 m1 m2 m3 m4 n0 n1 nf hw7 hk7 hz7 HT67
                obtain ⟨m0, m1, m2, m3, m4⟩ := m7
                obtain ⟨xs, hO, hX⟩ := HL7.out
                have HX := Lib.hid hX
                have HO := Lib.hid hO
                have hlt9 := hO.lt
                have HLT := Lib.hid hlt9
                clear hX hO hlt9
                go_wp2_with (at_builtin; refine wpList_append_at _ rfl (.tmp 61) (.tmp 63) 29 rfl w1.heap.size 38 iv (.agg #[.int .u8 0, .string { data := #[] }, .string { data := #[] }, .string { data := #[] }, .slice none 0 0]) 5 80 Tryz.underlying29 hiv z0 z1 z2 rfl (by decide) (.slice ta L.length tc) L.length xs rfl (HO.out.alloc _) ⟨w7.heap.size, 0, none⟩ 1 1 [.int .u8 ke, .string ub, .string db, .string tb, .slice b5 m5 d5] rfl rfl (five_cells _ _ _ _ _ _ _) (by simp [Value.oneCell']) (by unfold maxLen; omega) (by omega) (by rw [World.size_alloc]; have := HS7.out; omega) ?_)
                intro v8 w8 hO8 hg8 hf8
                have hB78 : Below w7.heap.size w7 (w7.alloc (.cells #[.int .u8 ke, .string ub, .string db, .string tb, .slice b5 m5 d5] 38)) := (Below.refl _ _).alloc (Nat.le_refl _) _
                have HE8 := Lib.hid (show EvRow w8 w1.heap.size v8 (L ++ [E]) from EvRow.put (w := w7.alloc (.cells #[.int .u8 ke, .string ub, .string db, .string tb, .slice b5 m5 d5] 38)) (fun i F hi => by
                  obtain ⟨sl, c0, c1, c2, c3, c4, c5⟩ := HX.out i F hi
                  exact ⟨sl, c0, c1, c2, c3, c4, c5.keep hB78.size (fun k _ hk => hB78.block k hk)⟩) HO.out.1 (sl := .slice b5 m5 d5) (by rw [← HKE.out, ← HUB.out, ← HDB.out, ← HTB.out]; exact hO8) (HNE7.out.keep hB78.size (fun k _ hk => hB78.block k hk)) hg8 (fun k hk => (hf8 k hk).imp id (fun h => by rw [World.size_alloc]; exact h)))
                have hrow : ∀ k, (Value.slice ta L.length tc).ownBlock = some k → w1.heap.size ≤ k := fun k hk => (HLT.out k hk).1
                have HB8 := Lib.hid (show ∀ k, k < w7.heap.size → some k ≠ (Value.slice ta L.length tc).ownBlock → w8.heap[k]? = w7.heap[k]? from fun k hk hn => (hg8.block k (Nat.lt_of_lt_of_le hk hB78.size) hn).trans (hB78.block k hk))
                have HT8 := Lib.hid (show TurnedF w w8 p q v.ownBlock from ⟨hg8.os.trans HT7.out.os, hg8.tape.trans HT7.out.tape, hg8.output.trans HT7.out.output, Nat.le_trans HT7.out.size (Nat.le_trans hB78.size hg8.size), fun k hk hp hq hr => (HB8.out k (Nat.lt_of_lt_of_le hk HT7.out.size) (fun e => by have := hrow k e.symm; have := HS1.out; omega)).trans (HT7.out.block k hk hp hq hr)⟩)
                have HS8 := Lib.hid (show w1.heap.size ≤ w8.heap.size from Nat.le_trans HS7.out (Nat.le_trans hB78.size hg8.size))
                have hp8 : w8.heap[p]? = w7.heap[p]? := HB8.out p (by have := HS7.out; have := HS1.out; omega) (fun e => by have := hrow p e.symm; have := HS1.out; omega)
                have HC8 := Lib.hid (HC7.out.same hp8)
                have HME := Lib.hid (meas_on HF2.out)
                have HKO := Lib.hid (HOVER.out hf)
                obtain ⟨va, vc, hv8⟩ : ∃ va vc, v8 = .slice va (L.length + 1) vc := ownsRow_form hO8
                subst hv8
                clear hB78 hO8 hg8 hf8 hrow hp8 m0 m1 m2 m3 m4
                go_wp2_with fail
                go_roundw
                case measure => rw [HME.out, meas_over HC8.out]; omega
                case rel => exact ⟨L ++ [E], HE8.out, HT8.out, HS8.out, .inr ⟨⟨_, HC8.out⟩, HKO.out⟩⟩
              · have hf2 : fin E = false := by simpa using hf
                rw [hf2]
                obtain ⟨v5, s5, hR5, hs5, hK5, hl5⟩ := HON.out hf2
                have HR5 := Lib.hid hR5; have HV5 := Lib.hid hs5; have HK5 := Lib.hid hK5; have HL5 := Lib.hid hl5
                clear hR5 hs5 hK5 hl5 hf
                have HT7 := HT6; have HL7 := HL6; have HS7 := HS6; have HNE7 := HNE6
                obtain ⟨xs, hO, hX⟩ := HL7.out
                have HX := Lib.hid hX
                have HO := Lib.hid hO
                have hlt9 := hO.lt
                have HLT := Lib.hid hlt9
                clear hX hO hlt9
                go_wp2_with (at_builtin; refine wpList_append_at _ rfl (.tmp 61) (.tmp 63) 29 rfl w1.heap.size 38 iv (.agg #[.int .u8 0, .string { data := #[] }, .string { data := #[] }, .string { data := #[] }, .slice none 0 0]) 5 80 Tryz.underlying29 hiv z0 z1 z2 rfl (by decide) (.slice ta L.length tc) L.length xs rfl (HO.out.alloc _) ⟨wc.heap.size, 0, none⟩ 1 1 [.int .u8 ke, .string ub, .string db, .string tb, .slice b5 m5 d5] rfl rfl (five_cells _ _ _ _ _ _ _) (by simp [Value.oneCell']) (by unfold maxLen; omega) (by omega) (by rw [World.size_alloc]; have := HS7.out; omega) ?_)
                intro v8 w8 hO8 hg8 hf8
                have hB78 : Below wc.heap.size wc (wc.alloc (.cells #[.int .u8 ke, .string ub, .string db, .string tb, .slice b5 m5 d5] 38)) := (Below.refl _ _).alloc (Nat.le_refl _) _
                have HE8 := Lib.hid (show EvRow w8 w1.heap.size v8 (L ++ [E]) from EvRow.put (w := wc.alloc (.cells #[.int .u8 ke, .string ub, .string db, .string tb, .slice b5 m5 d5] 38)) (fun i F hi => by
                  obtain ⟨sl, c0, c1, c2, c3, c4, c5⟩ := HX.out i F hi
                  exact ⟨sl, c0, c1, c2, c3, c4, c5.keep hB78.size (fun k _ hk => hB78.block k hk)⟩) HO.out.1 (sl := .slice b5 m5 d5) (by rw [← HKE.out, ← HUB.out, ← HDB.out, ← HTB.out]; exact hO8) (HNE7.out.keep hB78.size (fun k _ hk => hB78.block k hk)) hg8 (fun k hk => (hf8 k hk).imp id (fun h => by rw [World.size_alloc]; exact h)))
                have hrow : ∀ k, (Value.slice ta L.length tc).ownBlock = some k → w1.heap.size ≤ k := fun k hk => (HLT.out k hk).1
                have HB8 := Lib.hid (show ∀ k, k < wc.heap.size → some k ≠ (Value.slice ta L.length tc).ownBlock → w8.heap[k]? = wc.heap[k]? from fun k hk hn => (hg8.block k (Nat.lt_of_lt_of_le hk hB78.size) hn).trans (hB78.block k hk))
                have HT8 := Lib.hid (show TurnedF w w8 p q v.ownBlock from ⟨hg8.os.trans HT7.out.os, hg8.tape.trans HT7.out.tape, hg8.output.trans HT7.out.output, Nat.le_trans HT7.out.size (Nat.le_trans hB78.size hg8.size), fun k hk hp hq hr => (HB8.out k (Nat.lt_of_lt_of_le hk HT7.out.size) (fun e => by have := hrow k e.symm; have := HS1.out; omega)).trans (HT7.out.block k hk hp hq hr)⟩)
                have HS8 := Lib.hid (show w1.heap.size ≤ w8.heap.size from Nat.le_trans HS7.out (Nat.le_trans hB78.size hg8.size))
                have hp8 : w8.heap[p]? = wc.heap[p]? := HB8.out p (by have := HS7.out; have := HS1.out; omega) (fun e => by have := hrow p e.symm; have := HS1.out; omega)
                have hap := rows_apart HO.out (HR5.out.own.kept (fun k hk => HB6.out.block k (HR5.out.own.lt k hk))) (by decide)
                have HR8 := Lib.hid (show RIs w8 q v5 s5 false 0 from ⟨(HB8.out q (by have := HS7.out; have := HS1.out; omega) (fun e => by have := hrow q e.symm; have := HS1.out; omega)).trans ((HB6.out.block q HR5.out.lt).trans HR5.out.heap), HR5.out.own.kept (fun k hk => (HB8.out k (Nat.lt_of_lt_of_le (HR5.out.own.lt k hk) HB6.out.size) (fun e => hap k e.symm hk.symm)).trans (HB6.out.block k (HR5.out.own.lt k hk)))⟩)
                have HF8 := Lib.hid (show FIs w8 p q v5 s5 true from ⟨HC6.out.same hp8, HR8.out, HF2.out.ne, fun e => HF2.out.row (HV5.out p e.symm).symm⟩)
                have HME := Lib.hid (meas_on HF2.out)
                obtain ⟨va, vc, hv8⟩ : ∃ va vc, v8 = .slice va (L.length + 1) vc := ownsRow_form hO8
                subst hv8
                clear hB78 hO8 hg8 hf8 hrow hp8 m0 m1 m2 m3 m4 hap
                go_wp2_with fail
                go_roundw
                case measure => rw [HME.out, meas_on HF8.out]; have := HL5.out; omega
                case rel => exact ⟨L ++ [E], HE8.out, HT8.out, HS8.out, .inl ⟨s5, true, v5, HF8.out, HK5.out, fun k hk => HV'.out k (HV5.out k hk)⟩⟩
          | some r =>
            obtain ⟨T, N⟩ := r
            rw [hrd] at HD1
            have hEw : E = eventE b' c (some (T, N)) := by rw [HER.out, hrd]
            refine (show Calls _ _ _ _ (fun e w' => ∃ tv nv, e = .returned (.tuple #[.agg #[.int .u8 (c.toNat : Nat), tv, nv], .int .i64 0]) ∧ w'.ownsRow (w3.alloc (.cells #[.int .u8 ci, .string fb] 50)).heap.size 9 1 tv T.length (tcells T) ∧ w'.ownsRow (w3.alloc (.cells #[.int .u8 ci, .string fb] 50)).heap.size 3 1 nv N.length (ncells N) ∧ Below (w3.alloc (.cells #[.int .u8 ci, .string fb] 50)).heap.size (w3.alloc (.cells #[.int .u8 ci, .string fb] 50)) w') from HD1.out).mono ?_; rintro e w4 ⟨tv, nv, rfl, hTx, hNx, hb4⟩
            have hTl : T.length ≤ 800000 := by
              have h1 : readL false c (bytes fb) = some (T, N) := by
                have h := hrd
                unfold readD at h
                split at h
                · cases h
                · exact h
              have h2 := (read_bounds h1).2
              rw [bytes_len] at h2
              have := HBL.out
              omega
            have hTi := own_textsIn hTx
            have hNi := own_numsIn hNx
            have hNb : ∀ g off cc, nv = .slice (some ⟨g, off, none⟩) N.length cc → w3.heap.size ≤ g := fun g off cc e => by
              have h9 := (hNx.lt g (by rw [e]; rfl)).1
              rw [World.size_alloc] at h9; omega
            obtain ⟨xa, xc, rfl⟩ := ownsRow_form hTx
            obtain ⟨ya, yc, rfl⟩ := ownsRow_form hNx
            rw [← HCI.out]
            have HB4 := Lib.hid (show Below w3.heap.size w3 w4 from ((Below.refl _ _).alloc (Nat.le_refl _) _).step hb4 (by simp))
            have HRD := Lib.hid hrd; have HTI := Lib.hid hTi; have HNI := Lib.hid hNi; have HNB := Lib.hid hNb; have HTL := Lib.hid hTl
            clear hb4 HD1 HDE hTx hNx hTi hNi hNb hrd hTl
            go_wp2_with fail
            have hb41 : Below w3.heap.size w3 (w4.alloc (.cells #[.int .u8 ci, .slice xa T.length xc, .slice ya N.length yc] 54)) := HB4.out.alloc HB4.out.size _
            have hb44 : Below w4.heap.size w4 (w4.alloc (.cells #[.int .u8 ci, .slice xa T.length xc, .slice ya N.length yc] 54)) := (Below.refl _ _).alloc (Nat.le_refl _) _
            have HTQ := Lib.hid (HT3.out.b (hb41.mono (by have := HS1.out; have := HS3.out; omega)))
            have HLQ := Lib.hid (HL3.out.keep hb41.size (fun k _ hk => hb41.block k hk))
            have HSQ := Lib.hid (Nat.le_trans HS3.out hb41.size)
            have HCQ := Lib.hid (HC3.out.same (hb41.block p HC3.out.lt))
            have HRQ := Lib.hid (HR3.out.grown hb41)
            have HEV := Lib.hid (show Calls Tryz.prog 17 #[.pointer (some ⟨p, 0, none⟩), .agg #[.int .u8 ci, .slice xa T.length xc, .slice ya N.length yc], .int .i64 0] (w4.alloc (.cells #[.int .u8 ci, .slice xa T.length xc, .slice ya N.length yc] 54)) (Evented (w4.alloc (.cells #[.int .u8 ci, .slice xa T.length xc, .slice ya N.length yc] 54)) p (.pointer (some ⟨q, 0, none⟩)) (fun g => w1.heap.size ≤ g ∧ some g ≠ (Value.slice ta L.length tc).ownBlock) E) from by
              rw [HCI.out, hEw]
              have hcq := HCQ.out
              rw [HCI.out] at hcq
              cases hb' : b' with
              | false =>
                rw [hb'] at hcq
                obtain ⟨xx, rr, h1, h2⟩ := read_first (S := bytes fb) (T := T) (N := N) (by rw [← HC0.out hb']; exact HRD.out)
                refine (event_first p _ c _ _ _ _ _ _ T N _ hcq (HTI.out.mono (by rw [← HCI.out]; exact hb44)) (HNI.out.mono (by rw [← HCI.out]; exact hb44)) HTL.out ⟨xx, rr, h1, h2⟩).mono ?_
                rintro e w9 ⟨sl, e1, ⟨b9, m9, d9, e2, e3, e4⟩, e5, e6⟩
                refine ⟨sl, e1, ⟨b9, m9, d9, e2, e3, fun hn g off e => ?_⟩, e5, e6⟩
                obtain ⟨off', e7⟩ := e4 hn g off e
                have h9 := HNB.out g off' yc (by rw [e7])
                refine ⟨Nat.le_trans HS3.out h9, fun e8 => ?_⟩
                have h10 : g < wr.heap.size := by obtain ⟨ys, hO, _⟩ := HL.out; exact (hO.lt g e8.symm).2
                have h11 := HSZ3.out
                omega
              | true =>
                rw [hb'] at hcq
                exact event_later p _ c _ _ _ _ _ _ T _ hcq (HTI.out.mono (by rw [← HCI.out]; exact hb44)) (fun h => read_text h HRD.out) _)
            clear hb44
            refine HEV.out.mono ?_; rintro e w5 ⟨sl, rfl, hE5, hC5, hT5⟩
            have HR5' := Lib.hid (rIs_flag HRQ.out hT5 HF2.out.ne (fun e => HF2.out.row (HV3.out p e.symm).symm))
            have HON := Lib.hid (show fin E = false → ∃ v5 s5, RIs w5 q v5 s5 false 0 ∧ (∀ k, v5.ownBlock = some k → v'.ownBlock = some k) ∧ KRun (s ++ x) b (L ++ [E]) s5 true ∧ s5.size < s'.size from fun h => ⟨v3, sr, HR5'.out, HV3.out, HRUN.out h, HLT5.out⟩)
            clear hb41 hEw HEV
            have HTE := Lib.hid (HTQ.out.p hT5)
            have HLE := Lib.hid (HLQ.out.keep hT5.size (fun k hB hk => hT5.block k hk (by have := HS1.out; omega) (by simp)))
            have HSE := Lib.hid (Nat.le_trans HSQ.out hT5.size)
            have HCE := Lib.hid hC5
            obtain ⟨b5, m5, d5, rfl, hN5, hQ5⟩ := hE5
            have HNE5 := Lib.hid (show EvNums w5 (fun g => w1.heap.size ≤ g ∧ some g ≠ (Value.slice ta L.length tc).ownBlock) E.n (.slice b5 m5 d5) from ⟨b5, m5, d5, rfl, hN5, hQ5⟩)
            obtain ⟨ke, hke⟩ : ∃ z : Int, z = (E.k.toNat : Nat) := ⟨_, rfl⟩
            have hkr : 0 ≤ ke ∧ ke < 256 := by have := UInt8.toNat_lt E.k; omega
            rw [show evV E (.slice b5 m5 d5) = .agg #[.int .u8 ke, .string ⟨E.u.toArray⟩, .string ⟨E.d.toArray⟩, .string ⟨E.t.toArray⟩, .slice b5 m5 d5] from by rw [hke]]
            obtain ⟨ub, hub⟩ : ∃ z : ByteArray, z = ⟨E.u.toArray⟩ := ⟨_, rfl⟩
            obtain ⟨db, hdb⟩ : ∃ z : ByteArray, z = ⟨E.d.toArray⟩ := ⟨_, rfl⟩
            obtain ⟨tb, htb⟩ : ∃ z : ByteArray, z = ⟨E.t.toArray⟩ := ⟨_, rfl⟩
            rw [← hub, ← hdb, ← htb]
            have HUB := Lib.hid hub; have HDB := Lib.hid hdb; have HTB := Lib.hid htb; have HKE := Lib.hid hke
            clear hT5 hC5 hN5 hQ5 hub hdb htb hke
            go_upto_region 11 with (fail)
            obtain ⟨w6, hw6⟩ : ∃ z, z = w5.alloc (.cells #[.int .u8 ke, .string ub, .string db, .string tb, .slice b5 m5 d5] 38) := ⟨_, rfl⟩
            rw [← hw6]
            have HB6 := Lib.hid (show Below w5.heap.size w5 w6 by rw [hw6]; exact (Below.refl _ _).alloc (Nat.le_refl _) _)
            have HZ6 := Lib.hid (show w6.heap.size = w5.heap.size + 1 by rw [hw6]; simp)
            have m6 : w6.cell? ⟨w5.heap.size, 0, none⟩ = some (.int .u8 ke) ∧ w6.cell? ⟨w5.heap.size, 1, none⟩ = some (.string ub) ∧ w6.cell? ⟨w5.heap.size, 2, none⟩ = some (.string db) ∧ w6.cell? ⟨w5.heap.size, 3, none⟩ = some (.string tb) ∧ w6.cell? ⟨w5.heap.size, 4, none⟩ = some (.slice b5 m5 d5) := by rw [hw6]; simp [go_sem]
            obtain ⟨m0, m1, m2, m3, m4⟩ := m6
            clear hw6
            go_cut [57] (fun r wx => r = .bool (fin E) ∧ wx = w6)
            case first =>
              have hfin : fin E = (decide (ke = 120) || decide (ke = 99) || decide (ke = 101)) := by
                rw [HKE.out]
                unfold fin
                have h : ∀ c : UInt8, (E.k == c) = decide ((E.k.toNat : Int) = (c.toNat : Nat)) := fun c => by
                  by_cases e : E.k = c
                  · rw [e]; simp
                  · rw [decide_eq_false (fun e9 => e (UInt8.toNat_inj.1 (by omega)))]; simpa using e
                rw [h, h, h]; rfl
              by_cases e1 : ke = 120
              · have d1 : (ke == 120) = true := by simpa using e1
                have hf1 : fin E = true := by rw [hfin, decide_eq_true e1]; rfl
                clear hfin e1
                go_wp2_with fail
                go_meet
                exact ⟨by rw [hf1], rfl⟩
              · have d1 : (ke == 120) = false := by simpa using e1
                by_cases e2 : ke = 99
                · have d2 : (ke == 99) = true := by simpa using e2
                  have hf1 : fin E = true := by rw [hfin, decide_eq_true e2]; simp
                  clear hfin e1 e2
                  go_wp2_with fail
                  go_meet
                  exact ⟨by rw [hf1], rfl⟩
                · have d2 : (ke == 99) = false := by simpa using e2
                  by_cases e3 : ke = 101
                  · have d3 : (ke == 101) = true := by simpa using e3
                    have hf1 : fin E = true := by rw [hfin, decide_eq_true e3]; simp
                    clear hfin e1 e2 e3
                    go_wp2_with fail
                    go_meet
                    exact ⟨by rw [hf1], rfl⟩
                  · have d3 : (ke == 101) = false := by simpa using e3
                    have hf1 : fin E = false := by rw [hfin, decide_eq_false e1, decide_eq_false e2, decide_eq_false e3]; rfl
                    clear hfin e1 e2 e3
                    go_wp2_with fail
                    go_meet
                    exact ⟨by rw [hf1], rfl⟩
            case rest =>
              obtain ⟨rfl, hwc⟩ := hcut
              subst hwc
              have hp6 : p < w5.heap.size := by have := HS1.out; have := HSE.out; omega
              have HC6 := Lib.hid (HCE.out.same (HB6.out.block p hp6))
              have HT6 := Lib.hid (HTE.out.b (HB6.out.mono (by have := HS1.out; have := HSE.out; omega)))
              have HL6 := Lib.hid (HLE.out.keep HB6.out.size (fun k _ hk => HB6.out.block k hk))
              have HS6 := Lib.hid (Nat.le_trans HSE.out HB6.out.size)
              have HNE6 := Lib.hid (HNE5.out.keep HB6.out.size (fun k _ hk => HB6.out.block k hk))
              by_cases hf : fin E = true
              · rw [hf]
                obtain ⟨n0, n1⟩ := HC6.out.cell
                have nf := HC6.out.frozen 0
                have hne5 : p ≠ w5.heap.size := by omega
                go_upto_region 13 with (fail)
                obtain ⟨w7, hw7⟩ : ∃ z, z = wc.setCell ⟨p, 0, none⟩ (.pointer none) := ⟨_, rfl⟩
                rw [← hw7]
                have hk7 : ∀ k, k ≠ p → w7.heap[k]? = wc.heap[k]? := fun k hk => by rw [hw7]; exact Below.heap_setCell _ _ _ _ hk
                have hz7 : w7.heap.size = wc.heap.size := by rw [hw7, World.size_setCell]
                have HC7 := Lib.hid (show FCell w7 p (.pointer none) true from by rw [hw7]; exact HC6.out.end _)
                have HT67 : Turned wc w7 p none := ⟨by rw [hw7]; rfl, by rw [hw7]; rfl, by rw [hw7]; rfl, by omega, fun k _ hk _ => hk7 k hk⟩
                have HT7 := Lib.hid (HT6.out.p HT67)
                have HL7 := Lib.hid (HL6.out.keep HT67.size (fun k hB hk => hk7 k (by have := HS1.out; omega)))
                have HS7 := Lib.hid (Nat.le_trans HS6.out HT67.size)
                have HNE7 := Lib.hid (HNE6.out.keep HT67.size (fun k hB hk => hk7 k (by have := HS1.out; omega)))
                have m7 : w7.cell? ⟨w5.heap.size, 0, none⟩ = some (.int .u8 ke) ∧ w7.cell? ⟨w5.heap.size, 1, none⟩ = some (.string ub) ∧ w7.cell? ⟨w5.heap.size, 2, none⟩ = some (.string db) ∧ w7.cell? ⟨w5.heap.size, 3, none⟩ = some (.string tb) ∧ w7.cell? ⟨w5.heap.size, 4, none⟩ = some (.slice b5 m5 d5) := by
                  have h : ∀ i, w7.cell? ⟨w5.heap.size, i, none⟩ = wc.cell? ⟨w5.heap.size, i, none⟩ := fun i => World.cell?_of_block (a := ⟨w5.heap.size, i, none⟩) (hk7 _ (fun e => hne5 e.symm))
                  exact ⟨(h 0).trans m0, (h 1).trans m1, (h 2).trans m2, (h 3).trans m3, (h 4).trans m4⟩
                clear m0 m1 m2 m3 m4 n0 n1 nf hw7 hk7 hz7 HT67
                obtain ⟨m0, m1, m2, m3, m4⟩ := m7
                obtain ⟨xs, hO, hX⟩ := HL7.out
                have HX := Lib.hid hX
                have HO := Lib.hid hO
                have hlt9 := hO.lt
                have HLT := Lib.hid hlt9
                clear hX hO hlt9
                go_wp2_with (at_builtin; refine wpList_append_at _ rfl (.tmp 61) (.tmp 63) 29 rfl w1.heap.size 38 iv (.agg #[.int .u8 0, .string { data := #[] }, .string { data := #[] }, .string { data := #[] }, .slice none 0 0]) 5 80 Tryz.underlying29 hiv z0 z1 z2 rfl (by decide) (.slice ta L.length tc) L.length xs rfl (HO.out.alloc _) ⟨w7.heap.size, 0, none⟩ 1 1 [.int .u8 ke, .string ub, .string db, .string tb, .slice b5 m5 d5] rfl rfl (five_cells _ _ _ _ _ _ _) (by simp [Value.oneCell']) (by unfold maxLen; omega) (by omega) (by rw [World.size_alloc]; have := HS7.out; omega) ?_)
                intro v8 w8 hO8 hg8 hf8
                have hB78 : Below w7.heap.size w7 (w7.alloc (.cells #[.int .u8 ke, .string ub, .string db, .string tb, .slice b5 m5 d5] 38)) := (Below.refl _ _).alloc (Nat.le_refl _) _
                have HE8 := Lib.hid (show EvRow w8 w1.heap.size v8 (L ++ [E]) from EvRow.put (w := w7.alloc (.cells #[.int .u8 ke, .string ub, .string db, .string tb, .slice b5 m5 d5] 38)) (fun i F hi => by
                  obtain ⟨sl, c0, c1, c2, c3, c4, c5⟩ := HX.out i F hi
                  exact ⟨sl, c0, c1, c2, c3, c4, c5.keep hB78.size (fun k _ hk => hB78.block k hk)⟩) HO.out.1 (sl := .slice b5 m5 d5) (by rw [← HKE.out, ← HUB.out, ← HDB.out, ← HTB.out]; exact hO8) (HNE7.out.keep hB78.size (fun k _ hk => hB78.block k hk)) hg8 (fun k hk => (hf8 k hk).imp id (fun h => by rw [World.size_alloc]; exact h)))
                have hrow : ∀ k, (Value.slice ta L.length tc).ownBlock = some k → w1.heap.size ≤ k := fun k hk => (HLT.out k hk).1
                have HB8 := Lib.hid (show ∀ k, k < w7.heap.size → some k ≠ (Value.slice ta L.length tc).ownBlock → w8.heap[k]? = w7.heap[k]? from fun k hk hn => (hg8.block k (Nat.lt_of_lt_of_le hk hB78.size) hn).trans (hB78.block k hk))
                have HT8 := Lib.hid (show TurnedF w w8 p q v.ownBlock from ⟨hg8.os.trans HT7.out.os, hg8.tape.trans HT7.out.tape, hg8.output.trans HT7.out.output, Nat.le_trans HT7.out.size (Nat.le_trans hB78.size hg8.size), fun k hk hp hq hr => (HB8.out k (Nat.lt_of_lt_of_le hk HT7.out.size) (fun e => by have := hrow k e.symm; have := HS1.out; omega)).trans (HT7.out.block k hk hp hq hr)⟩)
                have HS8 := Lib.hid (show w1.heap.size ≤ w8.heap.size from Nat.le_trans HS7.out (Nat.le_trans hB78.size hg8.size))
                have hp8 : w8.heap[p]? = w7.heap[p]? := HB8.out p (by have := HS7.out; have := HS1.out; omega) (fun e => by have := hrow p e.symm; have := HS1.out; omega)
                have HC8 := Lib.hid (HC7.out.same hp8)
                have HME := Lib.hid (meas_on HF2.out)
                have HKO := Lib.hid (HOVER.out hf)
                obtain ⟨va, vc, hv8⟩ : ∃ va vc, v8 = .slice va (L.length + 1) vc := ownsRow_form hO8
                subst hv8
                clear hB78 hO8 hg8 hf8 hrow hp8 m0 m1 m2 m3 m4
                go_wp2_with fail
                go_roundw
                case measure => rw [HME.out, meas_over HC8.out]; omega
                case rel => exact ⟨L ++ [E], HE8.out, HT8.out, HS8.out, .inr ⟨⟨_, HC8.out⟩, HKO.out⟩⟩
              · have hf2 : fin E = false := by simpa using hf
                rw [hf2]
                obtain ⟨v5, s5, hR5, hs5, hK5, hl5⟩ := HON.out hf2
                have HR5 := Lib.hid hR5; have HV5 := Lib.hid hs5; have HK5 := Lib.hid hK5; have HL5 := Lib.hid hl5
                clear hR5 hs5 hK5 hl5 hf
                have HT7 := HT6; have HL7 := HL6; have HS7 := HS6; have HNE7 := HNE6
                obtain ⟨xs, hO, hX⟩ := HL7.out
                have HX := Lib.hid hX
                have HO := Lib.hid hO
                have hlt9 := hO.lt
                have HLT := Lib.hid hlt9
                clear hX hO hlt9
                go_wp2_with (at_builtin; refine wpList_append_at _ rfl (.tmp 61) (.tmp 63) 29 rfl w1.heap.size 38 iv (.agg #[.int .u8 0, .string { data := #[] }, .string { data := #[] }, .string { data := #[] }, .slice none 0 0]) 5 80 Tryz.underlying29 hiv z0 z1 z2 rfl (by decide) (.slice ta L.length tc) L.length xs rfl (HO.out.alloc _) ⟨wc.heap.size, 0, none⟩ 1 1 [.int .u8 ke, .string ub, .string db, .string tb, .slice b5 m5 d5] rfl rfl (five_cells _ _ _ _ _ _ _) (by simp [Value.oneCell']) (by unfold maxLen; omega) (by omega) (by rw [World.size_alloc]; have := HS7.out; omega) ?_)
                intro v8 w8 hO8 hg8 hf8
                have hB78 : Below wc.heap.size wc (wc.alloc (.cells #[.int .u8 ke, .string ub, .string db, .string tb, .slice b5 m5 d5] 38)) := (Below.refl _ _).alloc (Nat.le_refl _) _
                have HE8 := Lib.hid (show EvRow w8 w1.heap.size v8 (L ++ [E]) from EvRow.put (w := wc.alloc (.cells #[.int .u8 ke, .string ub, .string db, .string tb, .slice b5 m5 d5] 38)) (fun i F hi => by
                  obtain ⟨sl, c0, c1, c2, c3, c4, c5⟩ := HX.out i F hi
                  exact ⟨sl, c0, c1, c2, c3, c4, c5.keep hB78.size (fun k _ hk => hB78.block k hk)⟩) HO.out.1 (sl := .slice b5 m5 d5) (by rw [← HKE.out, ← HUB.out, ← HDB.out, ← HTB.out]; exact hO8) (HNE7.out.keep hB78.size (fun k _ hk => hB78.block k hk)) hg8 (fun k hk => (hf8 k hk).imp id (fun h => by rw [World.size_alloc]; exact h)))
                have hrow : ∀ k, (Value.slice ta L.length tc).ownBlock = some k → w1.heap.size ≤ k := fun k hk => (HLT.out k hk).1
                have HB8 := Lib.hid (show ∀ k, k < wc.heap.size → some k ≠ (Value.slice ta L.length tc).ownBlock → w8.heap[k]? = wc.heap[k]? from fun k hk hn => (hg8.block k (Nat.lt_of_lt_of_le hk hB78.size) hn).trans (hB78.block k hk))
                have HT8 := Lib.hid (show TurnedF w w8 p q v.ownBlock from ⟨hg8.os.trans HT7.out.os, hg8.tape.trans HT7.out.tape, hg8.output.trans HT7.out.output, Nat.le_trans HT7.out.size (Nat.le_trans hB78.size hg8.size), fun k hk hp hq hr => (HB8.out k (Nat.lt_of_lt_of_le hk HT7.out.size) (fun e => by have := hrow k e.symm; have := HS1.out; omega)).trans (HT7.out.block k hk hp hq hr)⟩)
                have HS8 := Lib.hid (show w1.heap.size ≤ w8.heap.size from Nat.le_trans HS7.out (Nat.le_trans hB78.size hg8.size))
                have hp8 : w8.heap[p]? = wc.heap[p]? := HB8.out p (by have := HS7.out; have := HS1.out; omega) (fun e => by have := hrow p e.symm; have := HS1.out; omega)
                have hap := rows_apart HO.out (HR5.out.own.kept (fun k hk => HB6.out.block k (HR5.out.own.lt k hk))) (by decide)
                have HR8 := Lib.hid (show RIs w8 q v5 s5 false 0 from ⟨(HB8.out q (by have := HS7.out; have := HS1.out; omega) (fun e => by have := hrow q e.symm; have := HS1.out; omega)).trans ((HB6.out.block q HR5.out.lt).trans HR5.out.heap), HR5.out.own.kept (fun k hk => (HB8.out k (Nat.lt_of_lt_of_le (HR5.out.own.lt k hk) HB6.out.size) (fun e => hap k e.symm hk.symm)).trans (HB6.out.block k (HR5.out.own.lt k hk)))⟩)
                have HF8 := Lib.hid (show FIs w8 p q v5 s5 true from ⟨HC6.out.same hp8, HR8.out, HF2.out.ne, fun e => HF2.out.row (HV5.out p e.symm).symm⟩)
                have HME := Lib.hid (meas_on HF2.out)
                obtain ⟨va, vc, hv8⟩ : ∃ va vc, v8 = .slice va (L.length + 1) vc := ownsRow_form hO8
                subst hv8
                clear hB78 hO8 hg8 hf8 hrow hp8 m0 m1 m2 m3 m4 hap
                go_wp2_with fail
                go_roundw
                case measure => rw [HME.out, meas_on HF8.out]; have := HL5.out; omega
                case rel => exact ⟨L ++ [E], HE8.out, HT8.out, HS8.out, .inl ⟨s5, true, v5, HF8.out, HK5.out, fun k hk => HV'.out k (HV5.out k hk)⟩⟩
        · obtain ⟨E9, hE9⟩ : ∃ x, x = frameE s' (!b') := ⟨_, rfl⟩
          have HN := Lib.hid (next_wrong q v' s' (!b') E9 wr HF2.out.rd hE9.symm (by rw [hE9]; exact h0) (by rw [hE9]; exact h4))
          have hne := HNE.out
          rw [← hE9] at hne
          have hn0 : E9 ≠ 0 := by rw [hE9]; exact h0
          have hnz : (E9 != 0) = true := by simpa using hn0
          have HKT := Lib.hid (HK.out.told (KTold.wrong h4 h0))
          clear h4 h0 hE9 HNE
          go_wp2_with fail
          refine HN.out.mono ?_; rintro e w3 ⟨rfl, v3, hR3, hT3, hv3⟩
          have HT3 := Lib.hid (HT.out.q hT3)
          have HC3 := Lib.hid (HF2.out.cell.same (hT3.block p HF2.out.cell.lt HF2.out.ne (by simp)))
          have HL3 := Lib.hid (HL.out.keep hT3.size (fun k hB hk => hT3.block k hk (by have := HS1.out; omega) (by simp)))
          have HS3 := Lib.hid (Nat.le_trans HSZ.out hT3.size)
          clear hR3 hT3 hv3 HN
          go_wp2_with fail
          refine (show Calls Tryz.prog 16 #[.bool false, .agg #[.int .u8 0, .string { data := #[] }]] _ (MsgOut _ 0 2 none) from by have := decode_any (w3.alloc (.cells #[.int .u8 0, .string { data := #[] }] 50)) false 0 [] (by decide); rw [show readD false 0 [] = none from rfl] at this; exact this).mono ?_; rintro e w4 ⟨rfl, hb4⟩
          have HB4 := Lib.hid (show Below w3.heap.size w3 w4 from ((Below.refl _ _).alloc (Nat.le_refl _) _).step hb4 (by simp))
          clear hb4
          go_wp2_with fail
          have hb41 : Below w3.heap.size w3 (w4.alloc (.cells #[.int .u8 0, .slice none 0 0, .slice none 0 0] 54)) := HB4.out.alloc HB4.out.size _
          have HTQ := Lib.hid (HT3.out.b (hb41.mono (by have := HS1.out; have := HS3.out; omega)))
          have HLQ := Lib.hid (HL3.out.keep hb41.size (fun k _ hk => hb41.block k hk))
          have HSQ := Lib.hid (Nat.le_trans HS3.out hb41.size)
          refine (event_wrong p _ _ _ _ _ _ _ (HC3.out.same (hb41.block p HC3.out.lt)) hn0 (fun g => w1.heap.size ≤ g ∧ some g ≠ (Value.slice ta L.length tc).ownBlock)).mono ?_; rintro e w5 ⟨sl, rfl, hE5, hC5, hT5⟩
          obtain ⟨E, hEE⟩ : ∃ E, E = wrongEv c_bytes := ⟨_, rfl⟩
          rw [← hEE] at hE5 HKT
          rw [← hEE]
          have HOVER := Lib.hid (show fin E = true → KTold (s ++ x) b (L ++ [E]) none from fun _ => HKT.out)
          have HON := Lib.hid (show fin E = false → ∃ v5 s5, RIs w5 q v5 s5 false 0 ∧ (∀ k, v5.ownBlock = some k → v'.ownBlock = some k) ∧ KRun (s ++ x) b (L ++ [E]) s5 true ∧ s5.size < s'.size from fun h => by rw [hEE] at h; cases h)
          clear hb41 hEE HKT
          have HTE := Lib.hid (HTQ.out.p hT5)
          have HLE := Lib.hid (HLQ.out.keep hT5.size (fun k hB hk => hT5.block k hk (by have := HS1.out; omega) (by simp)))
          have HSE := Lib.hid (Nat.le_trans HSQ.out hT5.size)
          have HCE := Lib.hid hC5
          obtain ⟨b5, m5, d5, rfl, hN5, hQ5⟩ := hE5
          have HNE5 := Lib.hid (show EvNums w5 (fun g => w1.heap.size ≤ g ∧ some g ≠ (Value.slice ta L.length tc).ownBlock) E.n (.slice b5 m5 d5) from ⟨b5, m5, d5, rfl, hN5, hQ5⟩)
          obtain ⟨ke, hke⟩ : ∃ z : Int, z = (E.k.toNat : Nat) := ⟨_, rfl⟩
          have hkr : 0 ≤ ke ∧ ke < 256 := by have := UInt8.toNat_lt E.k; omega
          rw [show evV E (.slice b5 m5 d5) = .agg #[.int .u8 ke, .string ⟨E.u.toArray⟩, .string ⟨E.d.toArray⟩, .string ⟨E.t.toArray⟩, .slice b5 m5 d5] from by rw [hke]]
          obtain ⟨ub, hub⟩ : ∃ z : ByteArray, z = ⟨E.u.toArray⟩ := ⟨_, rfl⟩
          obtain ⟨db, hdb⟩ : ∃ z : ByteArray, z = ⟨E.d.toArray⟩ := ⟨_, rfl⟩
          obtain ⟨tb, htb⟩ : ∃ z : ByteArray, z = ⟨E.t.toArray⟩ := ⟨_, rfl⟩
          rw [← hub, ← hdb, ← htb]
          have HUB := Lib.hid hub; have HDB := Lib.hid hdb; have HTB := Lib.hid htb; have HKE := Lib.hid hke
          clear hT5 hC5 hN5 hQ5 hub hdb htb hke
          go_upto_region 11 with (fail)
          obtain ⟨w6, hw6⟩ : ∃ z, z = w5.alloc (.cells #[.int .u8 ke, .string ub, .string db, .string tb, .slice b5 m5 d5] 38) := ⟨_, rfl⟩
          rw [← hw6]
          have HB6 := Lib.hid (show Below w5.heap.size w5 w6 by rw [hw6]; exact (Below.refl _ _).alloc (Nat.le_refl _) _)
          have HZ6 := Lib.hid (show w6.heap.size = w5.heap.size + 1 by rw [hw6]; simp)
          have m6 : w6.cell? ⟨w5.heap.size, 0, none⟩ = some (.int .u8 ke) ∧ w6.cell? ⟨w5.heap.size, 1, none⟩ = some (.string ub) ∧ w6.cell? ⟨w5.heap.size, 2, none⟩ = some (.string db) ∧ w6.cell? ⟨w5.heap.size, 3, none⟩ = some (.string tb) ∧ w6.cell? ⟨w5.heap.size, 4, none⟩ = some (.slice b5 m5 d5) := by rw [hw6]; simp [go_sem]
          obtain ⟨m0, m1, m2, m3, m4⟩ := m6
          clear hw6
          go_cut [57] (fun r wx => r = .bool (fin E) ∧ wx = w6)
          case first =>
            have hfin : fin E = (decide (ke = 120) || decide (ke = 99) || decide (ke = 101)) := by
              rw [HKE.out]
              unfold fin
              have h : ∀ c : UInt8, (E.k == c) = decide ((E.k.toNat : Int) = (c.toNat : Nat)) := fun c => by
                by_cases e : E.k = c
                · rw [e]; simp
                · rw [decide_eq_false (fun e9 => e (UInt8.toNat_inj.1 (by omega)))]; simpa using e
              rw [h, h, h]; rfl
            by_cases e1 : ke = 120
            · have d1 : (ke == 120) = true := by simpa using e1
              have hf1 : fin E = true := by rw [hfin, decide_eq_true e1]; rfl
              clear hfin e1
              go_wp2_with fail
              go_meet
              exact ⟨by rw [hf1], rfl⟩
            · have d1 : (ke == 120) = false := by simpa using e1
              by_cases e2 : ke = 99
              · have d2 : (ke == 99) = true := by simpa using e2
                have hf1 : fin E = true := by rw [hfin, decide_eq_true e2]; simp
                clear hfin e1 e2
                go_wp2_with fail
                go_meet
                exact ⟨by rw [hf1], rfl⟩
              · have d2 : (ke == 99) = false := by simpa using e2
                by_cases e3 : ke = 101
                · have d3 : (ke == 101) = true := by simpa using e3
                  have hf1 : fin E = true := by rw [hfin, decide_eq_true e3]; simp
                  clear hfin e1 e2 e3
                  go_wp2_with fail
                  go_meet
                  exact ⟨by rw [hf1], rfl⟩
                · have d3 : (ke == 101) = false := by simpa using e3
                  have hf1 : fin E = false := by rw [hfin, decide_eq_false e1, decide_eq_false e2, decide_eq_false e3]; rfl
                  clear hfin e1 e2 e3
                  go_wp2_with fail
                  go_meet
                  exact ⟨by rw [hf1], rfl⟩
          case rest =>
            obtain ⟨rfl, hwc⟩ := hcut
            subst hwc
            have hp6 : p < w5.heap.size := by have := HS1.out; have := HSE.out; omega
            have HC6 := Lib.hid (HCE.out.same (HB6.out.block p hp6))
            have HT6 := Lib.hid (HTE.out.b (HB6.out.mono (by have := HS1.out; have := HSE.out; omega)))
            have HL6 := Lib.hid (HLE.out.keep HB6.out.size (fun k _ hk => HB6.out.block k hk))
            have HS6 := Lib.hid (Nat.le_trans HSE.out HB6.out.size)
            have HNE6 := Lib.hid (HNE5.out.keep HB6.out.size (fun k _ hk => HB6.out.block k hk))
            by_cases hf : fin E = true
            · rw [hf]
              obtain ⟨n0, n1⟩ := HC6.out.cell
              have nf := HC6.out.frozen 0
              have hne5 : p ≠ w5.heap.size := by omega
              go_upto_region 13 with (fail)
              obtain ⟨w7, hw7⟩ : ∃ z, z = wc.setCell ⟨p, 0, none⟩ (.pointer none) := ⟨_, rfl⟩
              rw [← hw7]
              have hk7 : ∀ k, k ≠ p → w7.heap[k]? = wc.heap[k]? := fun k hk => by rw [hw7]; exact Below.heap_setCell _ _ _ _ hk
              have hz7 : w7.heap.size = wc.heap.size := by rw [hw7, World.size_setCell]
              have HC7 := Lib.hid (show FCell w7 p (.pointer none) true from by rw [hw7]; exact HC6.out.end _)
              have HT67 : Turned wc w7 p none := ⟨by rw [hw7]; rfl, by rw [hw7]; rfl, by rw [hw7]; rfl, by omega, fun k _ hk _ => hk7 k hk⟩
              have HT7 := Lib.hid (HT6.out.p HT67)
              have HL7 := Lib.hid (HL6.out.keep HT67.size (fun k hB hk => hk7 k (by have := HS1.out; omega)))
              have HS7 := Lib.hid (Nat.le_trans HS6.out HT67.size)
              have HNE7 := Lib.hid (HNE6.out.keep HT67.size (fun k hB hk => hk7 k (by have := HS1.out; omega)))
              have m7 : w7.cell? ⟨w5.heap.size, 0, none⟩ = some (.int .u8 ke) ∧ w7.cell? ⟨w5.heap.size, 1, none⟩ = some (.string ub) ∧ w7.cell? ⟨w5.heap.size, 2, none⟩ = some (.string db) ∧ w7.cell? ⟨w5.heap.size, 3, none⟩ = some (.string tb) ∧ w7.cell? ⟨w5.heap.size, 4, none⟩ = some (.slice b5 m5 d5) := by
                have h : ∀ i, w7.cell? ⟨w5.heap.size, i, none⟩ = wc.cell? ⟨w5.heap.size, i, none⟩ := fun i => World.cell?_of_block (a := ⟨w5.heap.size, i, none⟩) (hk7 _ (fun e => hne5 e.symm))
                exact ⟨(h 0).trans m0, (h 1).trans m1, (h 2).trans m2, (h 3).trans m3, (h 4).trans m4⟩
              clear m0 m1 m2 m3 m4 n0 n1 nf hw7 hk7 hz7 HT67
              obtain ⟨m0, m1, m2, m3, m4⟩ := m7
              obtain ⟨xs, hO, hX⟩ := HL7.out
              have HX := Lib.hid hX
              have HO := Lib.hid hO
              have hlt9 := hO.lt
              have HLT := Lib.hid hlt9
              clear hX hO hlt9
              go_wp2_with (at_builtin; refine wpList_append_at _ rfl (.tmp 61) (.tmp 63) 29 rfl w1.heap.size 38 iv (.agg #[.int .u8 0, .string { data := #[] }, .string { data := #[] }, .string { data := #[] }, .slice none 0 0]) 5 80 Tryz.underlying29 hiv z0 z1 z2 rfl (by decide) (.slice ta L.length tc) L.length xs rfl (HO.out.alloc _) ⟨w7.heap.size, 0, none⟩ 1 1 [.int .u8 ke, .string ub, .string db, .string tb, .slice b5 m5 d5] rfl rfl (five_cells _ _ _ _ _ _ _) (by simp [Value.oneCell']) (by unfold maxLen; omega) (by omega) (by rw [World.size_alloc]; have := HS7.out; omega) ?_)
              intro v8 w8 hO8 hg8 hf8
              have hB78 : Below w7.heap.size w7 (w7.alloc (.cells #[.int .u8 ke, .string ub, .string db, .string tb, .slice b5 m5 d5] 38)) := (Below.refl _ _).alloc (Nat.le_refl _) _
              have HE8 := Lib.hid (show EvRow w8 w1.heap.size v8 (L ++ [E]) from EvRow.put (w := w7.alloc (.cells #[.int .u8 ke, .string ub, .string db, .string tb, .slice b5 m5 d5] 38)) (fun i F hi => by
                obtain ⟨sl, c0, c1, c2, c3, c4, c5⟩ := HX.out i F hi
                exact ⟨sl, c0, c1, c2, c3, c4, c5.keep hB78.size (fun k _ hk => hB78.block k hk)⟩) HO.out.1 (sl := .slice b5 m5 d5) (by rw [← HKE.out, ← HUB.out, ← HDB.out, ← HTB.out]; exact hO8) (HNE7.out.keep hB78.size (fun k _ hk => hB78.block k hk)) hg8 (fun k hk => (hf8 k hk).imp id (fun h => by rw [World.size_alloc]; exact h)))
              have hrow : ∀ k, (Value.slice ta L.length tc).ownBlock = some k → w1.heap.size ≤ k := fun k hk => (HLT.out k hk).1
              have HB8 := Lib.hid (show ∀ k, k < w7.heap.size → some k ≠ (Value.slice ta L.length tc).ownBlock → w8.heap[k]? = w7.heap[k]? from fun k hk hn => (hg8.block k (Nat.lt_of_lt_of_le hk hB78.size) hn).trans (hB78.block k hk))
              have HT8 := Lib.hid (show TurnedF w w8 p q v.ownBlock from ⟨hg8.os.trans HT7.out.os, hg8.tape.trans HT7.out.tape, hg8.output.trans HT7.out.output, Nat.le_trans HT7.out.size (Nat.le_trans hB78.size hg8.size), fun k hk hp hq hr => (HB8.out k (Nat.lt_of_lt_of_le hk HT7.out.size) (fun e => by have := hrow k e.symm; have := HS1.out; omega)).trans (HT7.out.block k hk hp hq hr)⟩)
              have HS8 := Lib.hid (show w1.heap.size ≤ w8.heap.size from Nat.le_trans HS7.out (Nat.le_trans hB78.size hg8.size))
              have hp8 : w8.heap[p]? = w7.heap[p]? := HB8.out p (by have := HS7.out; have := HS1.out; omega) (fun e => by have := hrow p e.symm; have := HS1.out; omega)
              have HC8 := Lib.hid (HC7.out.same hp8)
              have HME := Lib.hid (meas_on HF2.out)
              have HKO := Lib.hid (HOVER.out hf)
              obtain ⟨va, vc, hv8⟩ : ∃ va vc, v8 = .slice va (L.length + 1) vc := ownsRow_form hO8
              subst hv8
              clear hB78 hO8 hg8 hf8 hrow hp8 m0 m1 m2 m3 m4
              go_wp2_with fail
              go_roundw
              case measure => rw [HME.out, meas_over HC8.out]; omega
              case rel => exact ⟨L ++ [E], HE8.out, HT8.out, HS8.out, .inr ⟨⟨_, HC8.out⟩, HKO.out⟩⟩
            · have hf2 : fin E = false := by simpa using hf
              rw [hf2]
              obtain ⟨v5, s5, hR5, hs5, hK5, hl5⟩ := HON.out hf2
              have HR5 := Lib.hid hR5; have HV5 := Lib.hid hs5; have HK5 := Lib.hid hK5; have HL5 := Lib.hid hl5
              clear hR5 hs5 hK5 hl5 hf
              have HT7 := HT6; have HL7 := HL6; have HS7 := HS6; have HNE7 := HNE6
              obtain ⟨xs, hO, hX⟩ := HL7.out
              have HX := Lib.hid hX
              have HO := Lib.hid hO
              have hlt9 := hO.lt
              have HLT := Lib.hid hlt9
              clear hX hO hlt9
              go_wp2_with (at_builtin; refine wpList_append_at _ rfl (.tmp 61) (.tmp 63) 29 rfl w1.heap.size 38 iv (.agg #[.int .u8 0, .string { data := #[] }, .string { data := #[] }, .string { data := #[] }, .slice none 0 0]) 5 80 Tryz.underlying29 hiv z0 z1 z2 rfl (by decide) (.slice ta L.length tc) L.length xs rfl (HO.out.alloc _) ⟨wc.heap.size, 0, none⟩ 1 1 [.int .u8 ke, .string ub, .string db, .string tb, .slice b5 m5 d5] rfl rfl (five_cells _ _ _ _ _ _ _) (by simp [Value.oneCell']) (by unfold maxLen; omega) (by omega) (by rw [World.size_alloc]; have := HS7.out; omega) ?_)
              intro v8 w8 hO8 hg8 hf8
              have hB78 : Below wc.heap.size wc (wc.alloc (.cells #[.int .u8 ke, .string ub, .string db, .string tb, .slice b5 m5 d5] 38)) := (Below.refl _ _).alloc (Nat.le_refl _) _
              have HE8 := Lib.hid (show EvRow w8 w1.heap.size v8 (L ++ [E]) from EvRow.put (w := wc.alloc (.cells #[.int .u8 ke, .string ub, .string db, .string tb, .slice b5 m5 d5] 38)) (fun i F hi => by
                obtain ⟨sl, c0, c1, c2, c3, c4, c5⟩ := HX.out i F hi
                exact ⟨sl, c0, c1, c2, c3, c4, c5.keep hB78.size (fun k _ hk => hB78.block k hk)⟩) HO.out.1 (sl := .slice b5 m5 d5) (by rw [← HKE.out, ← HUB.out, ← HDB.out, ← HTB.out]; exact hO8) (HNE7.out.keep hB78.size (fun k _ hk => hB78.block k hk)) hg8 (fun k hk => (hf8 k hk).imp id (fun h => by rw [World.size_alloc]; exact h)))
              have hrow : ∀ k, (Value.slice ta L.length tc).ownBlock = some k → w1.heap.size ≤ k := fun k hk => (HLT.out k hk).1
              have HB8 := Lib.hid (show ∀ k, k < wc.heap.size → some k ≠ (Value.slice ta L.length tc).ownBlock → w8.heap[k]? = wc.heap[k]? from fun k hk hn => (hg8.block k (Nat.lt_of_lt_of_le hk hB78.size) hn).trans (hB78.block k hk))
              have HT8 := Lib.hid (show TurnedF w w8 p q v.ownBlock from ⟨hg8.os.trans HT7.out.os, hg8.tape.trans HT7.out.tape, hg8.output.trans HT7.out.output, Nat.le_trans HT7.out.size (Nat.le_trans hB78.size hg8.size), fun k hk hp hq hr => (HB8.out k (Nat.lt_of_lt_of_le hk HT7.out.size) (fun e => by have := hrow k e.symm; have := HS1.out; omega)).trans (HT7.out.block k hk hp hq hr)⟩)
              have HS8 := Lib.hid (show w1.heap.size ≤ w8.heap.size from Nat.le_trans HS7.out (Nat.le_trans hB78.size hg8.size))
              have hp8 : w8.heap[p]? = wc.heap[p]? := HB8.out p (by have := HS7.out; have := HS1.out; omega) (fun e => by have := hrow p e.symm; have := HS1.out; omega)
              have hap := rows_apart HO.out (HR5.out.own.kept (fun k hk => HB6.out.block k (HR5.out.own.lt k hk))) (by decide)
              have HR8 := Lib.hid (show RIs w8 q v5 s5 false 0 from ⟨(HB8.out q (by have := HS7.out; have := HS1.out; omega) (fun e => by have := hrow q e.symm; have := HS1.out; omega)).trans ((HB6.out.block q HR5.out.lt).trans HR5.out.heap), HR5.out.own.kept (fun k hk => (HB8.out k (Nat.lt_of_lt_of_le (HR5.out.own.lt k hk) HB6.out.size) (fun e => hap k e.symm hk.symm)).trans (HB6.out.block k (HR5.out.own.lt k hk)))⟩)
              have HF8 := Lib.hid (show FIs w8 p q v5 s5 true from ⟨HC6.out.same hp8, HR8.out, HF2.out.ne, fun e => HF2.out.row (HV5.out p e.symm).symm⟩)
              have HME := Lib.hid (meas_on HF2.out)
              obtain ⟨va, vc, hv8⟩ : ∃ va vc, v8 = .slice va (L.length + 1) vc := ownsRow_form hO8
              subst hv8
              clear hB78 hO8 hg8 hf8 hrow hp8 m0 m1 m2 m3 m4 hap
              go_wp2_with fail
              go_roundw
              case measure => rw [HME.out, meas_on HF8.out]; have := HL5.out; omega
              case rel => exact ⟨L ++ [E], HE8.out, HT8.out, HS8.out, .inl ⟨s5, true, v5, HF8.out, HK5.out, fun k hk => HV'.out k (HV5.out k hk)⟩⟩
    · have HOV := Lib.hid (over_yes p b' wr hF)
      have HF2 := Lib.hid hF; have HK := Lib.hid hK
      clear hF hK
      go_wp2_with fail
      refine HOV.out.mono ?_; rintro e w0 ⟨rfl, rfl⟩
      go_wp2_with fail
      go_ret
      exact ⟨_, L, none, v1, rfl, HK.out, HL.out.base HS1.out, ⟨_, HF2.out⟩, HT.out, HV1.out⟩
end Go.Proofs.YtmofnkinclckoaaGreatDoor
