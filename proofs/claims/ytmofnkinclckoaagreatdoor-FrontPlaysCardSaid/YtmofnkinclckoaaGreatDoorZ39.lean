/- Contracts and mathematics: YFeed. -/
import Derived.Test.YtmofnkinclckoaaGreatDoorZ38
namespace Go.Proofs.YtmofnkinclckoaaGreatDoor
open Go.RowKit Go.Lib Go.WideShapes

/-- The document's front in a state, that holds no more than n bytes; none: it is over. -/
def DSt (w : World) (p n : Nat) : Option (ByteArray × Bool) → Prop
  | some (s, b) => DCell w p s b false
  | none => ∃ s b, DCell w p s b true ∧ s.size ≤ n
/-- What the document's Feed leaves. -/
def Fed18 (p : Nat) (s x : ByteArray) (b : Bool) (w : World) (e : Ending) (w' : World) : Prop := ∃ tv L st, e = .returned tv ∧ KTold (s ++ x) b L st ∧ REvRow w' w.heap.size tv L ∧ DSt w' p (s.size + x.size) st ∧ Turned w w' p none
def measD (p : Nat) (w : World) : Nat := match w.cell? ⟨p, 2, none⟩ with
  | some (.bool false) => (match w.cell? ⟨p, 0, none⟩ with
    | some (.string s) => s.size + 1
    | _ => 0)
  | _ => 0
theorem measD_on {w : World} {p : Nat} {s : ByteArray} {b : Bool} (h : DCell w p s b false) : measD p w = s.size + 1 := by
  unfold measD
  rw [h.cell.2.2, h.cell.1]
theorem measD_over {w : World} {p : Nat} {s : ByteArray} {b : Bool} (h : DCell w p s b true) : measD p w = 0 := by
  unfold measD
  rw [h.cell.2.2]
theorem EvNums.from18 {w w' : World} {B C : Nat} {n : List Int} {sl : Value} (h : EvNums w (fun g => B ≤ g) n sl) (hC : C ≤ B) (hz : w.heap.size ≤ w'.heap.size) (hb : ∀ k, B ≤ k → k < w.heap.size → w'.heap[k]? = w.heap[k]?) : EvNums w' (fun g => C ≤ g) n sl := by
  obtain ⟨b, m, d, rfl, h2, h3⟩ := h
  refine ⟨b, m, d, rfl, ?_, fun hn g off e => Nat.le_trans hC (h3 hn g off e)⟩
  by_cases hn : n = []
  · subst hn
    obtain ⟨a', n', c', hv, hl, h1, h2', hr⟩ := h2
    exact ⟨a', n', c', hv, hl, h1, h2', .inl rfl⟩
  · exact nums_keep h2 hn (fun a m' d' e g off ha => by injection e with e1 _ _; exact h3 hn g off (e1.trans ha)) hz hb
theorem ev_cells {w : World} {q : Nat} {x0 x1 x2 x3 x4 : Value} {T : TypeId} (h : w.heap[q]? = some (.cells #[x0, x1, x2, x3, x4] T (0, 0))) : (w.cell? ⟨q, 0, none⟩ = some x0 ∧ w.cell? ⟨q, 1, none⟩ = some x1 ∧ w.cell? ⟨q, 2, none⟩ = some x2 ∧ w.cell? ⟨q, 3, none⟩ = some x3 ∧ w.cell? ⟨q, 4, none⟩ = some x4) ∧ ∀ j, w.frozen? ⟨q, j, none⟩ = false := by
  refine ⟨⟨?_, ?_, ?_, ?_, ?_⟩, fun j => by simp [World.frozen?, h]⟩ <;> rw [cell_of_row w q _ _ _ (0, 0) h] <;> rfl
theorem cut_before18 {w4 w5 : World} {A : Array Value} {T : TypeId} (hb : Below (w4.alloc (.cells A T)).drew.heap.size (w4.alloc (.cells A T)).drew w5) :
    Below w4.heap.size w4 w5 ∧ (∀ i : Nat, w5.cell? ⟨w4.heap.size, i, none⟩ = A[i]?) ∧ (∀ i : Nat, w5.frozen? ⟨w4.heap.size, i, none⟩ = false) ∧ w4.heap.size < w5.heap.size := by
  have h1 : Below (w4.alloc (.cells A T)).heap.size (w4.alloc (.cells A T)) w5 := (Below.refl _ (w4.alloc (.cells A T))).drew.step hb (by simp)
  obtain ⟨h2, h3, h4⟩ := one_box h1
  exact ⟨((Below.refl _ _).alloc (Nat.le_refl _) _).step h1 (by simp), h2, h3, h4⟩
theorem event_wrong_fin {b : Bool} {c : UInt8} {R : Option (List Bs × List Int)} (h : fin (eventE b c R) = false) : (b || R.isSome) = true := by
  cases R with
  | none => have : fin (wrongEv c_bytes) = false := h; cases this
  | some p => cases b <;> rfl
theorem Turned.trans18 {w w1 w' : World} {p : Nat} (h : Turned w w1 p none) (h2 : Turned w1 w' p none) : Turned w w' p none :=
  ⟨h2.os.trans h.os, h2.tape.trans h.tape, h2.output.trans h.output, Nat.le_trans h.size h2.size, fun k hk hp hr => (h2.block k (Nat.lt_of_lt_of_le hk h.size) hp hr).trans (h.block k hk hp hr)⟩
theorem Turned.row18 {w w' : World} {p : Nat} {v : Value} {L : List Ev} {B : Nat} (h : Turned w w' p none) (hL : REvRow w B v L) (hp : p < B) : REvRow w' B v L :=
  hL.keep h.size (fun k hB hk => h.block k hk (by omega) (by simp))
set_option maxRecDepth 100000 in
set_option maxHeartbeats 32000000 in
theorem feed18_any (p : Nat) (s x : ByteArray) (b : Bool) (w : World) (h : DCell w p s b false) (hx : s.size + x.size ≤ 9000) :
    Calls Tryz.prog 7 #[.pointer (some ⟨p, 0, none⟩), .string x] w (Fed18 p s x b w) := by
  obtain ⟨iv, hiv, z0, z1, z2⟩ := info_parts info_event18
  obtain ⟨c0, c1, c2⟩ := h.cell
  have g0 := h.frozen 0
  have hpw := h.lt
  obtain ⟨w1, hw1⟩ : ∃ z, z = w.setCell ⟨p, 0, none⟩ (.string (s ++ x)) := ⟨_, rfl⟩
  have HD1 := Lib.hid (show DCell w1 p (s ++ x) b false from by rw [hw1]; exact h.putS _)
  have HT1 := Lib.hid (show Turned w w1 p none from by rw [hw1]; exact turned_set _ _ _ _)
  have HE1 := Lib.hid hw1
  have hsx : ¬ 9223372036854775807 < s.size + x.size := by omega
  have HX0 := Lib.hid hx
  clear h hw1
  go_enter Tryz.func7, Tryz.ntmps7
  go_upto_region 3 with (fail)
  clear c0 c1 c2 g0 hsx
  go_loopw [5] (fun tv wr => ∃ L, REvRow wr w.heap.size tv L ∧ Turned w wr p none ∧ ((∃ s' b', DCell wr p s' b' false ∧ KRun (s ++ x) b L s' b') ∨ ((∃ s' b', DCell wr p s' b' true ∧ s'.size ≤ s.size + x.size) ∧ KTold (s ++ x) b L none))) (fun _ wr => measD p wr)
  case atStart => exact ⟨[], REvRow.nil _ _, by rw [← HE1.out]; exact HT1.out, .inl ⟨_, _, by rw [← HE1.out]; exact HD1.out, KRun.nil⟩⟩
  case round =>
    obtain ⟨L, hL, hT, hst⟩ := hrel
    obtain ⟨ta, tc, rfl⟩ : ∃ ta tc, u5 = .slice ta L.length tc := by obtain ⟨xs, hO, _⟩ := hL; exact ownsRow_form hO
    have HL := Lib.hid hL; have HT := Lib.hid hT
    have HRW := Lib.hid (show ∀ k, (Value.slice ta L.length tc).ownBlock = some k → k < wr.heap.size from fun k hk => by obtain ⟨xs, hO, _⟩ := hL; exact (hO.lt k hk).2)
    have HWR := Lib.hid hT.size
    clear hL hT
    rcases hst with ⟨s', b', hD, hK⟩ | ⟨⟨s', b', hD, hsl⟩, hK⟩
    · have HDR := Lib.hid hD; have HK := Lib.hid hK
      obtain ⟨c0, c1, c2⟩ := hD.cell
      have hpr := hD.lt
      have hll := hK.size
      rw [ByteArray.size_append] at hll
      have HLL := Lib.hid (show L.length ≤ 9000 by have := HX0.out; omega)
      have HSA := Lib.hid (show s'.size ≤ s.size + x.size by omega)
      have HS9 := Lib.hid (show s'.size ≤ 9000 by have := HX0.out; omega)
      obtain ⟨fc, hfc⟩ : ∃ z : UInt8, z = if frameE s' (!b') = 0 then frameC s' b' else 0 := ⟨_, rfl⟩
      obtain ⟨fb, hfb⟩ : ∃ z : ByteArray, z = if frameE s' (!b') = 0 then frameB s' (!b') else { data := #[] } := ⟨_, rfl⟩
      obtain ⟨sr, hsr⟩ : ∃ z : ByteArray, z = if frameE s' (!b') = 0 then frameR s' b' else { data := #[] } := ⟨_, rfl⟩
      obtain ⟨er, her⟩ : ∃ z : Int, z = frameE s' (!b') := ⟨_, rfl⟩
      obtain ⟨ci, hci⟩ : ∃ z : Int, z = (fc.toNat : Nat) := ⟨_, rfl⟩
      have HTK := Lib.hid (show ∀ W, Calls Tryz.prog 18 #[.string s', .bool (!b')] W fun e w' => e = .returned (.tuple #[.agg #[.int .u8 ci, .string fb], .string sr, .int .i64 er]) ∧ Below W.heap.size W w' from fun W => by
        by_cases h0 : frameE s' (!b') = 0
        · have := rtake_ok s' (!b') W h0
          rw [hci, hfc, hfb, hsr, her, if_pos h0, if_pos h0, if_pos h0, frameC_nat]
          rw [← h0] at this
          exact this
        · have := rtake_err s' (!b') W h0
          rw [hci, hfc, hfb, hsr, her, if_neg h0, if_neg h0, if_neg h0]
          exact this)
      have HFC := Lib.hid hfc; have HFB := Lib.hid hfb; have HSR := Lib.hid hsr; have HER := Lib.hid her; have HCI := Lib.hid hci
      clear hD hK hll hfc hfb hsr her hci
      go_upto_region 4 with (fail)
      go_cut [6, 7, 8] (fun a1 a2 a3 wx => ∃ q, a1 = .pointer (some ⟨q, 0, none⟩) ∧ a2 = .string sr ∧ a3 = .int .i64 er ∧ wr.heap.size ≤ q ∧ q < wx.heap.size ∧ wx.cell? ⟨q, 0, none⟩ = some (.int .u8 ci) ∧ wx.cell? ⟨q, 1, none⟩ = some (.string fb) ∧ Below wr.heap.size wr wx)
      case first =>
        have HSS := Lib.hid (show ∀ W, Below wr.heap.size wr W → (W.cell? ⟨p, 0, none⟩ = some (.string s') ∧ W.cell? ⟨p, 1, none⟩ = some (.bool b')) ∧ Below wr.heap.size wr W from fun W hW => ⟨⟨(hW.cell (p := ⟨p, 0, none⟩) hpr).trans c0, (hW.cell (p := ⟨p, 1, none⟩) hpr).trans c1⟩, hW⟩)
        have HDa := Lib.hid (show Calls Tryz.prog 18 #[.string s', .bool (!b')] wr.drew (fun e w5 => e = .returned (.tuple #[.agg #[.int .u8 ci, .string fb], .string sr, .int .i64 er]) ∧ Below wr.heap.size wr w5) from by
          refine Calls.mono (HTK.out wr.drew) ?_; rintro e w5 ⟨rfl, hb⟩
          exact ⟨rfl, (Below.refl wr.heap.size wr).drew.step hb (Nat.le_refl _)⟩)
        have HDb := Lib.hid (show Calls Tryz.prog 18 #[.string s', .bool (!b')] (wr.alloc (.cells #[.int .u8 0, .string { data := #[] }] 58)).drew (fun e w5 => e = .returned (.tuple #[.agg #[.int .u8 ci, .string fb], .string sr, .int .i64 er]) ∧ Below wr.heap.size wr w5 ∧ (∀ i : Nat, w5.cell? ⟨wr.heap.size, i, none⟩ = (#[.int .u8 0, .string { data := #[] }] : Array Value)[i]?) ∧ (∀ i : Nat, w5.frozen? ⟨wr.heap.size, i, none⟩ = false) ∧ wr.heap.size < w5.heap.size) from by
          refine Calls.mono (HTK.out (wr.alloc (.cells #[.int .u8 0, .string { data := #[] }] 58)).drew) ?_; rintro e w5 ⟨rfl, hb⟩
          exact ⟨rfl, cut_before18 hb⟩)
        go_region_held3 (fun W => (W.cell? ⟨p, 0, none⟩ = some (.string s') ∧ W.cell? ⟨p, 1, none⟩ = some (.bool b')) ∧ Below wr.heap.size wr W) ((refine HSS.out _ ?_; repeat (first | assumption | exact Below.refl _ _ | (with_reducible refine Below.drew ?_) | (with_reducible refine Below.alloc ?_ (by first | exact Nat.le_refl _ | exact hB.size | simp) _) | (with_reducible refine Below.setCell ?_ (by first | exact Nat.le_refl _ | exact hB.size | (simp; omega)) _))))
          (first | (go_at_call 18; first | (with_reducible refine HDa.out.mono ?_; rintro e w5 ⟨rfl, hB⟩) | (with_reducible refine HDb.out.mono ?_; rintro e w5 ⟨rfl, hB, x0, x1, hz⟩)))
        all_goals go_wp2_with fail
        all_goals go_meet
        all_goals first | exact ⟨_, rfl, rfl, rfl, hB.size, by simp, World.cell?_alloc_new _ _ _ _, World.cell?_alloc_new _ _ _ _, hB.alloc hB.size _⟩ | exact ⟨_, rfl, rfl, rfl, Nat.le_refl _, by simpa using hz, by simp [go_sem, x0], by simp [go_sem, x0], (hB.setCell (Nat.le_refl _) _).setCell (Nat.le_refl _) _⟩
      case rest =>
        obtain ⟨q, rfl, rfl, rfl, hqr, hqz, q0, q1, hbc⟩ := hcut
        have HBC := Lib.hid hbc
        have hpc : p < wc.heap.size := Nat.lt_of_lt_of_le hpr hbc.size
        have HDC := Lib.hid (HDR.out.same (hbc.block p hpr))
        have HLC := Lib.hid (HL.out.keep hbc.size (fun k _ hk => hbc.block k hk))
        have HTC := Lib.hid (turned_then HT.out hbc HT.out.size)
        clear hbc
        by_cases h4 : frameE s' (!b') = 4
        · obtain rfl : er = 4 := HER.out.trans h4
          have HKT := Lib.hid (HK.out.told (KTold.more h4))
          clear h4 q0 q1 c0 c1 c2
          go_wp2_with fail
          go_ret
          exact ⟨_, L, some (s', b'), rfl, by have := HKT.out; rw [List.append_nil] at this; exact this, HLC.out, HDC.out, HTC.out⟩
        · have hn4 : (er == 4) = false := by rw [HER.out]; simpa using h4
          by_cases h0 : frameE s' (!b') = 0
          · obtain rfl : er = 0 := HER.out.trans h0
            have hbl : (frameB s' (!b')).size ≤ s'.size := by unfold frameB; rw [ByteArray.size_extract]; omega
            obtain ⟨E, hE⟩ : ∃ E, E = frameEv s' b' := ⟨_, rfl⟩
            have hfc : fc = frameC s' b' := by rw [HFC.out, if_pos h0]
            have hfb : fb = frameB s' (!b') := by rw [HFB.out, if_pos h0]
            have hsr : sr = frameR s' b' := by rw [HSR.out, if_pos h0]
            have HSL := Lib.hid (show sr.size ≤ s.size + x.size from by rw [hsr]; have := frameR_lt h0; have := HSA.out; omega)
            have HOVER := Lib.hid (show fin E = true → KTold (s ++ x) b (L ++ [E]) none from fun h => by rw [hE] at h ⊢; exact HK.out.told (KTold.last h0 h))
            have hE2 : E = eventE b' fc (readL false fc (bytes fb)) := by
              rw [hE, hfc, hfb]
              show eventE b' (frameC s' b') (readD false (frameC s' b') (bytes (frameB s' (!b')))) = _
              rw [show readD false (frameC s' b') (bytes (frameB s' (!b'))) = readL false (frameC s' b') (bytes (frameB s' (!b'))) from if_neg (by rw [bytes_len]; have := HS9.out; omega)]
            obtain ⟨bb, hbb⟩ : ∃ z, z = (b' || (readL false fc (bytes fb)).isSome) := ⟨_, rfl⟩
            have HON := Lib.hid (show fin E = false → KRun (s ++ x) b (L ++ [E]) sr bb ∧ sr.size < s'.size from fun h => by
              have h9 : bb = true := by rw [hbb]; rw [hE2] at h; exact event_wrong_fin h
              rw [h9, hsr]
              rw [hE] at h ⊢
              exact ⟨KRun.snoc HK.out h0 h, frameR_lt h0⟩)
            obtain ⟨ke, hke⟩ : ∃ z : Int, z = (E.k.toNat : Nat) := ⟨_, rfl⟩
            obtain ⟨ub, hub⟩ : ∃ z : ByteArray, z = ⟨E.u.toArray⟩ := ⟨_, rfl⟩
            obtain ⟨db, hdb⟩ : ∃ z : ByteArray, z = ⟨E.d.toArray⟩ := ⟨_, rfl⟩
            obtain ⟨tb, htb⟩ : ∃ z : ByteArray, z = ⟨E.t.toArray⟩ := ⟨_, rfl⟩
            have HKE := Lib.hid hke; have HUB := Lib.hid hub; have HDB := Lib.hid hdb; have HTB := Lib.hid htb
            obtain ⟨W5, hW5⟩ : ∃ z, z = (wc.setCell ⟨p, 0, none⟩ (.string sr)).alloc (.cells #[.int .u8 101, .string { data := #[] }, .string { data := #[] }, .string { data := #[48, 56, 80, 48, 49] }, .slice none 0 0] 36) := ⟨_, rfl⟩
            have HW5 := Lib.hid hW5
            obtain ⟨q2, hq2⟩ : ∃ z, z = wc.heap.size := ⟨_, rfl⟩
            have HQ9 := Lib.hid hq2
            have hz5 : W5.heap.size = wc.heap.size + 1 := by rw [hW5]; simp
            have hB5 : Below (wc.setCell ⟨p, 0, none⟩ (.string sr)).heap.size (wc.setCell ⟨p, 0, none⟩ (.string sr)) W5 := by rw [hW5]; exact (Below.refl _ _).alloc (Nat.le_refl _) _
            have HT5 := Lib.hid (show Turned wc W5 p none from turned_then (turned_set wc p 0 _) hB5 (by rw [World.size_setCell]; exact Nat.le_refl _))
            have HD5 := Lib.hid (show DCell W5 p sr b' false from (HDC.out.putS sr).same (hB5.block p (by rw [World.size_setCell]; exact hpc)))
            have HV5 := Lib.hid (show W5.heap[q2]? = some (.cells #[.int .u8 101, .string { data := #[] }, .string { data := #[] }, .string { data := #[48, 56, 80, 48, 49] }, .slice none 0 0] 36 (0, 0)) from by
              rw [hW5, hq2]
              have := heap_alloc_new (wc.setCell ⟨p, 0, none⟩ (.string sr)) (.cells #[.int .u8 101, .string { data := #[] }, .string { data := #[] }, .string { data := #[48, 56, 80, 48, 49] }, .slice none 0 0] 36)
              rw [World.size_setCell] at this; exact this)
            have HEV := Lib.hid (event18_any p sr b' fc (bytes fb) W5 HD5.out (by rw [bytes_len, hfb]; have := HS9.out; omega) (fun h => by rw [hfc, h]; rfl))
            rw [show (⟨(bytes fb).toArray⟩ : ByteArray) = fb from by simp [bytes], ← HCI.out, ← hE2, ← hbb] at HEV
            have q0 := (World.cell?_of_block (a := ⟨q, 0, none⟩) (HT5.out.block q hqz (by show q ≠ p; omega) (by simp))).trans q0
            have q1 := (World.cell?_of_block (a := ⟨q, 1, none⟩) (HT5.out.block q hqz (by show q ≠ p; omega) (by simp))).trans q1
            have HZ5 := Lib.hid hz5
            obtain ⟨c0, c1, c2⟩ := HDC.out.cell
            have g0 := HDC.out.frozen 0
            have hqp : q ≠ p := by omega
            clear hbl hE hE2 hfc hfb hsr hbb hke hub hdb htb hW5 hq2 hB5 h4 hz5 h0
            go_upto_region 10 with (fail)
            rw [← HW5.out, ← HQ9.out]
            go_wp2_with fail
            refine HEV.out.mono ?_; rintro e w5 ⟨sl, rfl, hEN, hD, hT⟩
            have HT55 := Lib.hid (HT5.out.trans18 hT)
            have HQZ := Lib.hid (show q2 < W5.heap.size ∧ q2 ≠ p from by have := HQ9.out; have := HZ5.out; omega)
            obtain ⟨⟨k0, k1, k2, k3, k4⟩, hf9⟩ := ev_cells ((hT.block q2 HQZ.out.1 HQZ.out.2 (by simp)).trans HV5.out)
            have f0 := hf9 0; have f1 := hf9 1; have f2 := hf9 2; have f3 := hf9 3; have f4 := hf9 4
            obtain ⟨b5, m5, d5, rfl, hN5, hQ5⟩ := hEN
            rw [show evV E (.slice b5 m5 d5) = .agg #[.int .u8 ke, .string ub, .string db, .string tb, .slice b5 m5 d5] from by rw [HKE.out, HUB.out, HDB.out, HTB.out]]
            obtain ⟨w6, hw6⟩ : ∃ z, z = ((((w5.setCell ⟨q2, 0, none⟩ (.int .u8 ke)).setCell ⟨q2, 1, none⟩ (.string ub)).setCell ⟨q2, 2, none⟩ (.string db)).setCell ⟨q2, 3, none⟩ (.string tb)).setCell ⟨q2, 4, none⟩ (.slice b5 m5 d5) := ⟨_, rfl⟩
            have HW6 := Lib.hid hw6
            have hz6' : w6.heap.size = w5.heap.size := by rw [hw6]; simp only [World.size_setCell]
            have hk6 : ∀ k, k ≠ q2 → w6.heap[k]? = w5.heap[k]? := fun k hk => by rw [hw6]; exact five_sets _ _ _ _ _ _ _ k hk
            have HTW := Lib.hid (show Turned wc w6 p none from by rw [hw6]; exact turned_sets (by have := HQ9.out; omega) HT55.out)
            have HL6 := Lib.hid (HTW.out.row18 HLC.out hpw)
            have HD6 := Lib.hid (hD.same (hk6 p (fun e => HQZ.out.2 e.symm)))
            have HT6 := Lib.hid (HTC.out.trans18 HTW.out)
            have HN6 := Lib.hid (show EvNums w6 (fun g => wr.heap.size ≤ g) E.n (.slice b5 m5 d5) from EvNums.from18 (B := W5.heap.size) ⟨b5, m5, d5, rfl, hN5, hQ5⟩ (by have := HZ5.out; have := HBC.out.size; omega) (by omega) (fun k hB _ => hk6 k (by have := HQZ.out.1; omega)))
            have HQ2 := Lib.hid (show wr.heap.size ≤ q2 ∧ q2 < w6.heap.size from ⟨by have := HQ9.out; have := HBC.out.size; omega, by have := HQZ.out.1; have := hT.size; omega⟩)
            have m' : w6.cell? ⟨q2, 0, none⟩ = some (.int .u8 ke) ∧ w6.cell? ⟨q2, 1, none⟩ = some (.string ub) ∧ w6.cell? ⟨q2, 2, none⟩ = some (.string db) ∧ w6.cell? ⟨q2, 3, none⟩ = some (.string tb) ∧ w6.cell? ⟨q2, 4, none⟩ = some (.slice b5 m5 d5) := by rw [hw6]; simp [go_sem, k0, k1, k2, k3, k4]
            obtain ⟨m0, m1, m2, m3, m4⟩ := m'
            clear hw6 hz6' hk6 hN5 hQ5 hD hT q0 q1 c0 c1 c2 g0 hqp
            go_upto_region 11 with (fail)
            rw [← HW6.out]
            clear k0 k1 k2 k3 k4 f0 f1 f2 f3 f4 hf9
            obtain ⟨xs, hO, hX⟩ := HL6.out
            have HX := Lib.hid hX
            have HO := Lib.hid hO
            have hlt9 := hO.lt
            have HLT := Lib.hid hlt9
            have hll6 : L.length ≤ 9000 := HLL.out
            have hz6 : w.heap.size ≤ w6.heap.size := HT6.out.size
            have hq2 : q2 < w6.heap.size := HQ2.out.2
            have hp6 : p < w6.heap.size := by omega
            obtain ⟨o0, o1, o2⟩ := HD6.out.cell
            clear hX hO hlt9 o0 o1 o2
            go_wp2_with (at_builtin; refine wpList_append_at _ rfl (.tmp 51) (.tmp 53) 31 rfl w.heap.size 36 iv (.agg #[.int .u8 0, .string { data := #[] }, .string { data := #[] }, .string { data := #[] }, .slice none 0 0]) 5 80 Tryz.underlying31 hiv z0 z1 z2 rfl (by decide) (.slice ta L.length tc) L.length xs rfl (HO.out.alloc _) ⟨w6.heap.size, 0, none⟩ 1 1 [.int .u8 ke, .string ub, .string db, .string tb, .slice b5 m5 d5] rfl rfl (five_cells _ _ _ _ _ _ _) (by simp [Value.oneCell']) (by unfold maxLen; omega) (by omega) (by rw [World.size_alloc]; omega) ?_)
            intro v8 w8 hO8 hg8 hf8
            have hB78 : Below w6.heap.size w6 (w6.alloc (.cells #[.int .u8 ke, .string ub, .string db, .string tb, .slice b5 m5 d5] 36)) := (Below.refl _ _).alloc (Nat.le_refl _) _
            have hrow : ∀ k, (Value.slice ta L.length tc).ownBlock = some k → w.heap.size ≤ k ∧ k < wr.heap.size := fun k hk => ⟨(HLT.out k hk).1, HRW.out k hk⟩
            have HNE7 : EvNums w6 (fun g => w.heap.size ≤ g ∧ some g ≠ (Value.slice ta L.length tc).ownBlock) E.n (.slice b5 m5 d5) := by
              obtain ⟨bb, mm, dd, e1, e2, e3⟩ := HN6.out
              exact ⟨bb, mm, dd, e1, e2, fun hn g off e => ⟨Nat.le_trans HWR.out (e3 hn g off e), fun e9 => by have := (hrow g e9.symm).2; have := e3 hn g off e; omega⟩⟩
            have HE8 := Lib.hid (show REvRow w8 w.heap.size v8 (L ++ [E]) from REvRow.put (w := w6.alloc (.cells #[.int .u8 ke, .string ub, .string db, .string tb, .slice b5 m5 d5] 36)) (fun i F hi => by
              obtain ⟨sl, c0, c1, c2, c3, c4, c5⟩ := HX.out i F hi
              exact ⟨sl, c0, c1, c2, c3, c4, c5.keep hB78.size (fun k _ hk => hB78.block k hk)⟩) HO.out.1 (sl := .slice b5 m5 d5) (by rw [← HKE.out, ← HUB.out, ← HDB.out, ← HTB.out]; exact hO8) (HNE7.keep hB78.size (fun k _ hk => hB78.block k hk)) hg8 (fun k hk => (hf8 k hk).imp id (fun h => by rw [World.size_alloc]; exact h)))
            have HB8 : ∀ k, k < w6.heap.size → some k ≠ (Value.slice ta L.length tc).ownBlock → w8.heap[k]? = w6.heap[k]? := fun k hk hn => (hg8.block k (Nat.lt_of_lt_of_le hk hB78.size) hn).trans (hB78.block k hk)
            have hnq : some q2 ≠ (Value.slice ta L.length tc).ownBlock := fun e => by have := (hrow q2 e.symm).2; have := HQ2.out.1; omega
            have hnp : some p ≠ (Value.slice ta L.length tc).ownBlock := fun e => by have := (hrow p e.symm).1; omega
            have m0 := (World.cell?_of_block (a := ⟨q2, 0, none⟩) (HB8 q2 hq2 hnq)).trans m0
            have HD8 := Lib.hid (HD6.out.same (HB8 p hp6 hnp))
            have HT8 := Lib.hid (show Turned w w8 p none from ⟨hg8.os.trans HT6.out.os, hg8.tape.trans HT6.out.tape, hg8.output.trans HT6.out.output, Nat.le_trans HT6.out.size (Nat.le_trans hB78.size hg8.size), fun k hk hp hq => (HB8 k (Nat.lt_of_lt_of_le hk HT6.out.size) (fun e => by have := (hrow k e.symm).1; omega)).trans (HT6.out.block k hk hp hq)⟩)
            have gp : w8.frozen? ⟨p, 2, none⟩ = false := HD8.out.frozen 2
            have gc := HD8.out.cell.2.2
            have hp8 : p < w8.heap.size := HD8.out.lt
            have hq8 : q2 < w8.heap.size := Nat.lt_of_lt_of_le hq2 (Nat.le_trans hB78.size hg8.size)
            have hw8 : w.heap.size ≤ w8.heap.size := HT8.out.size
            have HME := Lib.hid (measD_on HDR.out)
            obtain ⟨va, vc, hv8⟩ : ∃ va vc, v8 = .slice va (L.length + 1) vc := ownsRow_form hO8
            subst hv8
            have hfin : fin E = (decide (ke = 120) || decide (ke = 99) || decide (ke = 101)) := by
              rw [HKE.out]
              unfold fin
              have h : ∀ c : UInt8, (E.k == c) = decide ((E.k.toNat : Int) = (c.toNat : Nat)) := fun c => by
                by_cases e : E.k = c
                · rw [e]; simp
                · rw [decide_eq_false (fun e9 => e (UInt8.toNat_inj.1 (by omega)))]; simpa using e
              rw [h, h, h]; rfl
            clear hB78 hO8 hg8 hf8 hrow HB8 hnq hnp HNE7 m1 m2 m3 m4
            by_cases e1 : ke = 120
            · have d1 : (ke == 120) = true := by simpa using e1
              have HFIN := Lib.hid (show fin E = true by rw [hfin, decide_eq_true e1]; rfl)
              clear hfin e1
              go_wp2_with fail
              go_roundw
              case measure => rw [HME.out, measD_over (HD8.out.putO true)]; omega
              case rel => exact ⟨L ++ [E], HE8.out.keep (Nat.le_of_eq (World.size_setCell _ _ _).symm) (fun k hB _ => Below.heap_setCell _ _ _ _ (show k ≠ p by omega)), HT8.out.trans18 (turned_set _ _ _ _), .inr ⟨⟨_, _, HD8.out.putO true, HSL.out⟩, HOVER.out HFIN.out⟩⟩
            · have d1 : (ke == 120) = false := by simpa using e1
              by_cases e2 : ke = 99
              · have d2 : (ke == 99) = true := by simpa using e2
                have HFIN := Lib.hid (show fin E = true by rw [hfin, decide_eq_true e2]; simp)
                clear hfin e1 e2
                go_wp2_with fail
                go_roundw
                case measure => rw [HME.out, measD_over (HD8.out.putO true)]; omega
                case rel => exact ⟨L ++ [E], HE8.out.keep (Nat.le_of_eq (World.size_setCell _ _ _).symm) (fun k hB _ => Below.heap_setCell _ _ _ _ (show k ≠ p by omega)), HT8.out.trans18 (turned_set _ _ _ _), .inr ⟨⟨_, _, HD8.out.putO true, HSL.out⟩, HOVER.out HFIN.out⟩⟩
              · have d2 : (ke == 99) = false := by simpa using e2
                by_cases e3 : ke = 101
                · have d3 : (ke == 101) = true := by simpa using e3
                  have HFIN := Lib.hid (show fin E = true by rw [hfin, decide_eq_true e3]; simp)
                  clear hfin e1 e2 e3
                  go_wp2_with fail
                  go_roundw
                  case measure => rw [HME.out, measD_over (HD8.out.putO true)]; omega
                  case rel => exact ⟨L ++ [E], HE8.out.keep (Nat.le_of_eq (World.size_setCell _ _ _).symm) (fun k hB _ => Below.heap_setCell _ _ _ _ (show k ≠ p by omega)), HT8.out.trans18 (turned_set _ _ _ _), .inr ⟨⟨_, _, HD8.out.putO true, HSL.out⟩, HOVER.out HFIN.out⟩⟩
                · have d3 : (ke == 101) = false := by simpa using e3
                  have HFIN := Lib.hid (show fin E = false by rw [hfin, decide_eq_false e1, decide_eq_false e2, decide_eq_false e3]; rfl)
                  have hsz9 := (HON.out HFIN.out).2
                  clear hfin e1 e2 e3
                  go_wp2_with fail
                  go_roundw
                  case measure => rw [HME.out, measD_on (HD8.out.putO false)]; omega
                  case rel => exact ⟨L ++ [E], HE8.out.keep (Nat.le_of_eq (World.size_setCell _ _ _).symm) (fun k hB _ => Below.heap_setCell _ _ _ _ (show k ≠ p by omega)), HT8.out.trans18 (turned_set _ _ _ _), .inl ⟨_, _, HD8.out.putO false, (HON.out HFIN.out).1⟩⟩
          · have hn0 : (er == 0) = false := by rw [HER.out]; simpa using h0
            have HSL := Lib.hid (show s'.size ≤ s.size + x.size from HSA.out)
            obtain ⟨E, hE⟩ : ∃ E, E = wrongEv c_bytes := ⟨_, rfl⟩
            have HOVER := Lib.hid (show fin E = true → KTold (s ++ x) b (L ++ [E]) none from fun _ => by rw [hE]; exact HK.out.told (KTold.wrong h4 h0))
            have HON := Lib.hid (show fin E = false → KRun (s ++ x) b (L ++ [E]) s' b' ∧ s'.size < s'.size from fun h => by rw [hE] at h; cases h)
            obtain ⟨ke, hke⟩ : ∃ z : Int, z = (E.k.toNat : Nat) := ⟨_, rfl⟩
            obtain ⟨ub, hub⟩ : ∃ z : ByteArray, z = ⟨E.u.toArray⟩ := ⟨_, rfl⟩
            obtain ⟨db, hdb⟩ : ∃ z : ByteArray, z = ⟨E.d.toArray⟩ := ⟨_, rfl⟩
            obtain ⟨tb, htb⟩ : ∃ z : ByteArray, z = ⟨E.t.toArray⟩ := ⟨_, rfl⟩
            have HKE := Lib.hid hke; have HUB := Lib.hid hub; have HDB := Lib.hid hdb; have HTB := Lib.hid htb
            obtain ⟨w6, hw6⟩ : ∃ z, z = wc.alloc (.cells #[.int .u8 ke, .string ub, .string db, .string tb, .slice none 0 0] 36) := ⟨_, rfl⟩
            have hw6' : w6 = wc.alloc (.cells #[.int .u8 101, .string { data := #[] }, .string { data := #[] }, .string { data := #[48, 56, 80, 48, 49] }, .slice none 0 0] 36) := by rw [hw6, hke, hub, hdb, htb, hE]; rfl
            have HW6 := Lib.hid hw6'
            obtain ⟨q2, hq2⟩ : ∃ z, z = wc.heap.size := ⟨_, rfl⟩
            have HQ9 := Lib.hid hq2
            have hB6 : Below wc.heap.size wc w6 := by rw [hw6]; exact (Below.refl _ _).alloc (Nat.le_refl _) _
            have HL6 := Lib.hid (HLC.out.keep hB6.size (fun k _ hk => hB6.block k hk))
            have HD6 := Lib.hid (HDC.out.same (hB6.block p hpc))
            have HT6 := Lib.hid (turned_then HTC.out hB6 HTC.out.size)
            have HN6 := Lib.hid (show EvNums w6 (fun g => wr.heap.size ≤ g) E.n (.slice none 0 0) from by rw [hE]; exact evNums_nil _ _)
            have HQ2 := Lib.hid (show wr.heap.size ≤ q2 ∧ q2 < w6.heap.size from ⟨by rw [hq2]; exact HBC.out.size, by rw [hq2, hw6]; simp⟩)
            have m' : w6.cell? ⟨q2, 0, none⟩ = some (.int .u8 ke) ∧ w6.cell? ⟨q2, 1, none⟩ = some (.string ub) ∧ w6.cell? ⟨q2, 2, none⟩ = some (.string db) ∧ w6.cell? ⟨q2, 3, none⟩ = some (.string tb) ∧ w6.cell? ⟨q2, 4, none⟩ = some (.slice none 0 0) := by rw [hw6, hq2]; simp [go_sem]
            obtain ⟨m0, m1, m2, m3, m4⟩ := m'
            clear hw6 hw6' hB6 h0 h4 hE hke hub hdb htb hq2
            go_upto_region 11 with (fail)
            rw [← HW6.out, ← HQ9.out]
            clear q0 q1 c0 c1 c2
            obtain ⟨xs, hO, hX⟩ := HL6.out
            have HX := Lib.hid hX
            have HO := Lib.hid hO
            have hlt9 := hO.lt
            have HLT := Lib.hid hlt9
            have hll6 : L.length ≤ 9000 := HLL.out
            have hz6 : w.heap.size ≤ w6.heap.size := HT6.out.size
            have hq2 : q2 < w6.heap.size := HQ2.out.2
            have hp6 : p < w6.heap.size := by omega
            obtain ⟨o0, o1, o2⟩ := HD6.out.cell
            clear hX hO hlt9 o0 o1 o2
            go_wp2_with (at_builtin; refine wpList_append_at _ rfl (.tmp 51) (.tmp 53) 31 rfl w.heap.size 36 iv (.agg #[.int .u8 0, .string { data := #[] }, .string { data := #[] }, .string { data := #[] }, .slice none 0 0]) 5 80 Tryz.underlying31 hiv z0 z1 z2 rfl (by decide) (.slice ta L.length tc) L.length xs rfl (HO.out.alloc _) ⟨w6.heap.size, 0, none⟩ 1 1 [.int .u8 ke, .string ub, .string db, .string tb, .slice none 0 0] rfl rfl (five_cells _ _ _ _ _ _ _) (by simp [Value.oneCell']) (by unfold maxLen; omega) (by omega) (by rw [World.size_alloc]; omega) ?_)
            intro v8 w8 hO8 hg8 hf8
            have hB78 : Below w6.heap.size w6 (w6.alloc (.cells #[.int .u8 ke, .string ub, .string db, .string tb, .slice none 0 0] 36)) := (Below.refl _ _).alloc (Nat.le_refl _) _
            have hrow : ∀ k, (Value.slice ta L.length tc).ownBlock = some k → w.heap.size ≤ k ∧ k < wr.heap.size := fun k hk => ⟨(HLT.out k hk).1, HRW.out k hk⟩
            have HNE7 : EvNums w6 (fun g => w.heap.size ≤ g ∧ some g ≠ (Value.slice ta L.length tc).ownBlock) E.n (.slice none 0 0) := by
              obtain ⟨bb, mm, dd, e1, e2, e3⟩ := HN6.out
              exact ⟨bb, mm, dd, e1, e2, fun hn g off e => ⟨Nat.le_trans HWR.out (e3 hn g off e), fun e9 => by have := (hrow g e9.symm).2; have := e3 hn g off e; omega⟩⟩
            have HE8 := Lib.hid (show REvRow w8 w.heap.size v8 (L ++ [E]) from REvRow.put (w := w6.alloc (.cells #[.int .u8 ke, .string ub, .string db, .string tb, .slice none 0 0] 36)) (fun i F hi => by
              obtain ⟨sl, c0, c1, c2, c3, c4, c5⟩ := HX.out i F hi
              exact ⟨sl, c0, c1, c2, c3, c4, c5.keep hB78.size (fun k _ hk => hB78.block k hk)⟩) HO.out.1 (sl := .slice none 0 0) (by rw [← HKE.out, ← HUB.out, ← HDB.out, ← HTB.out]; exact hO8) (HNE7.keep hB78.size (fun k _ hk => hB78.block k hk)) hg8 (fun k hk => (hf8 k hk).imp id (fun h => by rw [World.size_alloc]; exact h)))
            have HB8 : ∀ k, k < w6.heap.size → some k ≠ (Value.slice ta L.length tc).ownBlock → w8.heap[k]? = w6.heap[k]? := fun k hk hn => (hg8.block k (Nat.lt_of_lt_of_le hk hB78.size) hn).trans (hB78.block k hk)
            have hnq : some q2 ≠ (Value.slice ta L.length tc).ownBlock := fun e => by have := (hrow q2 e.symm).2; have := HQ2.out.1; omega
            have hnp : some p ≠ (Value.slice ta L.length tc).ownBlock := fun e => by have := (hrow p e.symm).1; omega
            have m0 := (World.cell?_of_block (a := ⟨q2, 0, none⟩) (HB8 q2 hq2 hnq)).trans m0
            have HD8 := Lib.hid (HD6.out.same (HB8 p hp6 hnp))
            have HT8 := Lib.hid (show Turned w w8 p none from ⟨hg8.os.trans HT6.out.os, hg8.tape.trans HT6.out.tape, hg8.output.trans HT6.out.output, Nat.le_trans HT6.out.size (Nat.le_trans hB78.size hg8.size), fun k hk hp hq => (HB8 k (Nat.lt_of_lt_of_le hk HT6.out.size) (fun e => by have := (hrow k e.symm).1; omega)).trans (HT6.out.block k hk hp hq)⟩)
            have gp : w8.frozen? ⟨p, 2, none⟩ = false := HD8.out.frozen 2
            have gc := HD8.out.cell.2.2
            have hp8 : p < w8.heap.size := HD8.out.lt
            have hq8 : q2 < w8.heap.size := Nat.lt_of_lt_of_le hq2 (Nat.le_trans hB78.size hg8.size)
            have hw8 : w.heap.size ≤ w8.heap.size := HT8.out.size
            have HME := Lib.hid (measD_on HDR.out)
            obtain ⟨va, vc, hv8⟩ : ∃ va vc, v8 = .slice va (L.length + 1) vc := ownsRow_form hO8
            subst hv8
            have hfin : fin E = (decide (ke = 120) || decide (ke = 99) || decide (ke = 101)) := by
              rw [HKE.out]
              unfold fin
              have h : ∀ c : UInt8, (E.k == c) = decide ((E.k.toNat : Int) = (c.toNat : Nat)) := fun c => by
                by_cases e : E.k = c
                · rw [e]; simp
                · rw [decide_eq_false (fun e9 => e (UInt8.toNat_inj.1 (by omega)))]; simpa using e
              rw [h, h, h]; rfl
            clear hB78 hO8 hg8 hf8 hrow HB8 hnq hnp HNE7 m1 m2 m3 m4
            by_cases e1 : ke = 120
            · have d1 : (ke == 120) = true := by simpa using e1
              have HFIN := Lib.hid (show fin E = true by rw [hfin, decide_eq_true e1]; rfl)
              clear hfin e1
              go_wp2_with fail
              go_roundw
              case measure => rw [HME.out, measD_over (HD8.out.putO true)]; omega
              case rel => exact ⟨L ++ [E], HE8.out.keep (Nat.le_of_eq (World.size_setCell _ _ _).symm) (fun k hB _ => Below.heap_setCell _ _ _ _ (show k ≠ p by omega)), HT8.out.trans18 (turned_set _ _ _ _), .inr ⟨⟨_, _, HD8.out.putO true, HSL.out⟩, HOVER.out HFIN.out⟩⟩
            · have d1 : (ke == 120) = false := by simpa using e1
              by_cases e2 : ke = 99
              · have d2 : (ke == 99) = true := by simpa using e2
                have HFIN := Lib.hid (show fin E = true by rw [hfin, decide_eq_true e2]; simp)
                clear hfin e1 e2
                go_wp2_with fail
                go_roundw
                case measure => rw [HME.out, measD_over (HD8.out.putO true)]; omega
                case rel => exact ⟨L ++ [E], HE8.out.keep (Nat.le_of_eq (World.size_setCell _ _ _).symm) (fun k hB _ => Below.heap_setCell _ _ _ _ (show k ≠ p by omega)), HT8.out.trans18 (turned_set _ _ _ _), .inr ⟨⟨_, _, HD8.out.putO true, HSL.out⟩, HOVER.out HFIN.out⟩⟩
              · have d2 : (ke == 99) = false := by simpa using e2
                by_cases e3 : ke = 101
                · have d3 : (ke == 101) = true := by simpa using e3
                  have HFIN := Lib.hid (show fin E = true by rw [hfin, decide_eq_true e3]; simp)
                  clear hfin e1 e2 e3
                  go_wp2_with fail
                  go_roundw
                  case measure => rw [HME.out, measD_over (HD8.out.putO true)]; omega
                  case rel => exact ⟨L ++ [E], HE8.out.keep (Nat.le_of_eq (World.size_setCell _ _ _).symm) (fun k hB _ => Below.heap_setCell _ _ _ _ (show k ≠ p by omega)), HT8.out.trans18 (turned_set _ _ _ _), .inr ⟨⟨_, _, HD8.out.putO true, HSL.out⟩, HOVER.out HFIN.out⟩⟩
                · have d3 : (ke == 101) = false := by simpa using e3
                  have HFIN := Lib.hid (show fin E = false by rw [hfin, decide_eq_false e1, decide_eq_false e2, decide_eq_false e3]; rfl)
                  have hsz9 := (HON.out HFIN.out).2
                  clear hfin e1 e2 e3
                  exact absurd hsz9 (Nat.lt_irrefl _)
    · have HD9 := Lib.hid hD; have HK9 := Lib.hid hK
      obtain ⟨c0, c1, c2⟩ := hD.cell
      clear hD hK
      go_wp2_with fail
      go_ret
      exact ⟨_, L, none, rfl, HK9.out, HL.out, ⟨_, _, HD9.out, hsl⟩, HT.out⟩
end Go.Proofs.YtmofnkinclckoaaGreatDoor
