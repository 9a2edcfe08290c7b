/- A text with other letters great, as the law writes it. -/
import Derived.Test.YtgopajddloeclaaDoorLPAgainM
import Derived.Test.YtgopajddloeclaaDoorZ6
namespace Go.Proofs.YtgopajddloeclaaDoor
open Go.RowKit Go.Lib Go.WideShapes

/-- The bytes G in block g. -/
structure GRow (w wr : World) (g : Nat) (G : Bs) : Prop where
  below : Below w.heap.size w wr
  new : w.heap.size ≤ g
  cells : ∀ (j : Nat) (c : UInt8), G[j]? = some c → wr.cell? ⟨g, j, none⟩ = some (.int .u8 (c.toNat : Nat))
  free : ∀ j, j < G.length → wr.frozen? ⟨g, j, none⟩ = false
theorem GRow.start {w W : World} {g : Nat} {s : ByteArray} (h : Folds w W g s 0) : GRow w W g (bytes s) := by
  refine ⟨h.below, h.new, fun j c hc => ?_, fun j hj => h.free j (by rw [bytes_len] at hj; exact hj)⟩
  have hl := (List.getElem?_eq_some_iff.1 hc).1
  rw [bytes_len] at hl
  rw [h.cells j hl, if_neg (Nat.not_lt_zero _)]
  have : pb s j = c.toNat := by
    unfold pb
    rw [List.getD_eq_getElem?_getD, hc]; rfl
  rw [this]
theorem GRow.store {w wr : World} {g k : Nat} {G : Bs} {c : UInt8} (h : GRow w wr g G) (hk : k < G.length) : GRow w (wr.setCell ⟨g, k, none⟩ (.int .u8 (c.toNat : Nat))) g (G.set k c) := by
  refine ⟨h.below.setCell h.new _, h.new, fun j d hd => ?_, fun j hj => by rw [World.frozen?_setCell]; exact h.free j (by rw [List.length_set] at hj; exact hj)⟩
  by_cases h2 : j = k
  · subst h2
    rw [List.getElem?_set_self hk] at hd
    rw [World.cell?_setCell_same _ _ _ (h.cells j _ (List.getElem?_eq_getElem hk)), Option.some.inj hd]
  · rw [List.getElem?_set_ne (fun e => h2 e.symm)] at hd
    rw [World.cell?_setCell_other _ _ _ _ (by intro e; injection e with _ e2; exact h2 e2.symm), h.cells j d hd]
theorem GRow.text {w wr : World} {g : Nat} {G : Bs} (h : GRow w wr g G) (c : Nat) : (convert 52 9 (.slice (some ⟨g, 0, none⟩) G.length c)).run Tryd.prog wr = .ok (.string ⟨G.toArray⟩) wr :=
  run_convert_bytes_back (P := Tryd.prog) wr 52 9 5 ⟨g, 0, none⟩ c G Tryd.underlying52 Tryd.underlying5 Tryd.underlying9 (fun k hk => by
    rw [add_plain, Nat.zero_add]
    exact h.cells k G[k] (List.getElem?_eq_getElem hk))

theorem ups_set {G s : Bs} {k : Nat} {c : UInt8} (h : Ups G s) (hk : s[k]? = some c) (h1 : 97 ≤ c) (h2 : c ≤ 122) : Ups (G.set k (c - 32)) s := by
  refine ⟨by rw [List.length_set]; exact h.1, fun i a b ha hb => ?_⟩
  by_cases hi : i = k
  · subst hi
    have hl := (List.getElem?_eq_some_iff.1 hk).1
    rw [List.getElem?_set_self (by rw [h.1]; exact hl)] at ha
    rw [hk] at hb
    obtain rfl := Option.some.inj hb
    exact .inr ⟨h1, h2, (Option.some.inj ha).symm⟩
  · rw [List.getElem?_set_ne (fun e => hi e.symm)] at ha
    exact h.2 i a b ha hb
theorem ups_refl (s : Bs) : Ups s s := ⟨rfl, fun i a b ha hb => .inl (by rw [ha] at hb; exact Option.some.inj hb)⟩

set_option maxHeartbeats 4000000 in
set_option maxRecDepth 100000 in
theorem great_any (s : ByteArray) (bits : Int) (w : World) (hs : s.size ≤ 2000) :
    Calls Tryd.prog 18 #[.string s, .int .i64 bits] w fun e w' => ∃ G : Bs, e = .returned (.string ⟨G.toArray⟩) ∧ Ups G (bytes s) ∧ Below w.heap.size w w' := by
  obtain ⟨cap, W, hcv, hF⟩ := folds_start s w
  have HF := Lib.hid (GRow.start hF)
  obtain ⟨g, hg⟩ : ∃ g, g = w.heap.size := ⟨_, rfl⟩
  rw [← hg] at hcv HF
  clear hF hg
  go_enter Tryd.func18, Tryd.ntmps18
  go_wp2_with fail
  clear hcv
  go_loopg [6] s.size (fun gg i wr => ∃ (k : Nat) (G : Bs), k ≤ s.size ∧ i = .int .i64 k ∧ GRow w wr g G ∧ Ups G (bytes s) ∧ (∀ j, k ≤ j → G[j]? = (bytes s)[j]?) ∧ gg = s.size - k)
  case atStart => exact ⟨0, bytes s, Nat.zero_le _, rfl, HF.out, ups_refl _, fun _ _ => rfl, rfl⟩
  case round =>
    obtain ⟨k, G, hk, rfl, hR, hU, hJ, hgg⟩ := hrel
    have HR := Lib.hid hR; have HU := Lib.hid hU; have HJ := Lib.hid hJ; have HGG := Lib.hid hgg
    have HGL := Lib.hid (show G.length = s.size by rw [hU.1, bytes_len])
    clear hR hU hJ hgg HF
    by_cases hlt : k < s.size
    · have hlt' : (k : Int) < s.size := by omega
      obtain ⟨c, hc⟩ : ∃ c, (bytes s)[k]? = some c := ⟨_, List.getElem?_eq_getElem (by rw [bytes_len]; exact hlt)⟩
      have c0 := HR.out.cells k c (by rw [HJ.out k (Nat.le_refl _)]; exact hc)
      have f0 := HR.out.free k (by rw [HGL.out]; exact hlt)
      have HC := Lib.hid hc
      have HNX := Lib.hid (show ∀ j, k + 1 ≤ j → G[j]? = (bytes s)[j]? from fun j hj => HJ.out j (by omega))
      have hc8 : (c.toNat : Int) < 256 := by have := c.toNat_lt; omega
      have r0 : 0 ≤ (k : Int) % 20 := by omega
      have r1 : (k : Int) % 20 < 20 := by omega
      clear hc
      by_cases h1 : (97 : Int) ≤ c.toNat ∧ (c.toNat : Int) ≤ 122
      · obtain ⟨h1, h2⟩ := h1
        have HL := Lib.hid (show (97 : UInt8) ≤ c ∧ c ≤ 122 from ⟨by rw [UInt8.le_iff_toNat_le]; show 97 ≤ c.toNat; omega, by rw [UInt8.le_iff_toNat_le]; show c.toNat ≤ 122; omega⟩)
        have HV := Lib.hid (show ((c.toNat : Int) - 32) = ((c - 32 : UInt8).toNat : Nat) by
          rw [UInt8.toNat_sub_of_le c 32 (by rw [UInt8.le_iff_toNat_le]; show 32 ≤ c.toNat; omega)]
          show _ = ((c.toNat - 32 : Nat) : Int)
          omega)
        have HST := Lib.hid (HR.out.store (k := k) (c := c - 32) (by rw [HGL.out]; exact hlt))
        rw [← HV.out] at HST
        have HUS := Lib.hid (ups_set HU.out HC.out HL.out.1 HL.out.2)
        have HNS := Lib.hid (show ∀ j, k + 1 ≤ j → (G.set k (c - 32))[j]? = (bytes s)[j]? from fun j hj => by rw [List.getElem?_set_ne (by omega)]; exact HNX.out j hj)
        clear HV
        go_wp2_with fail
        · go_roundg (s.size - (k + 1))
          case measure => have := HGG.out; omega
          case rel => exact ⟨k + 1, _, by omega, by go_num, HST.out, HUS.out, HNS.out, rfl⟩
        · go_roundg (s.size - (k + 1))
          case measure => have := HGG.out; omega
          case rel => exact ⟨k + 1, G, by omega, by go_num, HR.out, HU.out, HNX.out, rfl⟩
      · have h2 : decide ((97 : Int) ≤ c.toNat) = false ∨ decide ((97 : Int) ≤ c.toNat) = true ∧ decide ((c.toNat : Int) ≤ 122) = false := by
          by_cases h : (97 : Int) ≤ c.toNat
          · exact .inr ⟨decide_eq_true h, decide_eq_false (fun e => h1 ⟨h, e⟩)⟩
          · exact .inl (decide_eq_false h)
        clear h1
        rcases h2 with h2 | ⟨h2, h3⟩
        · have h2' : (c.toNat : Int) < 97 := by simpa using h2
          go_wp2_with fail
          go_roundg (s.size - (k + 1))
          case measure => have := HGG.out; omega
          case rel => exact ⟨k + 1, G, by omega, by go_num, HR.out, HU.out, HNX.out, rfl⟩
        · have h2' : (97 : Int) ≤ c.toNat := by simpa using h2
          have h3' : (122 : Int) < c.toNat := by simpa using h3
          go_wp2_with fail
          go_roundg (s.size - (k + 1))
          case measure => have := HGG.out; omega
          case rel => exact ⟨k + 1, G, by omega, by go_num, HR.out, HU.out, HNX.out, rfl⟩
    · obtain rfl : k = s.size := by omega
      have htx := HR.out.text cap
      rw [HGL.out] at htx
      go_wp2_with fail
      go_ret
      exact ⟨G, rfl, HU.out, HR.out.below⟩
end Go.Proofs.YtgopajddloeclaaDoor
