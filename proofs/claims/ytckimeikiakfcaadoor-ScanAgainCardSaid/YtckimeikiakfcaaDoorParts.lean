/- What parts statements; where it stands first. -/
import Derived.Test.YtckimeikiakfcaaDoorTold
import Derived.Test.YtckimeikiakfcaaDoorJoinM
import Derived.BigQuiet
import Derived.Deep.QuietTactic
namespace Go.Proofs.YtckimeikiakfcaaDoor
open Go.RowKit Go.Lib Go.WideShapes

def semi (t : Tok) : Bool := t.kind == 111 && t.text == [59]
def tokV (q : Tok) : Value := .agg #[.int .u8 (q.kind.toNat : Nat), .string ⟨q.text.toArray⟩, .int .i64 q.lo, .int .i64 q.hi]

theorem text_eq (t : Bs) (l : Bs) : (⟨t.toArray⟩ : ByteArray) = ⟨l.toArray⟩ ↔ t = l := by
  constructor
  · intro h; have := congrArg (fun x => x.data.toList) h; simpa using this
  · rintro rfl; rfl

theorem parts_any (q : Tok) (w : World) :
    Calls Tryd.prog 32 #[tokV q] w fun e w' => e = .returned (.bool (semi q)) ∧ Below w.heap.size w w' := by
  obtain ⟨k, tx, lo, hi⟩ := q
  unfold tokV
  by_cases h1 : k = 111
  · subst h1
    have HS := Lib.hid (show semi ⟨111, tx, lo, hi⟩ = (tx == [59]) by unfold semi; simp)
    go_enter Tryd.func32, Tryd.ntmps32
    go_wp2_with fail
    go_ret
    rw [HS.out]
    exact ⟨rfl, (Below.refl _ w).alloc (Nat.le_refl _) _⟩
  · have HS := Lib.hid (show semi ⟨k, tx, lo, hi⟩ = false by unfold semi; simp [h1])
    have h2 : ¬ ((k.toNat : Nat) : Int) = 111 := fun e => h1 (UInt8.toNat_inj.1 (show k.toNat = (111 : UInt8).toNat from (by omega : k.toNat = 111)))
    have h3 : (((k.toNat : Nat) : Int) == 111) = false := by rw [← Bool.not_eq_true]; simpa using h2
    clear h1
    go_enter Tryd.func32, Tryd.ntmps32
    go_wp2_with fail
    go_ret
    rw [HS.out]
    exact ⟨rfl, (Below.refl _ w).alloc (Nat.le_refl _) _⟩
end Go.Proofs.YtckimeikiakfcaaDoor
