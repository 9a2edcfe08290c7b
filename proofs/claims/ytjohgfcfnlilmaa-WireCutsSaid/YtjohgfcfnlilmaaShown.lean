/- The chapter's example stands: what all laws ask first. -/
import Derived.Test.YtjohgfcfnlilmaaRows
import Derived.Test.YtjohgfcfnlilmaaPlain
import Derived.Test.YtjohgfcfnlilmaaPack
namespace Go.Proofs.Ytjohgfcfnlilmaa
open Go.RowKit

theorem packQ : packB 81 { data := #[97] } = { data := #[81, 0, 0, 0, 5, 97] } := by decide +kernel

theorem shown_true (w : World) : Calls Try.prog 11 #[] w fun e w' => e = .returned (.bool true) ∧ Below w.heap.size w w' := by
  have hp := pack_type 81 { data := #[97] }
  rw [packQ] at hp
  go_enter Try.func11, Try.ntmps11
  go_wp2_with (go_at_call 12; refine (hp _ (by decide) (by omega) (by omega)).mono ?_; rintro e w' ⟨rfl, hb⟩)
  go_ret
  exact ⟨rfl, hb⟩
end Go.Proofs.Ytjohgfcfnlilmaa
