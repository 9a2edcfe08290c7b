/- Layouts as rows, and their letters. -/
import Derived.Test.YtfdffiphlpeegaaDoorMLay
namespace Go.Proofs.YtfdffiphlpeegaaDoor

def look : Bs → List Bs → UInt8 → Option Bs
  | k :: ks, r :: rs, c => if c = k then some r else look ks rs c
  | _, _, _ => none
def KC : Bs := [0, 81, 112, 88, 83, 72, 80, 66, 69, 68, 67]
def RC : List Bs := [[105, 112], [115], [115], [], [], [], [115, 115, 108], [115, 115, 99, 118, 99], [115, 105], [98, 115], [98, 115]]
def KS : Bs := [82, 83, 75, 90, 67, 69, 78, 84, 68, 73, 49, 50, 51, 110, 115]
def RS' : List Bs := [[105], [115, 115], [105, 105], [98], [115], [102], [102], [109], [118], [], [], [], [], [], []]
theorem look_client (c : UInt8) : layC c = look KC RC c := rfl
theorem look_server (c : UInt8) : layS c = look KS RS' c := rfl
/-- A letter of a layout. -/
def letter (c : UInt8) : Bool := [115, 98, 105, 112, 102, 99, 108, 118, 109].contains c
theorem look_mem : ∀ {K : Bs} {R : List Bs} {c : UInt8} {r : Bs}, look K R c = some r → r ∈ R
  | k :: ks, r' :: rs, c, r, h => by
    rw [look] at h
    split at h
    · obtain rfl := Option.some.inj h
      exact List.mem_cons_self ..
    · exact List.mem_cons_of_mem _ (look_mem h)
  | [], _, _, _, h => by unfold look at h; cases h
  | _ :: _, [], _, _, h => by unfold look at h; cases h
theorem letters_of : (∀ r ∈ RC, ∀ c ∈ r, letter c = true) ∧ (∀ r ∈ RS', ∀ c ∈ r, letter c = true) := by decide
theorem lens_of : (∀ r ∈ RC, r.length ≤ 5) ∧ (∀ r ∈ RS', r.length ≤ 5) := by decide
theorem lay_letters {back : Bool} {c : UInt8} {l : Bs} (h : lay back c = some l) : (∀ d ∈ l, letter d = true) ∧ l.length ≤ 5 := by
  cases back with
  | true => have h' : look KS RS' c = some l := h; exact ⟨letters_of.2 l (look_mem h'), lens_of.2 l (look_mem h')⟩
  | false => have h' : look KC RC c = some l := h; exact ⟨letters_of.1 l (look_mem h'), lens_of.1 l (look_mem h')⟩
end Go.Proofs.YtfdffiphlpeegaaDoor
