/- Texts as rows of bytes. No program is named here. -/
import Derived.Test.YtaalopiegabghaaGreatDoorFrame
namespace Go.Proofs.YtaalopiegabghaaGreatDoor

abbrev Bs := List UInt8
abbrev bytes (s : ByteArray) : Bs := s.data.toList
theorem bytes_len (s : ByteArray) : (bytes s).length = s.size := by simp [bytes]
theorem blen (s : ByteArray) : (bytes s).length = s.size := bytes_len s
theorem bsize (a : Bs) : (⟨a.toArray⟩ : ByteArray).size = a.length := by simp [ByteArray.size]
end Go.Proofs.YtaalopiegabghaaGreatDoor
