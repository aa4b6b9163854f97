/- Sessions: the law's known, same, sess. -/
import Derived.Test.YtodgcfmacmfcpaaSB
import Derived.Test.YtodgcfmacmfcpaaHV
import Derived.Test.YtodgcfmacmfcpaaRG
namespace Go.Proofs.Ytodgcfmacmfcpaa
open Go.RowKit

theorem Note_eq (g : Nat) (l : List Se) (a b c : Int) (v : ByteArray) (w : World) (h : SesAt w g l) (l' : List Se) (ok : Bool) (h1 : noteS l ⟨a, b, c, v⟩ = l') (h2 : mayS l ⟨a, b, c, v⟩ = ok) :
    Calls Try.prog 31 #[.pointer (some ⟨g, 0, none⟩), .agg #[.int .i64 a, .int .i64 b, .int .i64 c, .string v]] w fun e w' => e = .returned (.bool ok) ∧ SesAt w' g l' ∧ Only (fun k => k = g) w w' := by
  subst h1 h2; exact Note_sp g l a b c v w h
theorem All_eq (g : Nat) (l : List Se) (w : World) (h : SesAt w g l) (r : List Se) (n : Nat) (h1 : allS l = r) (h2 : r.length = n) :
    Calls Try.prog 33 #[.pointer (some ⟨g, 0, none⟩)] w fun e w' => ∃ ao cap, e = .returned (.slice ao n cap) ∧ OwnK seK w.heap.size w' ao cap r ∧ Below w.heap.size w w' := by
  subst h1 h2; exact All_any g l w h
theorem kn1 : noteS zeroS ⟨1, 3, 0, ⟨#[]⟩⟩ = [Se.z, ⟨1, 3, 0, ⟨#[]⟩⟩, Se.z, Se.z] := by kernel_rfl
theorem kn2 : mayS zeroS ⟨1, 3, 0, ⟨#[]⟩⟩ = true := by kernel_rfl
theorem kn3 : noteS [Se.z, ⟨1, 3, 0, ⟨#[]⟩⟩, Se.z, Se.z] ⟨1, 3, 0, ⟨#[]⟩⟩ = [Se.z, ⟨1, 3, 0, ⟨#[]⟩⟩, Se.z, Se.z] := by kernel_rfl
theorem kn4 : mayS [Se.z, ⟨1, 3, 0, ⟨#[]⟩⟩, Se.z, Se.z] ⟨1, 3, 0, ⟨#[]⟩⟩ = false := by kernel_rfl
theorem kn5 : allS [Se.z, ⟨1, 3, 0, ⟨#[]⟩⟩, Se.z, Se.z] = [⟨1, 3, 0, ⟨#[]⟩⟩] := by kernel_rfl
end Go.Proofs.Ytodgcfmacmfcpaa
