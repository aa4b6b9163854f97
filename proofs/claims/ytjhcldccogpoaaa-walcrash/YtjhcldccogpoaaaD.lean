/- Put -/
import Derived.Test.YtjhcldccogpoaaaC
namespace Go.Proofs.Ytjhcldccogpoaaa
open Go.RowKit

/-- what Put answers -/
def putS (l : List UInt8) (ns : List Int) : List UInt8 := if ns.any outB then [] else l ++ encs ns
theorem putS_bad {l : List UInt8} {ns : List Int} (h : ns.any outB = true) : putS l ns = [] := by simp only [putS, h, if_true]
theorem putS_ok {l : List UInt8} {ns : List Int} (h : ns.any outB = false) : putS l ns = l ++ encs ns := by rw [putS, h]; rfl
theorem in_of_any {ns : List Int} (h : ns.any outB = false) : ∀ x ∈ ns, 0 ≤ x ∧ x ≤ 4611686018427387903 := by
  intro x hx
  have := List.any_eq_false.1 h x hx
  simp [outB] at this
  omega
theorem any_of_in {ns : List Int} (h : ∀ x ∈ ns, 0 ≤ x ∧ x ≤ 4611686018427387903) : ns.any outB = false := by
  rw [List.any_eq_false]
  intro x hx
  have := h x hx
  simp [outB]; omega

theorem put_one {x : Nat} (h : x ≤ 4611686018427387903) : putS [] [(x : Int)] = enc x := by
  rw [putS_ok (by simp [outB]; omega)]
  simp [encs]

set_option maxHeartbeats 400000 in
theorem Put_any (ao : Option Addr) (n cap : Nat) (l : List UInt8) (ao2 : Option Addr) (n2 cap2 : Nat) (ns : List Int) (w : World)
    (h : Rd w.heap.size w ao n cap (Bs l)) (h2 : Rd w.heap.size w ao2 n2 cap2 (Is ns)) (hb : n + 9 * n2 ≤ 140737488355328) :
    Calls Try.prog 45 #[.slice ao n cap, .slice ao2 n2 cap2] w fun e w' => ∃ ao' cap', e = .returned (.slice ao' (putS l ns).length cap') ∧
      w'.ownsRow w.heap.size 5 1 (.slice ao' (putS l ns).length cap') (putS l ns).length (Bs (putS l ns)) ∧ Below w.heap.size w w' := by
  have hl : l.length = n := by rw [← Bs_length]; exact h.1
  have hl2 : ns.length = n2 := by rw [← Is_length]; exact h2.1
  subst hl
  subst hl2
  cases ha : ns.any outB
  · have HP : Hid (putS l ns = l ++ encs ns) := putS_ok ha
    have hin := in_of_any ha
    have hle := encs_le ns hin
    have hbd : (l ++ encs ns).length ≤ 140737488355328 := by rw [List.length_append]; omega
    have HIN : Hid (∀ x ∈ ns, 0 ≤ x ∧ x ≤ 4611686018427387903) := hin
    clear hin
    go_enter Try.func45, Try.ntmps45
    go_wp2_with fail
    refine (ContainsI_any _ _ _ _ _ h2).mono ?_
    rintro e w ⟨rfl, rfl⟩
    go_wp2_with fail
    refine (Clone_any _ _ _ _ _ h (by omega)).mono ?_
    rintro e w1 ⟨ao1, cp1, rfl, hown, hbel⟩
    have hsz := hbel.size
    go_wp2_with fail
    refine (lay_any w.heap.size _ l _ _ _ ns _ hown ((h2.later hbel).mono hsz) (fun hn => by
      obtain ⟨b, off, e1, e2, _⟩ := h2.atSome hn
      exact ⟨b, off, e1, .inl e2⟩) hsz HIN.out hbd).mono ?_
    rintro e w2 ⟨ao2', cp2, rfl, hown2, hbel2⟩
    go_wp2
    go_ret
    rw [HP.out]
    exact ⟨ao2', cp2, ret_slice (by simp), hown2, hbel.trans hbel2⟩
  · have HP : Hid (putS l ns = []) := putS_bad ha
    go_enter Try.func45, Try.ntmps45
    go_wp2_with (go_at_call 53; refine (ContainsI_any _ _ _ _ _ h2).mono ?_; rintro e w1 ⟨rfl, rfl⟩)
    go_ret
    rw [HP.out]
    exact ⟨none, 0, rfl, World.ownsRow_nil _ _ _ _, Below.refl _ _⟩
end Go.Proofs.Ytjhcldccogpoaaa
