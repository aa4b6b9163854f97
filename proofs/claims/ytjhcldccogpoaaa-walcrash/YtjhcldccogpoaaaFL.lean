/- Lists of slices of bytes: what reads as such; frame.Lay -/
import Derived.Test.YtjhcldccogpoaaaFA
namespace Go.Proofs.Ytjhcldccogpoaaa
open Go.RowKit

section
variable {B B' : Nat} {w w' : World} {vs : List Value} {ls : List (List UInt8)} {ao : Option Addr} {n cap : Nat}
end

set_option maxHeartbeats 1000000 in
theorem Lay_any (ao : Option Addr) (n cap : Nat) (l : List UInt8) (ao2 : Option Addr) (n2 cap2 : Nat) (ls : List (List UInt8)) (w : World)
    (h : Rd w.heap.size w ao n cap (Bs l)) (h2 : RdLL w.heap.size w ao2 n2 cap2 ls) (hb : (l ++ framesF sum8 ls).length ≤ 140737488355328) {R : List UInt8} (hR : l ++ framesF sum8 ls = R) :
    Calls Try.prog 34 #[.slice ao n cap, .slice ao2 n2 cap2] w fun e w' => ∃ ao' cap', e = .returned (.slice ao' R.length cap') ∧
      w'.ownsRow w.heap.size 5 1 (.slice ao' R.length cap') R.length (Bs R) ∧ Below w.heap.size w w' := by
  have hl : l.length = n := by rw [← Bs_length]; exact h.1
  subst hl
  have hlen := h2.len
  subst hlen
  have hcap := h2.caps
  have hcm : ls.length ≤ maxLen := Nat.le_trans hcap.1 hcap.2
  unfold maxLen at hcm
  have hl47 : l.length ≤ 140737488355328 := by rw [List.length_append] at hb; omega
  obtain ⟨B, hB⟩ : ∃ B, B = w.heap.size := ⟨_, rfl⟩
  have HB : Hid (B = w.heap.size) := hB
  have hBw : B ≤ w.heap.size := by omega
  have HR : Hid (l ++ framesF sum8 ls = R) := hR
  have H47 : Hid ((l ++ framesF sum8 ls).length ≤ 140737488355328) := hb
  have HA : Hid (RdLL B w ao2 ls.length cap2 ls) := by rw [hB]; exact h2
  rw [← hB] at ⊢
  clear hB hR hb h2 hcap
  go_enter Try.func34, Try.ntmps34
  go_wp2_with fail
  refine (Clone_any _ _ _ _ _ h hl47).mono ?_
  rintro e w1 ⟨ao1, cp1, rfl, hown, hbel⟩
  rw [← HB.out] at hown hbel
  clear h
  go_wp2
  go_loopw [5, 12] (fun v i wr => ∃ (k : Nat) (ao' : Option Addr) (cp' : Nat), k ≤ ls.length ∧ i = .int .i64 k ∧ v = .slice ao' (l ++ framesF sum8 (ls.take k)).length cp' ∧
      wr.ownsRow B 5 1 v (l ++ framesF sum8 (ls.take k)).length (Bs (l ++ framesF sum8 (ls.take k))) ∧ Below B w wr)
    (fun _ i _ => ls.length - (intOf i).toNat)
  case atStart =>
    refine ⟨0, ao1, cp1, Nat.zero_le _, rfl, ?_, ?_, hbel⟩
    · simp [framesF]
    · simpa [framesF] using hown
  case round =>
    obtain ⟨k, ao3, cp3, hk, rfl, rfl, hown3, hbel3⟩ := hrel
    have hsz3 := hbel3.size
    by_cases hlt : k < ls.length
    · obtain ⟨b, off, rfl, hbB, hcells⟩ := HA.out.at (by omega)
      obtain ⟨r, hr⟩ : ∃ r, ls[k]? = some r := ⟨ls[k], List.getElem?_eq_getElem _⟩
      obtain ⟨aor, cpr, hcr, hRr⟩ := hcells k r hr
      have hc : wr.cell? ⟨b, off + k, none⟩ = some (.slice aor r.length cpr) := (hbel3.cell (p := ⟨b, off + k, none⟩) hbB).trans hcr
      have HS : Hid (l ++ framesF sum8 (ls.take (k + 1)) = ((l ++ framesF sum8 (ls.take k)) ++ enc r.length) ++ (sum8 r ++ r)) := by show _ = _; rw [framesF_snoc sum8 hr, frameF]; simp
      have hle : (l ++ framesF sum8 (ls.take (k + 1))).length ≤ 140737488355328 := by
        have g1 := H47.out
        have g2 := framesF_take_le sum8 ls (k + 1)
        rw [List.length_append] at g1 ⊢
        omega
      have h8 := sum8_length r
      have hle : (l ++ framesF sum8 (ls.take k)).length + (enc r.length).length + (8 + r.length) ≤ 140737488355328 := by
        rw [HS.out] at hle
        simp only [List.length_append] at hle ⊢
        omega
      have HP : Hid (putS [] [(r.length : Int)] = enc r.length) := put_one (by omega)
      have HRr : Hid (Rd B w aor r.length cpr (Bs r)) := hRr
      generalize hQ : l ++ framesF sum8 (ls.take k) = Q at *
      generalize hE : enc r.length = E at *
      clear hcells hcr hr hQ hE hRr
      go_wp2_with fail
      refine (Put_eq none 0 0 [] _ _ _ [(r.length : Int)] _ (Rd.nil _ _) (by exact Rd.built wr (Is [(r.length : Int)]) 3 (by unfold maxLen; simp [Is])) (by omega) HP.out).mono ?_
      rintro e w4 ⟨ao4, cp4, rfl, hR4, hb4⟩
      have hown4 := own_new hown3 hb4
      have hbel4 : Below B w w4 := (hbel3.alloc (by omega) _).trans (hb4.mono (by simp; omega))
      have hsz4 := hbel4.size
      clear hown3 hb4
      go_wp2_with (at_builtin; refine appB rfl _ _ _ rfl _ _ _ _ rfl hown4 _ E.length (Bs E) rfl (hR4.src Try.underlying23 (Bs_one E)) (by omega) (by omega) ?_)
      intro ao5 cp5 w5 hown5 _ hb5
      have hbel5 := hbel4.trans hb5
      have hsz5 := hbel5.size
      have HR5 : Hid (Rd w5.heap.size w5 aor r.length cpr (Bs r)) := (HRr.out.later hbel5).mono (by omega)
      clear hown4 hb5 hR4
      go_wp2_with fail
      refine (sumOf_any _ _ _ _ _ HR5.out).mono ?_
      rintro e w6 ⟨ao6, cp6, rfl, hown6, hb6⟩
      have hR6 := ownsRow.rd hown6
      have hown7 := own_below hown5 hb6
      have hbel6 : Below B w w6 := hbel5.trans (hb6.mono (by omega))
      have hsz6 := hbel6.size
      clear hown5 hown6 hb6
      go_wp2_with (at_builtin; refine appB rfl _ _ _ rfl _ _ _ _ rfl hown7 _ 8 (Bs (sum8 r)) rfl (hR6.src Try.underlying23 (Bs_one _)) (by omega) (by omega) ?_)
      intro ao8 cp8 w8 hown8 _ hb8
      have hbel8 := hbel6.trans hb8
      have hsz8 := hbel8.size
      have hR8 : Rd w8.heap.size w8 aor r.length cpr (Bs r) := (HRr.out.later hbel8).mono (by omega)
      clear hown7 hb8 hR6
      go_wp2_with (at_builtin; refine appB rfl _ _ _ rfl _ _ _ _ rfl hown8 _ r.length (Bs r) rfl (hR8.src Try.underlying23 (Bs_one r)) (by omega) (by omega) ?_)
      intro ao9 cp9 w9 hown9 _ hb9
      have hbel9 := hbel8.trans hb9
      have HL : Hid ((l ++ framesF sum8 (ls.take (k + 1))).length = Q.length + E.length + 8 + r.length) := by
        show _ = _
        rw [HS.out]; simp only [List.length_append]; omega
      have HF : Hid (w9.ownsRow B 5 1 (.slice ao9 (Q.length + E.length + 8 + r.length) cp9) (l ++ framesF sum8 (ls.take (k + 1))).length (Bs (l ++ framesF sum8 (ls.take (k + 1))))) := by
        show World.ownsRow _ _ _ _ _ _ _
        rw [HL.out, HS.out]
        simp only [Bs_append, List.append_assoc] at hown9 ⊢
        exact hown9
      clear hown8 hown9 hb9 hR8
      go_wp2
      go_roundw
      case rel => exact ⟨k + 1, ao9, cp9, by omega, by go_num, by rw [HL.out], HF.out, hbel9⟩
      case measure => simp [intOf]; omega
    · have HT : Hid (ls.take k = ls) := List.take_of_length_le (by omega)
      go_wp2
      go_ret
      rw [HT.out, HR.out] at hown3
      rw [HT.out, HR.out]
      exact ⟨ao3, cp3, rfl, hown3, hbel3⟩
end Go.Proofs.Ytjhcldccogpoaaa
