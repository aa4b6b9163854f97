/- Text -/
import Derived.Test.YtcmpolmjijemjaaG
namespace Go.Proofs.Ytcmpolmjijemjaa
open Go.RowKit

set_option maxHeartbeats 1000000 in
theorem Text_any (ao : Option Addr) (n cap : Nat) (l : List UInt8) (ao2 : Option Addr) (n2 cap2 : Nat) (ss : List ByteArray) (w : World)
    (h : Rd w.heap.size w ao n cap (Bs l)) (h2 : Rd w.heap.size w ao2 n2 cap2 (Ss ss)) (hb : n + 9 * n2 + bytesIn ss ≤ 140737488355328) :
    Calls Try.prog 11 #[.slice ao n cap, .slice ao2 n2 cap2] w fun e w' => ∃ ao' cap', e = .returned (.slice ao' (l ++ textsOf ss).length cap') ∧
      w'.ownsRow w.heap.size 5 1 (.slice ao' (l ++ textsOf ss).length cap') (l ++ textsOf ss).length (Bs (l ++ textsOf ss)) ∧ Below w.heap.size w w' := by
  have hl : l.length = n := by rw [← Bs_length]; exact h.1
  have hl2 : ss.length = n2 := by rw [← Ss_length]; exact h2.1
  have hle := textsOf_le ss (by omega)
  subst hl
  have HL2 : Hid (ss.length = n2) := hl2
  have hbd : (l ++ textsOf ss).length ≤ 140737488355328 := by rw [List.length_append]; omega
  have hcm : n2 ≤ maxLen := Nat.le_trans h2.2.1 h2.2.2.1
  unfold maxLen at hcm
  obtain ⟨B, hB⟩ : ∃ B, B = w.heap.size := ⟨_, rfl⟩
  have HB : Hid (B = w.heap.size) := hB
  have hBw : B ≤ w.heap.size := by omega
  rw [← hB] at h2 ⊢
  clear hle hl2 hB
  go_enter Try.func11, Try.ntmps11
  go_wp2_with fail
  refine (Clone_any _ _ _ _ _ h (by omega)).mono ?_
  rintro e w1 ⟨ao1, cp1, rfl, hown1, hbel1⟩
  rw [← HB.out] at hown1 hbel1
  have hsz1 := hbel1.size
  rcases Nat.eq_zero_or_pos n2 with rfl | hn
  · have HS : Hid (l ++ textsOf ss = l) := by
      show _ = _
      rw [List.eq_nil_of_length_eq_zero HL2.out]; exact List.append_nil l
    go_wp2
    refine wp_loop_rounds 1 ?_
    rw [rounds_succ]
    go_wp2
    go_ret
    rw [HS.out]
    exact ⟨ao1, cp1, rfl, hown1, hbel1⟩
  · obtain ⟨b, off, rfl, hbB, hcells⟩ := h2.atSome hn
    have HC : Hid (∀ j u, (Ss ss)[j]? = some u → w.cell? ⟨b, off + j, none⟩ = some u) := hcells
    clear hcells
    go_wp2
    go_loopw [5, 12] (fun v i wr => ∃ (k : Nat) (ao' : Option Addr) (cp' : Nat), k ≤ n2 ∧ i = .int .i64 k ∧ v = .slice ao' (l ++ textsOf (ss.take k)).length cp' ∧
        wr.ownsRow B 5 1 v (l ++ textsOf (ss.take k)).length (Bs (l ++ textsOf (ss.take k))) ∧ Below B w wr)
      (fun _ i _ => n2 - (intOf i).toNat)
    case atStart =>
      refine ⟨0, ao1, cp1, Nat.zero_le _, rfl, ?_, ?_, hbel1⟩
      · simp [textsOf]
      · simpa [textsOf] using hown1
    case round =>
      obtain ⟨k, ao3, cp3, hk, rfl, rfl, hown3, hbel3⟩ := hrel
      have hsz3 := hbel3.size
      by_cases hlt : k < n2
      · obtain ⟨x, hx⟩ : ∃ x, ss[k]? = some x := ⟨ss[k]'(by rw [HL2.out]; exact hlt), List.getElem?_eq_getElem _⟩
        have hc : wr.cell? ⟨b, off + k, none⟩ = some (.string x) := (hbel3.cell (p := ⟨b, off + k, none⟩) hbB).trans (HC.out k _ (by simp [Ss, hx]))
        have HX : Hid (ss[k]? = some x) := hx
        have hxs : x.size ≤ 140737488355328 := by have := bytesIn_le ss x (List.mem_of_getElem? hx); omega
        have hlen : (l ++ textsOf (ss.take k)).length + (enc x.size).length + x.size ≤ 140737488355328 := by
          have h1 := textsOf_take_le ss (k + 1)
          rw [textsOf_snoc hx, List.length_append, textOf, List.length_append, size_data] at h1
          rw [List.length_append] at hbd ⊢
          omega
        have HEQ : Hid (l ++ textsOf (ss.take (k + 1)) = (l ++ textsOf (ss.take k)) ++ encs [(x.size : Int)] ++ x.data.toList) := by
          show _ = _
          rw [textsOf_snoc hx, encs_one, textOf]; simp
        have HEL : Hid (encs [(x.size : Int)] = enc x.size) := by show _ = _; rw [encs_one]; rfl
        generalize hP : l ++ textsOf (ss.take k) = P at *
        clear hx hP
        go_wp2_with fail
        refine (lay_any B _ P _ _ _ [(x.size : Int)] _ (hown3.alloc _) (by exact Rd.built wr (Is [(x.size : Int)]) 3 (by unfold maxLen; simp [Is])) (fun _ => ⟨_, _, rfl, .inr ⟨_, _, _, heap_alloc_new wr _, by decide⟩⟩) (by simp; omega) ?hin ?hbd).mono ?_
        case hin => intro y hy; simp at hy; omega
        case hbd => rw [HEL.out, List.length_append]; omega
        rintro e w4 ⟨ao4, cp4, rfl, hown4, hbel4⟩
        have hsz4 := hbel4.size
        have hbel5 := (hbel3.alloc (by omega) _).trans hbel4
        have hQl : (P ++ encs [(x.size : Int)]).length + x.size ≤ 140737488355328 := by rw [HEL.out, List.length_append]; omega
        have HEQ2 : Hid (l ++ textsOf (ss.take (k + 1)) = (P ++ encs [(x.size : Int)]) ++ x.data.toList) := HEQ
        generalize hQ : P ++ encs [(x.size : Int)] = Q at *
        clear HEQ hQ hlen hbel4
        go_wp2_with (at_builtin; refine appB rfl _ _ _ rfl _ _ _ _ rfl hown4 _ x.size (byteCells x) rfl (Src.ofString w4 Try.underlying9 x) hQl (by have := hbel5.size; omega) ?_)
        intro ao6 cp6 w6 hown6 _ hbel6
        have hbel7 := hbel5.trans hbel6
        have HF : Hid (w6.ownsRow B 5 1 (.slice ao6 (Q.length + x.size) cp6) (l ++ textsOf (ss.take (k + 1))).length (Bs (l ++ textsOf (ss.take (k + 1))))) := by
          show World.ownsRow _ _ _ _ _ _ _
          rw [HEQ2.out, Bs_append, List.length_append, size_data]
          exact hown6
        have HG : Hid (Q.length + x.size = (l ++ textsOf (ss.take (k + 1))).length) := by
          show _ = _
          rw [HEQ2.out, List.length_append, size_data]
        clear hown6 hbel6
        go_wp2
        go_roundw
        case rel => exact ⟨k + 1, ao6, cp6, by omega, by go_num, by rw [HG.out], HF.out, hbel7⟩
        case measure => simp [intOf]; omega
      · have hkn : k = n2 := by omega
        have HT : Hid (ss.take k = ss) := List.take_of_length_le (by rw [HL2.out]; omega)
        go_wp2
        go_ret
        rw [HT.out] at hown3 ⊢
        exact ⟨ao3, cp3, rfl, hown3, hbel3⟩
end Go.Proofs.Ytcmpolmjijemjaa
