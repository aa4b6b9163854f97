/- wal: Rewrite -/
import Derived.Test.YtjhcldccogpoaaaWC
namespace Go.Proofs.Ytjhcldccogpoaaa
open Go.RowKit

/-- the records stand in the place of all -/
def rewB (ls : List (List UInt8)) : Bool := okL ls && decide ((framesF sum8 ls).length ≤ 65536)
section
variable {N : Nat → Prop} {w w' W : World} {lg g s : Nat} {l : List UInt8} {ao : Option Addr} {n cap : Nat} {ls : List (List UInt8)}
set_option maxHeartbeats 1000000 in
theorem Rewrite_lk (h : LK N w lg g l s) (hp : RdLL w.heap.size w ao n cap ls) (hfew : (framesF sum8 ls).length ≤ 140737488355328) {b : Bool} {l' : List UInt8} {s' : Nat} (hb : rewB ls = b) (hl : (if b = true then (framesF sum8 ls, (framesF sum8 ls).length) else (l, s)) = (l', s')) :
    Calls Try.prog 15 #[.pointer (some ⟨lg, 0, none⟩), .slice ao n cap] w fun e w' => e = .returned (.bool b) ∧ LK N w' lg g l' s' ∧ Only N w w' := by
  obtain ⟨K, hK⟩ : ∃ K, framesF sum8 ls = K := ⟨_, rfl⟩
  have HK : Hid ([] ++ framesF sum8 ls = K) := hK
  have H47 : Hid (K.length ≤ 140737488355328) := by rw [← hK]; exact hfew
  have HPd : Hid (RdLL w.drew.heap.size w.drew ao n cap ls) := hp.later (below_drew w)
  have hc := h.cell
  have HD : Hid (LK N w.drew lg g l s) := h.below (below_drew w)
  have HO : Hid (Only N w w.drew) := Only.of_drew _ _
  rw [hK] at hl
  cases hok : okL ls
  case false =>
    have HOK : Hid (okL ls = false) := hok
    have HB : Hid (false = b) := by show _ = _; rw [← hb, rewB, hok]; rfl
    have HL : Hid ((l, s) = (l', s')) := by show _ = _; rw [← hl, if_neg (by rw [← HB.out]; decide)]
    clear hK hfew hp h hb hl hok
    go_enter Try.func15, Try.ntmps15
    go_wp2_with fail
    first | (go_region_with (go_at_call 33; refine (readable_any _ _ _ ls w.drew HPd.out HOK.out).mono ?_; rintro e wq ⟨rfl, hwq⟩; subst wq)) | fail
    all_goals
      go_wp2
      go_ret
      refine ⟨ret_bool HB.out, ?_, HO.out⟩
      rw [← (Prod.mk.inj HL.out).1, ← (Prod.mk.inj HL.out).2]; exact HD.out
  case true =>
    have HOK : Hid (okL ls = true) := hok
    have HF : Hid (decide (K.length ≤ 65536) = b) := by show _ = _; rw [← hb, rewB, hok, hK, Bool.true_and]
    have HL : Hid ((if b = true then (K, K.length) else (l, s)) = (l', s')) := hl
    have HAPP : Hid (∀ (ao2 : Option Addr) (cp2 : Nat) (w2 : World), w2.ownsRow w.drew.heap.size 5 1 (.slice ao2 K.length cp2) K.length (Bs K) → Below w.drew.heap.size w.drew w2 →
        Calls Try.prog 29 #[.pointer (some ⟨g, 0, none⟩), .slice ao2 K.length cp2] w2 fun e w' => e = .returned (.bool b) ∧ DK N w' g l' s' ∧ Only N w.drew w') := by
      intro ao2 cp2 w2 hO hB
      refine (Swap_dk (HD.out.dk.below hB) (ownsRow.rd hO) HF.out HL.out).mono ?_
      rintro e w3 ⟨rfl, hD3, hO3⟩
      exact ⟨rfl, hD3, (Only.of_below N hB).trans hO3⟩
    have tokA : True := trivial
    clear hK hfew hp h hb hl hok
    go_enter Try.func15, Try.ntmps15
    go_wp2_with fail
    go_region_with (first
      | (have tA := tokA; go_at_call 33; refine (readable_any _ _ _ ls w.drew HPd.out HOK.out).mono ?_; rintro e wq ⟨rfl, hwq⟩; subst wq; clear tokA tA; have tokB : True := trivial)
      | (have tB := tokB; go_at_call 34; refine (Lay_n none 0 0 [] _ _ _ ls w.drew (Rd.nil _ _) HPd.out HK.out rfl H47.out).mono ?_; rintro e w2 ⟨ao2, cp2, rfl, hown2, hb2⟩; have hc2 := (HD.out.below hb2).cell; have hlg2 := (HD.out.below hb2).lt; have HAP : Hid (Calls Try.prog 29 #[.pointer (some ⟨g, 0, none⟩), .slice ao2 K.length cp2] w2 fun e w' => e = .returned (.bool b) ∧ DK N w' g l' s' ∧ Only N w.drew w') := HAPP.out ao2 cp2 w2 hown2 hb2; clear hown2 hb2 tokB tB; have tokC : True := trivial)
      | (have tC := tokC; go_at_call 29; refine Calls.mono HAP.out ?_; rintro e w3 ⟨rfl, hD3, hO3⟩; clear tokC tC))
    all_goals
      go_wp2
      go_ret
      exact ⟨rfl, HD.out.next hD3 hO3, HO.out.trans hO3⟩
end
end Go.Proofs.Ytjhcldccogpoaaa
