/- WalRewritten: the walk -/
import Derived.Test.YtapocoijfdgcfaaWI
import Derived.Deep.DeepCutAuto
import Derived.Deep.CutBlock
import Derived.Deep.RegionHeld3
namespace Go.Proofs.Ytapocoijfdgcfaa
open Go.RowKit

set_option maxRecDepth 100000 in
set_option maxHeartbeats 8000000 in
theorem walRewritten_walk (ao : Option Addr) (n cap : Nat) (a : List (List UInt8)) (ao2 : Option Addr) (n2 cap2 : Nat) (b : List (List UInt8)) (ao3 : Option Addr) (n3 cap3 : Nat) (c : List (List UInt8)) (keep : Int) (w : World)
    (h : RdLL w.heap.size w ao n cap a) (h2 : RdLL w.heap.size w ao2 n2 cap2 b) (h3 : RdLL w.heap.size w ao3 n3 cap3 c) :
    Calls Try.prog 6 #[.slice ao n cap, .slice ao2 n2 cap2, .slice ao3 n3 cap3, .int .i64 keep] w fun e w' => e = .returned (.bool true) ∧ Below w.heap.size w w' := by
  have HA : Hid (RdLL w.heap.size w ao n cap a) := h
  have HB : Hid (RdLL w.heap.size w ao2 n2 cap2 b) := h2
  have HC : Hid (RdLL w.heap.size w ao3 n3 cap3 c) := h3
  obtain ⟨X, hX⟩ : ∃ X, someS a = X := ⟨_, rfl⟩
  obtain ⟨Y, hY⟩ : ∃ Y, someS b = Y := ⟨_, rfl⟩
  obtain ⟨C, hC⟩ : ∃ C, someS c = C := ⟨_, rfl⟩
  have HSX : Hid (someS a = X) := hX
  have HSY : Hid (someS b = Y) := hY
  have HSC : Hid (someS c = C) := hC
  have HWX : Hid ((framesF sum8 X).length ≤ 140737488355328) := by rw [← hX]; exact Nat.le_trans (someS_frames a) (by omega)
  have HWY : Hid ((framesF sum8 Y).length ≤ 140737488355328) := by rw [← hY]; exact Nat.le_trans (someS_frames b) (by omega)
  have HWC : Hid ((framesF sum8 C).length ≤ 140737488355328) := by rw [← hC]; exact Nat.le_trans (someS_frames c) (by omega)
  have hYl : Y.length ≤ 5 := by rw [← hY]; exact someS_len b
  have hCl : C.length ≤ 5 := by rw [← hC]; exact someS_len c
  have HOK : Hid (∀ r ∈ Y ++ C, r.length ≤ 4000) := by
    intro r hr
    rw [List.mem_append] at hr
    rcases hr with hr | hr
    · rw [← hY] at hr; exact Nat.le_trans (someS_le b r hr) (by omega)
    · rw [← hC] at hr; exact Nat.le_trans (someS_le c r hr) (by omega)
  obtain ⟨b1, hb1⟩ : ∃ b1, addB [] X = b1 := ⟨_, rfl⟩
  obtain ⟨l1, hl1⟩ : ∃ l1, (if b1 = true then [] ++ framesF sum8 X else []) = l1 := ⟨_, rfl⟩
  have HB1 : Hid (addB [] X = b1) := hb1
  have HL1 : Hid ((if b1 = true then [] ++ framesF sum8 X else []) = l1) := hl1
  obtain ⟨K, hK⟩ : ∃ K, framesF sum8 Y = K := ⟨_, rfl⟩
  have hKl : K.length ≤ 385 := by rw [← hK, ← hY]; exact someS_frames b
  obtain ⟨F, hF⟩ : ∃ F, framesF sum8 C = F := ⟨_, rfl⟩
  have hFl : F.length ≤ 385 := by rw [← hF, ← hC]; exact someS_frames c
  have HRB : Hid (rewB Y = true) := by
    show _ = _
    rw [rewB, hK, ← hY, someS_ok]; exact decide_eq_true (by omega)
  have HRL : Hid ((if true = true then (framesF sum8 Y, (framesF sum8 Y).length) else (l1, 0)) = (K, K.length)) := by show _ = _; rw [if_pos rfl, hK]
  have HAB : Hid (addB K C = true) := by
    show _ = _
    rw [addB, hF, ← hC, someS_ok]; exact decide_eq_true (by omega)
  obtain ⟨G, hG⟩ : ∃ G, K ++ F = G := ⟨_, rfl⟩
  have HAL : Hid ((if true = true then K ++ framesF sum8 C else K) = G) := by show _ = _; rw [if_pos rfl, hF, hG]
  have HGL : Hid (G.length = K.length + F.length) := by show _ = _; rw [← hG, List.length_append]
  obtain ⟨p, hp⟩ : ∃ p, pick keep 9 = p := ⟨_, rfl⟩
  have hp0 : 0 ≤ p := by rw [← hp]; exact pick_lo _ _ (by omega)
  have hp9 : p < 9 := by rw [← hp]; exact pick_hi _ _ (by omega)
  have HP : Hid (pick keep 9 = p) := hp
  obtain ⟨q, hq⟩ : ∃ q, kept p (G.length - K.length) = q := ⟨_, rfl⟩
  have HQ : Hid (kept p (G.length - K.length) = q) := hq
  have hq8 : q ≤ 8 := by rw [← hq]; unfold kept; omega
  have hqF : q ≤ F.length := by have := kept_le p (G.length - K.length); rw [hq] at this; have := HGL.out; omega
  have hGG : framesF sum8 (Y ++ C) = G := by rw [framesF_append, hK, hF, hG]
  obtain ⟨m, hm1, hm2, hm3, hm4⟩ := cut_at (Y ++ C) (K.length + q) _ Y.length (Nat.le_refl _) (by simp) (by rw [List.take_left' rfl, hK]; omega)
  obtain ⟨P, hP⟩ : ∃ P, (Y ++ C).take m = P := ⟨_, rfl⟩
  obtain ⟨E, hE⟩ : ∃ E, framesF sum8 P = E := ⟨_, rfl⟩
  have hPl : Y.length ≤ P.length := by rw [← hP, List.length_take]; omega
  have hP9 : P.length ≤ 10 := by rw [← hP, List.length_take, List.length_append]; omega
  have HPY : Hid (P.take Y.length = Y) := by show _ = _; rw [← hP, List.take_take, Nat.min_eq_left hm1, List.take_left' rfl]
  have hEK : K.length ≤ E.length := by
    have e := framesF_split sum8 P Y.length
    rw [HPY.out, hK, hE] at e
    rw [e, List.length_append]; omega
  have HO : Hid (openS (G.take (K.length + q)) (K.length + q) = (E, E.length)) := by
    show _ = _
    rw [← hGG, openS_cut (Y ++ C) HOK.out (K.length + q) m hm3 hm4 (by rw [hGG, List.length_take]; have := HGL.out; omega), hP, hE]
  have HR : Hid (readS sum8 E = (P, E.length)) := by
    show _ = _
    rw [← hE, readS_all sum8 sum8_length P (by rw [← hP]; exact fun r hr => HOK.out r (List.mem_of_mem_take hr))]
  clear h h2 h3 hX hY hC hb1 hl1 hK hF hG hp hq hGG hm1 hm2 hm3 hm4 hP hE
  go_enter Try.func6, Try.ntmps6
  go_wp2_with fail
  refine (New_any w).mono ?_
  rintro e w1 ⟨rfl, hw1⟩
  have hD1 : DK (fun i => w.heap.size ≤ i) w1 w.heap.size [] 0 := by rw [hw1]; exact DK.made w
  have hB1 : Below w.heap.size w w1 := by rw [hw1]; exact (Below.refl _ _).alloc (Nat.le_refl _) _
  clear hw1
  go_wp2_with fail
  refine (Open_dk hD1 openS_nil).mono ?_
  rintro e w2 ⟨lg, rfl, hlg, N, hL2, hN, hO2⟩
  have HN : Hid (∀ i, N i → w.heap.size ≤ i) := hN
  have hB2 := hB1.trans (hO2.below (fun _ h => h) hB1.size)
  clear hD1 hB1 hO2 hN hlg
  go_wp2_with fail
  refine (known_any w2).mono ?_
  rintro e w3 ⟨rfl, hb3⟩
  have hL3 := hL2.below hb3
  have hB3 := bel_call hB2 hb3
  clear hL2 hB2 hb3
  go_wp2_with fail
  refine (some_any _ _ _ a w3 ((HA.out.later hB3).mono hB3.size) HSX.out).mono ?_
  rintro e w4 ⟨ao4, cp4, rfl, hown4, hb4⟩
  have hL4 := hL3.below hb4
  have hB4 := bel_call hB3 hb4
  have hX4 := hown4.rd
  clear hL3 hB3 hb4 hown4
  go_wp2_with fail
  refine (some_any _ _ _ b w4 ((HB.out.later hB4).mono hB4.size) HSY.out).mono ?_
  rintro e w5 ⟨ao5, cp5, rfl, hown5, hb5⟩
  obtain ⟨N5, A5, hL5, hPY5, hAP, hN5⟩ := hL4.aside hb5 hown5
  have hB5 := bel_call hB4 hb5
  have hX5 := (hX4.later hb5).mono hb5.size
  have HPY5 : Hid (RdLLP A5 w5 ao5 Y.length cp5 Y) := hPY5
  have HAP : Hid (∀ i, A5 i → ¬ N5 i) := hAP
  have HN5 : Hid (∀ i, N5 i → w.heap.size ≤ i) := fun i hi => HN.out i (hN5 i hi)
  clear hL4 hB4 hb5 hown5 hX4 HN hPY5 hAP hN5
  go_wp2_with fail
  refine (Add_lk hL5 hX5 HWX.out HB1.out HL1.out).mono ?_
  rintro e w6 ⟨rfl, hL6, hO6⟩
  have hB6 := hB5.trans (hO6.below HN5.out hB5.size)
  have HPY6 : Hid (RdLLP A5 w6 ao5 Y.length cp5 Y) := HPY5.out.only hO6 HAP.out
  clear hL5 hB5 hX5 HPY5 hO6
  go_upto_region 8 with fail
  go_cut [72] (fun v wx => v = .bool false ∧ LK N5 wx lg w.heap.size K K.length ∧ Only N5 w6 wx)
  case first =>
    have HLd : Hid (LK N5 w6.drew lg w.heap.size l1 0) := hL6.below (below_drew w6)
    have HPd : Hid (RdLL w6.drew.heap.size w6.drew ao5 Y.length cp5 Y) := (HPY6.out.below (below_drew w6)).rd
    have HOd : Hid (Only N5 w6 w6.drew) := Only.of_drew _ _
    have hc6 := hL6.cell
    have tokA : True := trivial
    clear hL6 hB6
    go_region_held3 (fun w' => w'.cell? ⟨lg, 0, none⟩ = some (.pointer (some ⟨w.heap.size, 0, none⟩))) (first | assumption | go_keep) (first
      | (have tA := tokA; go_at_call 14; refine (Rewrite_lk HLd.out HPd.out HWY.out HRB.out HRL.out).mono ?_; rintro e w7 ⟨rfl, hL7, hO7⟩; have hc7 := hL7.cell; have HL7 : Hid (LK N5 w7 lg w.heap.size K K.length) := hL7; clear tokA tA hL7; have tokB : True := trivial)
      | (have tB := tokB; go_at_call 12; refine (Size_dk HL7.out.dk).mono ?_; rintro e wq ⟨rfl, hwq⟩; subst wq; clear tB)
      | (have tB := tokB; go_at_call 13; refine (Synced_dk HL7.out.dk).mono ?_; rintro e wq ⟨rfl, hwq⟩; subst wq; clear tB))
    all_goals
      go_wp2
      go_meet
      case rel => exact ⟨by simp, HL7.out, HOd.out.trans hO7⟩
  case rest =>
  obtain ⟨rfl, hL7, hO7⟩ := hcut
  obtain ⟨w7, rfl⟩ : ∃ w7 : World, w7 = wc := ⟨_, rfl⟩
  have hB7 := hB6.trans (hO7.below HN5.out hB6.size)
  have HPY7 : Hid (RdLLP A5 w7 ao5 Y.length cp5 Y) := HPY6.out.only hO7 HAP.out
  have hc7 := hL7.cell
  clear hL6 hB6 HPY6 hO7
  go_wp2_with fail
  refine (Size_dk hL7.dk).mono ?_
  rintro e wq ⟨rfl, hwq⟩
  subst wq
  go_wp2_with fail
  refine (some_any _ _ _ c w7 ((HC.out.later hB7).mono hB7.size) HSC.out).mono ?_
  rintro e w8 ⟨ao8, cp8, rfl, hown8, hb8⟩
  have hL8 := hL7.below hb8
  have hB8 := bel_call hB7 hb8
  have hX8 := hown8.rd
  have HPY8 : Hid (RdLLP A5 w8 ao5 Y.length cp5 Y) := HPY7.out.below hb8
  clear hL7 hB7 hb8 hown8 HPY7 hc7
  go_wp2_with fail
  refine (Add_lk hL8 hX8 HWC.out HAB.out HAL.out).mono ?_
  rintro e w9 ⟨rfl, hL9, hO9⟩
  have hB9 := hB8.trans (hO9.below HN5.out hB8.size)
  have HPY9 : Hid (RdLLP A5 w9 ao5 Y.length cp5 Y) := HPY8.out.only hO9 HAP.out
  clear hL8 hB8 HPY8 hO9 hX8
  go_wp2_with fail
  refine (Pick_eq keep _ _ (by omega) (by omega) HP.out).mono ?_
  rintro e wq ⟨rfl, hwq⟩
  subst wq
  go_wp2_with fail
  refine (Crash_dk hL9.dk p HQ.out rfl rfl).mono ?_
  rintro e w10 ⟨rfl, hD10, hO10⟩
  have hB10 := hB9.trans (hO10.below HN5.out hB9.size)
  have HPY10 : Hid (RdLLP A5 w10 ao5 Y.length cp5 Y) := HPY9.out.only hO10 HAP.out
  clear hL9 hB9 HPY9 hO10
  go_wp2_with fail
  refine (Open_dk hD10 HO.out).mono ?_
  rintro e w11 ⟨lm, rfl, hlm, N11, hL11, hN11, hO11⟩
  have hB11 := hB10.trans (hO11.below HN5.out hB10.size)
  have HPY11 : Hid (RdLLP A5 w11 ao5 Y.length cp5 Y) := HPY10.out.only hO11 HAP.out
  clear hD10 hB10 HPY10 hO11 hN11 hlm
  go_wp2_with fail
  refine (Records_lk hL11 HR.out rfl).mono ?_
  rintro e w12 ⟨ao12, cp12, rfl, hown12, hb12⟩
  have hL12 := hL11.below hb12
  have hB12 := bel_call hB11 hb12
  have HPY12 : Hid (RdLLP A5 w12 ao5 Y.length cp5 Y) := HPY11.out.below hb12
  clear hL11 hB11 HPY11 hown12 hb12
  go_wp2_with fail
  refine (Records_lk hL12 HR.out rfl).mono ?_
  rintro e w13 ⟨ao13, cp13, rfl, hown13, hb13⟩
  have hL13 := hL12.below hb13
  have hB13 := bel_call hB12 hb13
  have HPY13 : Hid (RdLLP A5 w13 ao5 Y.length cp5 Y) := HPY12.out.below hb13
  have hT13 := hown13.rd.till Y.length hPl
  rw [HPY.out] at hT13
  have hcp13 := hown13.rd.caps.1
  have hcq13 : Y.length ≤ cp13 := by omega
  clear hL12 hB12 HPY12 hown13 hb13
  go_wp2_with fail
  refine (same_any _ _ _ Y _ _ _ Y w13 hT13 HPY13.out.rd rfl).mono ?_
  rintro e w14 ⟨rfl, hb14⟩
  have hL14 := hL13.below hb14
  have hB14 := bel_call hB13 hb14
  have hc14 := hL14.cell
  clear hL13 hB13 hT13 hb14 HPY13
  go_wp2_with (go_at_call 12; refine (Size_dk hL14.dk).mono ?_; rintro e wq ⟨rfl, hwq⟩; subst wq)
  go_ret
  exact ⟨rfl, hB14⟩
end Go.Proofs.Ytapocoijfdgcfaa
