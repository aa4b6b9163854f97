/- WalTells: the walk -/
import Derived.Test.YtapocoijfdgcfaaWT
import Derived.Deep.DeepCutAuto
import Derived.Deep.CutBlock
import Derived.Deep.RegionHeld
namespace Go.Proofs.Ytapocoijfdgcfaa
open Go.RowKit

theorem pair_of {α β : Type} (p : α × β) : ∃ a b, p = (a, b) := ⟨_, _, rfl⟩
theorem Two.shrinkO {N T : Nat → Prop} {w w' : World} {gd gr s s2 : Nat} {l l2 : List UInt8} (h : Two N w gd gr l s l2 s2) (ho : Only T w w') (hd : ∀ i, N i → i < w.heap.size → ¬ T i) : Two (fun i => N i ∧ ¬ (w.heap.size ≤ i ∧ i < w'.heap.size)) w' gd gr l s l2 s2 := by
  have hsz := ho.size
  obtain ⟨h0, Sd, Sr, h1, h2, h3, h4, h5⟩ := h
  refine ⟨fun i hi => ⟨h0 i (by omega), by omega⟩, Sd, Sr, h1.only ho (fun i hi => hd i (h3 i hi).1 (h3 i hi).2), h2.only ho (fun i hi => hd i (h4 i hi).1 (h4 i hi).2), fun i hi => ?_, fun i hi => ?_, h5⟩
  · have := h3 i hi; exact ⟨⟨this.1, by omega⟩, by omega⟩
  · have := h4 i hi; exact ⟨⟨this.1, by omega⟩, by omega⟩
theorem src_slice_at (w : World) (ao : Option Addr) (n cap B : Nat) (hB : w.heap.size = B) : Src Try.prog 1 32 (.slice (some ⟨B, 0, none⟩) 1 1) 1 [.slice ao n cap] (w.alloc (.cells #[.slice ao n cap] 28)) := by
  subst hB; exact src_slice w ao n cap
theorem own_long (w : World) (Z : List UInt8) (base : Nat) (hb : base ≤ w.heap.size) (hm : Z.length ≤ 1000000) : (w.alloc (.cells (Bs Z).toArray 5)).ownsRow base 5 1 (.slice (some ⟨w.heap.size, 0, none⟩) Z.length Z.length) Z.length (Bs Z) := by
  have := World.ownsRow_lit (base := base) (e := 5) (size := 1) w (Bs Z).toArray Z.length hb (by unfold maxLen; omega) (by simp [Bs])
  simpa using this
/-- what a round of WalTells keeps -/
def Keeps (w : World) (gr : Nat) (vl : Value) (wx : World) : Prop :=
  ∃ (N : Nat → Prop) (lg : Nat) (L : List UInt8) (s : Nat), vl = .pointer (some ⟨lg, 0, none⟩) ∧ Two N wx w.heap.size gr L s L s ∧ LogAt wx lg w.heap.size ∧ ¬ N lg ∧ (∀ i, N i → w.heap.size ≤ i) ∧ Below w.heap.size w wx

set_option maxRecDepth 100000 in
set_option maxHeartbeats 40000000 in
theorem walTells_walk (ao : Option Addr) (n cap : Nat) (l : List Raw4) (aoR : Option Addr) (nR capR : Nat) (raw : List UInt8) (w : World) (h : RdG 3 Raw4.Q w.heap.size w ao n cap l) (hr : Rd w.heap.size w aoR nR capR (Bs raw)) :
    Calls Try.prog 4 #[.slice ao n cap, .slice aoR nR capR] w fun e w' => e = .returned (.bool true) ∧ Below w.heap.size w w' := by
  have hn : l.length = n := h.1
  subst hn
  have hlm : l.length ≤ maxLen := Nat.le_trans h.2.1 h.2.2.1
  unfold maxLen at hlm
  have HH : Hid (RdG 3 Raw4.Q w.heap.size w ao l.length cap l) := h
  have HRAW : Hid (Rd w.heap.size w aoR nR capR (Bs raw)) := hr
  obtain ⟨Q4, hQ4⟩ : ∃ Q4, raw.take 40 = Q4 := ⟨_, rfl⟩
  have HQ4 : Hid (raw.take 40 = Q4) := hQ4
  have hQl : Q4.length ≤ 40 := by rw [← hQ4, List.length_take]; omega
  clear h hr hQ4
  go_enter Try.func4, Try.ntmps4
  go_wp2_with fail
  refine (New_any w).mono ?_
  rintro e w1 ⟨rfl, hw1⟩
  have HW1 : Hid (w1 = w.alloc (.cells #[.slice none 0 0, .int .i64 0] 56)) := hw1
  clear hw1
  go_wp2_with fail
  obtain ⟨w2, hw2⟩ : ∃ w2, w2 = w1.alloc (.cells #[.slice none 0 0, .int .i64 0] 37) := ⟨_, rfl⟩
  rw [← hw2]
  have hT2 := Two.made w w1 w2 HW1.out hw2
  have hB2 : Below w.heap.size w w2 := by rw [hw2, HW1.out]; exact bel_two w _ _
  clear hw2 HW1
  refine (Open_tw hT2 openS_nil).mono ?_
  rintro e w3 ⟨lg, rfl, N, hT3, hL3, hn3, hN3, hO3⟩
  have hB3 := hB2.trans (hO3.below (fun _ h => h) hB2.size)
  clear hT2 hB2 hO3
  go_wp2_with fail
  refine (known_any w3).mono ?_
  rintro e w4 ⟨rfl, hb4⟩
  have hK4 : Keeps w w1.heap.size (.pointer (some ⟨lg, 0, none⟩)) w4 := ⟨N, lg, [], 0, rfl, hT3.below hb4, hL3.only (T := fun _ => False) (Only.of_below _ hb4) id, hn3, hN3, bel_call hB3 hb4⟩
  clear hT3 hL3 hn3 hN3 hb4 hB3
  go_wp2
  go_loopw [7, 33] (fun vl i wr => ∃ (k : Nat), k ≤ l.length ∧ i = .int .i64 k ∧ Keeps w w1.heap.size vl wr) (fun _ i _ => l.length - (intOf i).toNat)
  case atStart => exact ⟨0, Nat.zero_le _, rfl, hK4⟩
  case round =>
    clear hK4
    obtain ⟨k, hk, rfl, N0, lg0, L, s, rfl, hT, hL, hn0, hN0, hB⟩ := hrel
    by_cases hlt : k < l.length
    · obtain ⟨b, off, rfl, hbB, hcells⟩ := HH.out.atSome (by omega)
      obtain ⟨x, hx⟩ : ∃ x, l[k]? = some x := ⟨l[k], List.getElem?_eq_getElem _⟩
      obtain ⟨cs, hcl, ⟨aoP, nP, cpP, rfl, hP⟩, hcs⟩ := hcells k x hx
      have hc0 : wr.cell? ⟨b, off + k * 3, none⟩ = some (.int .i64 x.what) := (hB.cell (p := ⟨b, off + k * 3, none⟩) hbB).trans (hcs 0 _ rfl)
      have hc1 : wr.cell? ⟨b, off + k * 3 + 1, none⟩ = some (.int .i64 x.n) := (hB.cell (p := ⟨b, off + k * 3 + 1, none⟩) hbB).trans (hcs 1 _ rfl)
      have hc2 : wr.cell? ⟨b, off + k * 3 + 2, none⟩ = some (.slice aoP nP cpP) := (hB.cell (p := ⟨b, off + k * 3 + 2, none⟩) hbB).trans (hcs 2 _ rfl)
      have HP : Hid (RdLL w.heap.size w aoP nP cpP x.parts) := hP
      clear hcells hx hcs hP hcl
      go_wp2_with fail
      obtain ⟨w4, hw4⟩ : ∃ w4, w4 = wr.alloc (.cells #[.int .i64 x.what, .int .i64 x.n, .slice aoP nP cpP] 39) := ⟨_, rfl⟩
      rw [← hw4]
      have hb4 : Below wr.heap.size wr w4 := by rw [hw4]; exact (Below.refl _ _).alloc (Nat.le_refl _) _
      have hq4 : w4.heap[wr.heap.size]? = some (.cells #[.int .i64 x.what, .int .i64 x.n, .slice aoP nP cpP] 39 (0, 0)) := by rw [hw4]; exact heap_alloc_new wr _
      have hs4 : wr.heap.size < w4.heap.size := by rw [hw4]; simp
      have hB4 := bel_call hB hb4
      clear hw4 hc0 hc1 hc2
      obtain ⟨R, hR⟩ : ∃ R, someS x.parts = R := ⟨_, rfl⟩
      have HS : Hid (someS x.parts = R) := hR
      have hR5 : R.length ≤ 5 := by rw [← hR]; exact someS_len _
      have HR60 : Hid (∀ r ∈ R, r.length ≤ 60) := by show ∀ r ∈ R, _; rw [← hR]; exact someS_le _
      have HRF : Hid ((framesF sum8 R).length ≤ 385) := by show _ ≤ _; rw [← hR]; exact someS_frames _
      clear hR
      refine (some_any _ _ _ x.parts w4 ((HP.out.later hB4).mono hB4.size) HS.out).mono ?_
      rintro e w5 ⟨ao5, cp5, rfl, hown5, hb5⟩
      have hB5 := bel_call hB4 hb5
      have hb45 : Below wr.heap.size wr w5 := hb4.trans (hb5.mono (by omega))
      obtain ⟨N5, A5, hT5, hN5, hA5, HPR, HA5R⟩ : ∃ N5 A5 : Nat → Prop, Two N5 w5 w.heap.size w1.heap.size L s L s ∧ (∀ i, N5 i → N0 i) ∧ (∀ i, A5 i → ¬ N5 i) ∧ Hid (RdLLP A5 w5 ao5 R.length cp5 R) ∧ Hid (∀ i, A5 i ↔ w4.heap.size ≤ i ∧ i < w5.heap.size) :=
        ⟨_, fun i => w4.heap.size ≤ i ∧ i < w5.heap.size, hT.shrink hb45, fun i hi => hi.1, fun i hi hn => hn.2 ⟨by omega, hi.2⟩, hown5.rdP fun i h1 h2 => ⟨h1, h2⟩, fun i => Iff.rfl⟩
      have HOWN : Hid (OwnLL w4.heap.size w5 (.slice ao5 R.length cp5) R.length R) := hown5
      have hL5 := hL.only (T := fun _ => False) (Only.of_below _ hb45) id
      have hlg0 := hL.lt
      have hn5 : ¬ N5 lg0 := fun x => hn0 (hN5 _ x)
      have HN5 : Hid (∀ i, N5 i → w.heap.size ≤ i) := fun i hi => hN0 i (hN5 i hi)
      have HA5 : Hid (∀ i, A5 i → ¬ N5 i) := hA5
      have hq5 := (hb5.block _ hs4).trans hq4
      have hx0 : w5.cell? ⟨wr.heap.size, 0, none⟩ = some (.int .i64 x.what) := by rw [cell_of_row w5 _ 0 _ _ (0, 0) hq5]; rfl
      have hx1 : w5.cell? ⟨wr.heap.size, 1, none⟩ = some (.int .i64 x.n) := by rw [cell_of_row w5 _ 1 _ _ (0, 0) hq5]; rfl
      have hs5 := hb5.size
      have hsr := hB.size
      have HB5 : Hid (Below w.heap.size w w5) := hB5
      have hcl := hL5.cell
      obtain ⟨gx, hgx⟩ : ∃ gx, gx = wr.heap.size := ⟨_, rfl⟩
      rw [← hgx] at hx0 hx1 hs4 hsr hlg0 ⊢
      clear hT hB hb4 hB4 hb45 hb5 hown5 hq4 hq5 hB5 hgx hL hn0 hN0 hN5 hA5
      obtain ⟨p, hp⟩ : ∃ p, pick x.what 9 = p := ⟨_, rfl⟩
      have HPK : Hid (pick x.what 9 = p) := hp
      have hp0 : 0 ≤ p := by rw [← hp]; exact pick_lo _ _ (by omega)
      have hp9 : p < 9 := by rw [← hp]; exact pick_hi _ _ (by omega)
      clear hp
      go_wp2_with fail
      refine (Pick_eq _ _ _ (by omega) (by omega) HPK.out).mono ?_
      rintro e wq ⟨rfl, hwq⟩
      subst wq
      go_upto_block 2 with fail
      go_cut [7] (fun vl wx => Keeps w w1.heap.size vl wx)
      case first =>
        by_cases h0 : p = 0
        · subst h0
          go_wp2_with fail
          refine (Sync_tw hT5).mono ?_
          rintro e w6 ⟨rfl, hT6, hO6⟩
          have hB6 := HB5.out.trans (hO6.below HN5.out HB5.out.size)
          have hL6 := hL5.only hO6 hn5
          clear hT5 hO6 hL5 hcl
          go_wp2_with fail
          refine (refSync_tw hT6).mono ?_
          rintro e w7 ⟨rfl, hT7, hO7⟩
          have hB7 := hB6.trans (hO7.below HN5.out hB6.size)
          have hL7 := hL6.only hO7 hn5
          clear hT6 hO7 hB6 hL6
          go_wp2
          go_meet
          case rel => exact ⟨N5, lg0, L, L.length, rfl, hT7, hL7, hn5, HN5.out, hB7⟩
        · by_cases h1 : p = 1
          · subst h1
            have hn0 := pick_lo x.n 120 (by omega)
            have hn9 := pick_hi x.n 120 (by omega)
            obtain ⟨y, hy⟩ : ∃ y, pick x.n 120 = y := ⟨_, rfl⟩
            have HY : Hid (pick x.n 120 = y) := hy
            rw [hy] at hn0 hn9
            clear hy
            go_wp2_with fail
            refine (Pick_eq _ _ _ (by omega) (by omega) HY.out).mono ?_
            rintro e wq ⟨rfl, hwq⟩
            subst wq
            obtain ⟨q, hq⟩ : ∃ q, kept (y - 2) (L.length - s) = q := ⟨_, rfl⟩
            have HQ : Hid (kept (y - 2) (L.length - s) = q) := hq
            obtain ⟨l', s', hO⟩ := pair_of (openS (L.take (s + q)) (s + q))
            have HO : Hid (openS (L.take (s + q)) (s + q) = (l', s')) := hO
            clear hq hO
            go_wp2_with fail
            refine (Crash_tw hT5 (y - 2) HQ.out).mono ?_
            rintro e w6 ⟨rfl, hT6, hO6⟩
            have hB6 := HB5.out.trans (hO6.below HN5.out HB5.out.size)
            clear hT5 hO6 hL5 hcl
            go_wp2_with fail
            refine (refCrash_tw hT6 (y - 2) HQ.out).mono ?_
            rintro e w7 ⟨rfl, hT7, hO7⟩
            have hB7 := hB6.trans (hO7.below HN5.out hB6.size)
            clear hT6 hO7 hB6
            go_wp2_with fail
            refine (Open_tw hT7 HO.out).mono ?_
            rintro e w8 ⟨lm, rfl, N8, hT8, hL8, hn8, hN8, hO8⟩
            have hB8 := hB7.trans (hO8.below HN5.out hB7.size)
            have HN8 : Hid (∀ i, N8 i → w.heap.size ≤ i) := fun i hi => HN5.out i (hN8 i hi)
            clear hT7 hO8 hB7 hN8
            go_wp2_with fail
            refine (refOpenLog_tw hT8 HO.out).mono ?_
            rintro e w9 ⟨⟨v9, rfl⟩, hT9, hO9⟩
            have hB9 := hB8.trans (hO9.below HN8.out hB8.size)
            have hL9 := hL8.only hO9 hn8
            clear hT8 hO9 hB8 hL8
            go_wp2
            go_meet
            case rel => exact ⟨N8, lm, l', s', rfl, hT9, hL9, hn8, HN8.out, hB9⟩
          · by_cases h2 : p = 2
            · subst h2
              obtain ⟨bb, hbb⟩ : ∃ bb, rewB R = bb := ⟨_, rfl⟩
              have HBB : Hid (rewB R = bb) := hbb
              obtain ⟨l', s', hO⟩ := pair_of (if bb = true then (framesF sum8 R, (framesF sum8 R).length) else (L, s))
              have HO : Hid ((if bb = true then (framesF sum8 R, (framesF sum8 R).length) else (L, s)) = (l', s')) := hO
              clear hbb hO
              go_wp2_with fail
              refine (Rewrite_tw hT5 hL5 hn5 HPR.out.rd (Nat.le_trans HRF.out (by omega)) HBB.out HO.out).mono ?_
              rintro e w6 ⟨rfl, hT6, hO6⟩
              have hB6 := HB5.out.trans (hO6.below HN5.out HB5.out.size)
              have hL6 := hL5.only hO6 hn5
              have HPR6 : Hid (RdLLP A5 w6 ao5 R.length cp5 R) := HPR.out.only hO6 HA5.out
              clear hT5 hO6 hL5 hcl
              go_wp2_with fail
              refine (refRewrite_tw hT6 HPR6.out.rd (Nat.le_trans HRF.out (by omega)) HBB.out HO.out).mono ?_
              rintro e w7 ⟨rfl, hT7, hO7⟩
              have hB7 := hB6.trans (hO7.below HN5.out hB6.size)
              have hL7 := hL6.only hO7 hn5
              clear hT6 hO7 hB6 hL6
              go_wp2
              go_meet
              case rel => exact ⟨N5, lg0, l', s', rfl, hT7, hL7, hn5, HN5.out, hB7⟩
            · by_cases h3 : p = 3
              · subst h3
                obtain ⟨bb, hbb⟩ : ∃ bb, fitsB L [Q4] = bb := ⟨_, rfl⟩
                have HBB : Hid (fitsB L [Q4] = bb) := hbb
                obtain ⟨l1, hl1⟩ : ∃ l1, (if bb = true then L ++ cat [Q4] else L) = l1 := ⟨_, rfl⟩
                have HL1 : Hid ((if bb = true then L ++ cat [Q4] else L) = l1) := hl1
                obtain ⟨l', s', hO⟩ := pair_of (openS l1 s)
                have HO : Hid (openS l1 s = (l', s')) := hO
                clear hbb hl1 hO hL5 hcl
                go_wp2_with fail
                refine (Few_geq _ _ _ raw 40 w5 ((HRAW.out.later HB5.out).mono HB5.out.size) (by omega) HQ4.out).mono ?_
                rintro e w6 ⟨ao6, cp6, rfl, hown6, hb6⟩
                have hb7 : Below w5.heap.size w5 (w6.alloc (.cells #[.slice ao6 Q4.length cp6] 28)) := hb6.alloc hb6.size _
                obtain ⟨N7, A7, hT7, hN7, HA7, HPQ, HPB⟩ : ∃ N7 A7 : Nat → Prop, Two N7 (w6.alloc (.cells #[.slice ao6 Q4.length cp6] 28)) w.heap.size w1.heap.size L s L s ∧ (∀ i, N7 i → N5 i) ∧ Hid (∀ i, A7 i → ¬ N7 i) ∧
                    Hid (RdP A7 (w6.alloc (.cells #[.slice ao6 Q4.length cp6] 28)) ao6 Q4.length cp6 (Bs Q4)) ∧ Hid (RdLLP A7 (w6.alloc (.cells #[.slice ao6 Q4.length cp6] 28)) (some ⟨w6.heap.size, 0, none⟩) 1 1 [Q4]) :=
                  ⟨_, fun i => w5.heap.size ≤ i ∧ i < w6.heap.size + 1, hT5.shrink hb7, fun i hi => hi.1, fun i hi hn => hn.2 (by simpa using hi), (ownsRow.rdP (hown6.alloc _) fun i h1 h2 => ⟨h1, by simpa using h2⟩), box_one _ w6 ao6 cp6 Q4 (ownsRow.rdP hown6 fun i h1 h2 => ⟨h1, by omega⟩) ⟨hb6.size, by omega⟩⟩
                have HN7 : Hid (∀ i, N7 i → w.heap.size ≤ i) := fun i hi => HN5.out i (hN7 i hi)
                have hB7 := bel_call HB5.out hb7
                clear hown6 hb6 hb7 hT5 hN7
                go_wp2_with fail
                refine (Append_tw hT7 HPB.out HA7.out HBB.out HL1.out).mono ?_
                rintro e w8 ⟨rfl, hT8, hO8⟩
                have hB8 := hB7.trans (hO8.below HN7.out hB7.size)
                have HPQ8 : Hid (RdP A7 w8 ao6 Q4.length cp6 (Bs Q4)) := HPQ.out.only hO8 HA7.out
                clear hT7 hO8 hB7 HPQ HPB
                have hb9 : Below w8.heap.size w8 (w8.alloc (.cells #[.slice ao6 Q4.length cp6] 28)) := (Below.refl _ _).alloc (Nat.le_refl _) _
                obtain ⟨N9, A9, hT9, hN9, HA9, HPB9⟩ : ∃ N9 A9 : Nat → Prop, Two N9 (w8.alloc (.cells #[.slice ao6 Q4.length cp6] 28)) w.heap.size w1.heap.size l1 s L s ∧ (∀ i, N9 i → N7 i) ∧ Hid (∀ i, A9 i → ¬ N9 i) ∧ Hid (RdLLP A9 (w8.alloc (.cells #[.slice ao6 Q4.length cp6] 28)) (some ⟨w8.heap.size, 0, none⟩) 1 1 [Q4]) :=
                  ⟨_, fun i => A7 i ∨ i = w8.heap.size, hT8.shrink hb9, fun i hi => hi.1, fun i hi hn => by
                    rcases hi with hi | hi
                    · exact HA7.out i hi hn.1
                    · exact hn.2 (by simp; omega), box_one _ w8 ao6 cp6 Q4 (HPQ8.out.mono fun i _ h => .inl h) (.inr rfl)⟩
                have HN9 : Hid (∀ i, N9 i → w.heap.size ≤ i) := fun i hi => HN7.out i (hN9 i hi)
                have hB9 := bel_call hB8 hb9
                clear hb9 hT8 hN9 hB8
                go_wp2_with fail
                refine (refAppend_tw hT9 HPB9.out HA9.out (by rw [cat_one]; omega) HBB.out HL1.out).mono ?_
                rintro e w10 ⟨rfl, hT10, hO10⟩
                have hB10 := hB9.trans (hO10.below HN9.out hB9.size)
                clear hT9 hO10 hB9 HPB9 HPQ8
                go_wp2_with fail
                refine (Open_tw hT10 HO.out).mono ?_
                rintro e w11 ⟨lm, rfl, N11, hT11, hL11, hn11, hN11, hO11⟩
                have hB11 := hB10.trans (hO11.below HN9.out hB10.size)
                have HN11 : Hid (∀ i, N11 i → w.heap.size ≤ i) := fun i hi => HN9.out i (hN11 i hi)
                clear hT10 hO11 hB10 hN11
                go_wp2_with fail
                refine (refOpenLog_tw hT11 HO.out).mono ?_
                rintro e w12 ⟨⟨v12, rfl⟩, hT12, hO12⟩
                have hB12 := hB11.trans (hO12.below HN11.out hB11.size)
                have hL12 := hL11.only hO12 hn11
                clear hT11 hO12 hB11 hL11
                go_wp2
                go_meet
                case rel => exact ⟨N11, lm, l', s', rfl, hT12, hL12, hn11, HN11.out, hB12⟩
              · by_cases h4 : p = 4
                · subst h4
                  have hn0 := pick_lo x.n 4 (by omega)
                  have hn9 := pick_hi x.n 4 (by omega)
                  obtain ⟨y, hy⟩ : ∃ y : Nat, pick x.n 4 = (y : Int) := ⟨(pick x.n 4).toNat, by omega⟩
                  have HY : Hid (pick x.n 4 = (y : Int)) := hy
                  have hy4 : y < 4 := by omega
                  obtain ⟨Z, hZ⟩ : ∃ Z, List.replicate (3999 + y) (0 : UInt8) = Z := ⟨_, rfl⟩
                  have HZL : Hid (Z.length = 3999 + y) := by show _ = _; rw [← hZ, List.length_replicate]
                  have mk : ∀ w, (Instr.makeSlice 28 (.int .i64 (3999 + (y : Int))) (.int .i64 (3999 + (y : Int)))).run Try.prog w = .ok (.slice (some ⟨w.heap.size, 0, none⟩) (3999 + y) (3999 + y)) (w.alloc (.cells (Bs Z).toArray 5)) := mkZ (3999 + y) (by omega) Z hZ
                  clear hy hZ hn0 hn9
                  obtain ⟨z, hz⟩ : ∃ z, pick x.n 3 = z := ⟨_, rfl⟩
                  have HZ : Hid (pick x.n 3 = z) := hz
                  clear hz
                  go_wp2_with fail
                  refine (Pick_eq _ _ _ (by omega) (by omega) HY.out).mono ?_
                  rintro e wq ⟨rfl, hwq⟩
                  subst wq
                  obtain ⟨us, hv, hl⟩ := HOWN.out
                  have hZo := own_long w5 Z w4.heap.size hs5 (by rw [HZL.out]; omega)
                  have hSN := (hl.alloc (.cells (Bs Z).toArray 5)).snoc hZo
                  rw [HZL.out] at hSN
                  have HSN : Hid (OwnL w4.heap.size (w5.alloc (.cells (Bs Z).toArray 5)) (us ++ [Value.slice (some ⟨w5.heap.size, 0, none⟩) (3999 + y) (3999 + y)]) (R ++ [Z])) := hSN
                  have HV : Hid (w5.ownsRow w4.heap.size 28 1 (.slice ao5 R.length cp5) R.length us) := hv
                  have hcpo : ∀ g, Value.ownBlock (.slice ao5 R.length cp5) = some g → w4.heap.size ≤ g ∧ g < w5.heap.size := fun g hg => hv.lt g hg
                  have HCP : Hid (∀ g, Value.ownBlock (.slice ao5 R.length cp5) = some g → w4.heap.size ≤ g ∧ g < w5.heap.size) := hcpo
                  clear hZo hSN hl hcpo
                  go_wp2_with (at_builtin; refine appL rfl _ _ _ rfl _ _ _ _ rfl ((hv.alloc _).alloc _) _ 1 [_] rfl (src_slice_at (w5.alloc _) (some ⟨w5.heap.size, 0, none⟩) (3999 + y) (3999 + y) _ (by simp)) (by omega) (by simp; omega) ?_)
                  intro ao7 cp7 w7 hown7 hg7 hb7
                  have HO7 : Hid (OwnLL w4.heap.size w7 (.slice ao7 (R.length + 1) cp7) (R.length + 1) (R ++ [Z])) := ⟨_, hown7, (HSN.out.alloc _).grown hg7 ((HV.out.alloc _).alloc _)⟩
                  have ho7 : Only (fun g => Value.ownBlock (.slice ao5 R.length cp5) = some g) w5 w7 := (Only.of_below _ (bel_two w5 _ _)).trans (Only.of_grown hg7 fun _ h => h)
                  have hs7 := ho7.size
                  have hB7 : Below w.heap.size w w7 := HB5.out.trans (ho7.below (fun g hg => by have := HCP.out g hg; omega) HB5.out.size)
                  have hx17 : w7.cell? ⟨gx, 1, none⟩ = some (.int .i64 x.n) := (World.cell?_of_block (ho7.block gx (by omega) fun hg => by have := HCP.out gx hg; omega)).trans hx1
                  have hL7 := hL5.only ho7 (fun hg => by have := HCP.out lg0 hg; omega)
                  obtain ⟨N7, A7, hT7, hN7, HA7, HPR7⟩ : ∃ N7 A7 : Nat → Prop, Two N7 w7 w.heap.size w1.heap.size L s L s ∧ (∀ i, N7 i → N5 i) ∧ Hid (∀ i, A7 i → ¬ N7 i) ∧ Hid (RdLLP A7 w7 ao7 (R.length + 1) cp7 (R ++ [Z])) :=
                    ⟨_, fun i => w4.heap.size ≤ i ∧ i < w7.heap.size, hT5.shrinkO ho7 (fun i hi hlt hg => HA5.out i ((HA5R.out i).2 (HCP.out i hg)) hi), fun i hi => hi.1, fun i hi hn => by
                      by_cases hi5 : i < w5.heap.size
                      · exact HA5.out i ((HA5R.out i).2 ⟨hi.1, hi5⟩) hn.1
                      · exact hn.2 ⟨by omega, hi.2⟩, HO7.out.rdP fun i h1 h2 => ⟨h1, h2⟩⟩
                  have hn7 : ¬ N7 lg0 := fun x => hn5 (hN7 _ x)
                  have HN7 : Hid (∀ i, N7 i → w.heap.size ≤ i) := fun i hi => HN5.out i (hN7 i hi)
                  have HF7 : Hid ((framesF sum8 (R ++ [Z])).length ≤ 5000) := by
                    show _ ≤ _
                    rw [framesF_append, framesF_one, List.length_append]
                    have h1 := HRF.out
                    have h2 := frameF_le sum8 sum8_length Z (by rw [HZL.out]; omega)
                    have h3 := HZL.out
                    omega
                  clear hown7 hg7 hb7 hv HV HSN HO7 ho7 hT5 hL5 hx0 hx1 hcl hN7
                  go_wp2_with fail
                  refine (Pick_eq _ _ _ (by omega) (by omega) HZ.out).mono ?_
                  rintro e wq ⟨rfl, hwq⟩
                  subst wq
                  by_cases hz : z = 0
                  · subst hz
                    obtain ⟨bb, hbb⟩ : ∃ bb, addB L (R ++ [Z]) = bb := ⟨_, rfl⟩
                    have HBB : Hid (addB L (R ++ [Z]) = bb) := hbb
                    obtain ⟨l', hO⟩ : ∃ l', (if bb = true then L ++ framesF sum8 (R ++ [Z]) else L) = l' := ⟨_, rfl⟩
                    have HO : Hid ((if bb = true then L ++ framesF sum8 (R ++ [Z]) else L) = l') := hO
                    clear hbb hO hx17 mk
                    go_wp2_with fail
                    refine (Add_tw hT7 hL7 hn7 HPR7.out.rd (Nat.le_trans HF7.out (by omega)) HBB.out HO.out).mono ?_
                    rintro e w8 ⟨rfl, hT8, hO8⟩
                    have hB8 := hB7.trans (hO8.below HN7.out hB7.size)
                    have hL8 := hL7.only hO8 hn7
                    have HPR8 : Hid (RdLLP A7 w8 ao7 (R.length + 1) cp7 (R ++ [Z])) := HPR7.out.only hO8 HA7.out
                    clear hT7 hO8 hL7 hB7
                    go_wp2_with fail
                    refine (refAdd_tw hT8 HPR8.out.rd (Nat.le_trans HF7.out (by omega)) HBB.out HO.out).mono ?_
                    rintro e w9 ⟨rfl, hT9, hO9⟩
                    have hB9 := hB8.trans (hO9.below HN7.out hB8.size)
                    have hL9 := hL8.only hO9 hn7
                    clear hT8 hO9 hL8 hB8
                    go_wp2
                    go_meet
                    case rel => exact ⟨N7, lg0, l', s, rfl, hT9, hL9, hn7, HN7.out, hB9⟩
                  · clear mk hx17
                    go_wp2
                    go_meet
                    case rel => exact ⟨N7, lg0, L, s, rfl, hT7, hL7, hn7, HN7.out, hB7⟩
                · obtain ⟨bb, hbb⟩ : ∃ bb, addB L R = bb := ⟨_, rfl⟩
                  have HBB : Hid (addB L R = bb) := hbb
                  obtain ⟨l', hO⟩ : ∃ l', (if bb = true then L ++ framesF sum8 R else L) = l' := ⟨_, rfl⟩
                  have HO : Hid ((if bb = true then L ++ framesF sum8 R else L) = l') := hO
                  clear hbb hO
                  go_wp2_with fail
                  refine (Add_tw hT5 hL5 hn5 HPR.out.rd (Nat.le_trans HRF.out (by omega)) HBB.out HO.out).mono ?_
                  rintro e w6 ⟨rfl, hT6, hO6⟩
                  have hB6 := HB5.out.trans (hO6.below HN5.out HB5.out.size)
                  have hL6 := hL5.only hO6 hn5
                  have HPR6 : Hid (RdLLP A5 w6 ao5 R.length cp5 R) := HPR.out.only hO6 HA5.out
                  clear hT5 hO6 hL5 hcl
                  go_wp2_with fail
                  refine (refAdd_tw hT6 HPR6.out.rd (Nat.le_trans HRF.out (by omega)) HBB.out HO.out).mono ?_
                  rintro e w7 ⟨rfl, hT7, hO7⟩
                  have hB7 := hB6.trans (hO7.below HN5.out hB6.size)
                  have hL7 := hL6.only hO7 hn5
                  clear hT6 hO7 hB6 hL6
                  go_wp2
                  go_meet
                  case rel => exact ⟨N5, lg0, l', s, rfl, hT7, hL7, hn5, HN5.out, hB7⟩
      case rest =>
        obtain ⟨N6, lg6, L2, s2, rfl, hT6, hL6, hn6, hN6, hB6⟩ := hcut
        obtain ⟨w6, rfl⟩ : ∃ w6 : World, w6 = wc := ⟨_, rfl⟩
        clear hT5 hL5 hn5 hcl hx0 hx1 HPR HA5R HOWN HN5 HA5 HB5 HPK hs4 hs5 hsr
        obtain ⟨aoR6, cpR6, c0, c1, cR⟩ : ∃ aoR cpR, w6.cell? ⟨w1.heap.size, 0, none⟩ = some (.slice aoR L2.length cpR) ∧ w6.cell? ⟨w1.heap.size, 1, none⟩ = some (.int .i64 s2) ∧ Hid (Rd w6.heap.size w6 aoR L2.length cpR (Bs L2)) := by
          obtain ⟨_, _, _, _, h2, _⟩ := hT6
          obtain ⟨ao, cp, a, b, _, _, r⟩ := h2.cells
          exact ⟨ao, cp, a, b, r⟩
        have hg1 : w1.heap.size < w6.heap.size := World.block_lt_of_cell? w6 ⟨w1.heap.size, 0, none⟩ c0
        have h64 := hT6.sizes.1.2
        obtain ⟨rs, u, hRS⟩ := pair_of (readS sum8 L2)
        have HRS : Hid (readS sum8 L2 = (rs, u)) := hRS
        clear hRS
        go_wp2_with fail
        refine (refFrames_any _ _ _ L2 w6 cR.out (by omega) HRS.out).mono ?_
        rintro e w7 ⟨aoM, cpM, rfl, hownM, hb7⟩
        have hB7 := bel_call hB6 hb7
        have hT7 := hT6.below hb7
        have hL7 := hL6.only (T := fun _ => False) (Only.of_below _ hb7) id
        have c07 : w7.cell? ⟨w1.heap.size, 0, none⟩ = some (.slice aoR6 L2.length cpR6) := (hb7.cell (p := ⟨w1.heap.size, 0, none⟩) hg1).trans c0
        have c17 : w7.cell? ⟨w1.heap.size, 1, none⟩ = some (.int .i64 s2) := (hb7.cell (p := ⟨w1.heap.size, 1, none⟩) hg1).trans c1
        have HR7 : Hid (Rd w7.heap.size w7 aoR6 L2.length cpR6 (Bs L2)) := rd_call cR.out hb7
        have HM7 : Hid (RdLL w7.heap.size w7 aoM rs.length cpM rs) := hownM.rd
        have hg7 := Nat.lt_of_lt_of_le hg1 hb7.size
        clear c0 c1 cR hT6 hL6 hB6 hownM hb7 hg1
        go_upto_region 40 with fail
        go_cut [171] (fun v wx => v = .bool false ∧ Below w7.heap.size w7 wx)
        case rest =>
          obtain ⟨rfl, hb8⟩ := hcut
          clear c07 c17 HR7 HM7 hg7
          go_wp2
          go_roundw
          case rel => exact ⟨k + 1, by omega, by go_num, N6, lg6, L2, s2, rfl, hT7.below hb8, hL7.only (T := fun _ => False) (Only.of_below _ hb8) id, hn6, hN6, bel_call hB7 hb8⟩
          case measure => simp [intOf]; omega
        case first =>
        have HTd : Hid (Two N6 w7.drew w.heap.size w1.heap.size L2 s2 L2 s2) := hT7.below (below_drew w7)
        have HLd : Hid (LogAt w7.drew lg6 w.heap.size) := hL7
        have hcl7 := hL7.cell
        have hsR7 := run_str _ _ _ _ _ HR7.out.drew
        have HC0 : Hid (w7.cell? ⟨w1.heap.size, 0, none⟩ = some (.slice aoR6 L2.length cpR6)) := c07
        have HC1 : Hid (w7.cell? ⟨w1.heap.size, 1, none⟩ = some (.int .i64 s2)) := c17
        have HN6 : Hid (¬ N6 lg6) := hn6
        have tokA : True := trivial
        clear hT7 hL7 hn6 hN6
        go_region_held (fun w' => w'.cell? ⟨lg6, 0, none⟩ = some (.pointer (some ⟨w.heap.size, 0, none⟩)) ∧ w'.cell? ⟨w1.heap.size, 0, none⟩ = some (.slice aoR6 L2.length cpR6) ∧ w'.cell? ⟨w1.heap.size, 1, none⟩ = some (.int .i64 s2) ∧ (convert 28 9 (.slice aoR6 L2.length cpR6)).run Try.prog w' = .ok (.string (str L2)) w')
          (first | (refine ⟨?_, ?_, ?_, ?_⟩ <;> first | assumption | go_keep) | go_keep) (first
          | (have tA := tokA; go_at_call 29; refine (Bytes_tw HTd.out).mono ?_; rintro e w8 ⟨ao8, cp8, rfl, hown8, hb8⟩; have hb8' := below_undrew hb8; have HB8 : Hid (Below w7.heap.size w7 w8) := hb8'; have hs8 := run_str _ _ _ _ _ (ownsRow.rd hown8); have hsR8 := run_str _ _ _ _ _ (rd_call HR7.out hb8'); have c08 := (hb8'.cell (p := ⟨w1.heap.size, 0, none⟩) hg7).trans HC0.out; have c18 := (hb8'.cell (p := ⟨w1.heap.size, 1, none⟩) hg7).trans HC1.out; have HT8 : Hid (Two N6 w8 w.heap.size w1.heap.size L2 s2 L2 s2) := HTd.out.below hb8; have HL8 : Hid (LogAt w8 lg6 w.heap.size) := HLd.out.only (T := fun _ => False) (Only.of_below _ hb8) id; have hcl8 := HL8.out.cell; have HM8 : Hid (RdLL w8.heap.size w8 aoM rs.length cpM rs) := (HM7.out.later hb8').mono hb8'.size; have HR8 : Hid (Rd w8.heap.size w8 aoR6 L2.length cpR6 (Bs L2)) := rd_call HR7.out hb8'; have hg8 := Nat.lt_of_lt_of_le hg7 hb8'.size; have HC08 : Hid (w8.cell? ⟨w1.heap.size, 0, none⟩ = some (.slice aoR6 L2.length cpR6)) := c08; have HC18 : Hid (w8.cell? ⟨w1.heap.size, 1, none⟩ = some (.int .i64 s2)) := c18; clear hown8 hb8 hb8' tokA tA; have tokB : True := trivial)
          | (have tB := tokB; go_at_call 13; refine (Synced_tw HT8.out).mono ?_; rintro e wq ⟨rfl, hwq⟩; subst wq; clear tokB tB; have tokC : True := trivial)
          | (have tC := tokC; go_at_call 15; refine (Records_tw HT8.out HL8.out HN6.out HRS.out rfl).mono ?_; rintro e w9 ⟨ao9, cp9, rfl, hown9, hb9⟩; have HM9 : Hid (RdLL w9.heap.size w9 aoM rs.length cpM rs) := (HM8.out.later hb9).mono hb9.size; have HX9 : Hid (RdLL w9.heap.size w9 ao9 rs.length cp9 rs) := hown9.rd; have HB9 : Hid (Below w7.heap.size w7 w9) := bel_call HB8.out hb9; have HR9 : Hid (Rd w9.heap.size w9 aoR6 L2.length cpR6 (Bs L2)) := rd_call HR8.out hb9; have hsR9 := run_str _ _ _ _ _ HR9.out; have c09 := (hb9.cell (p := ⟨w1.heap.size, 0, none⟩) hg8).trans HC08.out; have c19 := (hb9.cell (p := ⟨w1.heap.size, 1, none⟩) hg8).trans HC18.out; have hg9 := Nat.lt_of_lt_of_le hg8 hb9.size; have HC09 : Hid (w9.cell? ⟨w1.heap.size, 0, none⟩ = some (.slice aoR6 L2.length cpR6)) := c09; have HC19 : Hid (w9.cell? ⟨w1.heap.size, 1, none⟩ = some (.int .i64 s2)) := c19; have HL9 : Hid (LogAt w9 lg6 w.heap.size) := HL8.out.only (T := fun _ => False) (Only.of_below _ hb9) id; have hcl9 := HL9.out.cell; clear hown9 hb9 tokC tC; have tokD : True := trivial)
          | (have tD := tokD; go_at_call 30; refine (same_any _ _ _ rs _ _ _ rs w9 HX9.out HM9.out rfl).mono ?_; rintro e w10 ⟨rfl, hb10⟩; have HB10 : Hid (Below w7.heap.size w7 w10) := bel_call HB9.out hb10; have hsR10 := run_str _ _ _ _ _ (rd_call HR9.out hb10); have c010 := (hb10.cell (p := ⟨w1.heap.size, 0, none⟩) hg9).trans HC09.out; have c110 := (hb10.cell (p := ⟨w1.heap.size, 1, none⟩) hg9).trans HC19.out; have hcl10 := (HL9.out.only (T := fun _ => False) (Only.of_below _ hb10) id).cell; clear hb10 tokD tD))
        all_goals
          go_wp2
          go_meet
          case rel => exact ⟨by simp, HB10.out⟩
    · go_wp2
      go_ret
      exact ⟨rfl, hB⟩
end Go.Proofs.Ytapocoijfdgcfaa
