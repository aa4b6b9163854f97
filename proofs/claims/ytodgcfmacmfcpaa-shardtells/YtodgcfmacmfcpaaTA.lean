/- Pairs as cells, a table in its block; comparing texts; searching. -/
import Derived.Test.YtodgcfmacmfcpaaST
import Derived.Lib.Bytealg
import Derived.Lib.Walk
namespace Go.Proofs.Ytodgcfmacmfcpaa
open Go.RowKit

abbrev Pr := ByteArray × ByteArray
/-- pairs as cells -/
def flat : List Pr → List Value
  | [] => []
  | p :: r => .string p.1 :: .string p.2 :: flat r
theorem flat_length (l : List Pr) : (flat l).length = 2 * l.length := by
  induction l with
  | nil => rfl
  | cons p r ih => simp only [flat, List.length_cons, ih]; omega
theorem flat_append (a b : List Pr) : flat (a ++ b) = flat a ++ flat b := by
  induction a with
  | nil => rfl
  | cons p r ih => simp only [List.cons_append, flat, ih]
theorem flat_take (l : List Pr) : ∀ n, flat (l.take n) = (flat l).take (2 * n) := by
  induction l with
  | nil => intro n; simp [flat]
  | cons p r ih =>
    intro n
    cases n with
    | zero => rfl
    | succ n => rw [show 2 * (n + 1) = 2 * n + 1 + 1 by omega, List.take_succ_cons]; simp only [flat, List.take_succ_cons, ih]
theorem flat_drop (l : List Pr) : ∀ n, flat (l.drop n) = (flat l).drop (2 * n) := by
  induction l with
  | nil => intro n; simp [flat]
  | cons p r ih =>
    intro n
    cases n with
    | zero => rfl
    | succ n => rw [show 2 * (n + 1) = 2 * n + 1 + 1 by omega, List.drop_succ_cons]; simp only [flat, List.drop_succ_cons, ih]
theorem flat_key (l : List Pr) : ∀ (k : Nat) (h : k < l.length), (flat l)[2 * k]? = some (.string l[k].1) := by
  induction l with
  | nil => intro k h; simp at h
  | cons p r ih =>
    intro k h
    cases k with
    | zero => rfl
    | succ k => rw [show 2 * (k + 1) = 2 * k + 1 + 1 by omega]; simp only [flat, List.getElem?_cons_succ]; exact ih k (by simpa using h)
theorem flat_val (l : List Pr) : ∀ (k : Nat) (h : k < l.length), (flat l)[2 * k + 1]? = some (.string l[k].2) := by
  induction l with
  | nil => intro k h; simp at h
  | cons p r ih =>
    intro k h
    cases k with
    | zero => rfl
    | succ k => rw [show 2 * (k + 1) + 1 = 2 * k + 1 + 1 + 1 by omega]; simp only [flat, List.getElem?_cons_succ]; exact ih k (by simpa using h)
theorem flat_one (l : List Pr) : ∀ u ∈ flat l, u.oneCell' = true := by
  induction l with
  | nil => intro u hu; simp [flat] at hu
  | cons p r ih =>
    intro u hu
    simp only [flat, List.mem_cons] at hu
    rcases hu with rfl | rfl | hu
    · rfl
    · rfl
    · exact ih u hu

/-- texts by their bytes: less -/
def lt (a b : ByteArray) : Bool := decide (Lib.compareBytes a.data.toList b.data.toList < 0)
theorem cmp_self : ∀ a : List UInt8, Lib.compareBytes a a = 0
  | [] => rfl
  | a :: at_ => by simp [Lib.compareBytes, UInt8.lt_irrefl, cmp_self at_]
theorem cmp_zero : ∀ a b : List UInt8, Lib.compareBytes a b = 0 → a = b
  | [], [], _ => rfl
  | [], _ :: _, h => by simp [Lib.compareBytes] at h
  | _ :: _, [], h => by simp [Lib.compareBytes] at h
  | a :: at_, b :: bs, h => by
    unfold Lib.compareBytes at h
    split at h
    · simp at h
    · rename_i h1
      split at h
      · simp at h
      · rename_i h2
        have e : a = b := UInt8.le_antisymm (UInt8.not_lt.1 h2) (UInt8.not_lt.1 h1)
        rw [e, cmp_zero at_ bs h]
theorem cmp_anti : ∀ a b : List UInt8, Lib.compareBytes a b = - Lib.compareBytes b a
  | [], [] => rfl
  | [], _ :: _ => rfl
  | _ :: _, [] => rfl
  | a :: at_, b :: bs => by
    unfold Lib.compareBytes
    by_cases h1 : a < b
    · have h2 : ¬ b < a := UInt8.lt_asymm h1
      simp [h1, h2]
    · by_cases h2 : b < a
      · simp [h1, h2]
      · simp [h1, h2]; exact cmp_anti at_ bs
theorem cmp_trans : ∀ a b c : List UInt8, Lib.compareBytes a b < 0 → Lib.compareBytes b c < 0 → Lib.compareBytes a c < 0
  | [], [], c, h, _ => by simp [Lib.compareBytes] at h
  | [], _ :: _, [], _, h => by simp [Lib.compareBytes] at h
  | [], _ :: _, _ :: _, _, _ => by simp [Lib.compareBytes]
  | _ :: _, [], _, h, _ => by simp [Lib.compareBytes] at h
  | _ :: _, _ :: _, [], _, h => by simp [Lib.compareBytes] at h
  | a :: at_, b :: bs, c :: cs, h, h' => by
    unfold Lib.compareBytes at h h' ⊢
    by_cases h1 : a < b
    · by_cases h2 : b < c
      · simp [UInt8.lt_trans h1 h2]
      · by_cases h3 : c < b
        · simp [h2, h3] at h'
        · have e : b = c := UInt8.le_antisymm (UInt8.not_lt.1 h3) (UInt8.not_lt.1 h2)
          subst e; simp [h1]
    · by_cases h4 : b < a
      · simp [h1, h4] at h
      · have e : a = b := UInt8.le_antisymm (UInt8.not_lt.1 h4) (UInt8.not_lt.1 h1)
        subst e
        by_cases h2 : a < c
        · simp [h2]
        · by_cases h3 : c < a
          · simp [h2, h3] at h'
          · simp [h2, h3, UInt8.lt_irrefl] at h h' ⊢; exact cmp_trans at_ bs cs h h'
theorem lt_irrefl (a : ByteArray) : lt a a = false := by simp [lt, cmp_self]
theorem lt_trans {a b c : ByteArray} (h : lt a b = true) (h' : lt b c = true) : lt a c = true := by simp only [lt, decide_eq_true_eq] at *; exact cmp_trans _ _ _ h h'
theorem lt_tri (a b : ByteArray) (h : lt a b = false) (h' : lt b a = false) : a = b := by
  simp only [lt, decide_eq_false_iff_not] at *
  rw [cmp_anti] at h'
  exact data_inj (cmp_zero _ _ (by omega))
theorem lt_asymm {a b : ByteArray} (h : lt a b = true) : lt b a = false := by
  cases e : lt b a with
  | false => rfl
  | true => have := lt_trans h e; rw [lt_irrefl] at this; cases this
theorem le_lt_trans {a b c : ByteArray} (h : lt b a = false) (h' : lt b c = true) : lt a c = true := by
  cases e : lt a b with
  | true => exact lt_trans e h'
  | false => rw [lt_tri a b e h]; exact h'
/-- rising by keys -/
def Rise (l : List Pr) : Prop := l.Pairwise fun a b => lt a.1 b.1 = true
/-- where a key is, or would be -/
def lb (key : ByteArray) (l : List Pr) : Nat := (l.takeWhile fun p => lt p.1 key).length
/-- it is there -/
def has (key : ByteArray) (l : List Pr) : Bool := l.any fun p => decide (p.1 = key)
/-- the value there -/
def vOf (key : ByteArray) (l : List Pr) : ByteArray := ((l.find? fun p => decide (p.1 = key)).map (·.2)).getD default

theorem Compare1 (a b : ByteArray) (w : World) :
    Calls Try.prog 64 #[.string a, .string b] w fun e w' => e = .returned (.int .i64 (Lib.compareBytes a.data.toList b.data.toList)) ∧ w' = w := by
  go_enter Try.func64, Try.ntmps64
  go_wp2
  rw [run_callFunc_extern Try.func65 (by kernel_rfl) (by kernel_rfl) (by kernel_rfl) (e := Extern.BytealgCompare.compare) (by kernel_rfl), Lib.run_compareString]
  simp only [Result.andThen]
  rw [Oper.upon_value]
  go_wp2
  go_ret
  exact ⟨rfl, rfl⟩
theorem Compare_any (a b : ByteArray) (w : World) :
    Calls Try.prog 62 #[.string a, .string b] w fun e w' => e = .returned (.int .i64 (Lib.compareBytes a.data.toList b.data.toList)) ∧ w' = w := by
  go_enter Try.func62, Try.ntmps62
  go_wp2_with (go_at_call 64; refine (Compare1 _ _ _).mono ?_; rintro e w' ⟨rfl, rfl⟩)
  go_ret
  exact ⟨rfl, rfl⟩
theorem cmp_any (k v key : ByteArray) (w : World) :
    Calls Try.prog 61 #[.agg #[.string k, .string v], .string key] w fun e w' => e = .returned (.int .i64 (Lib.compareBytes k.data.toList key.data.toList)) ∧ w' = w.alloc (.cells #[.string k, .string v] 23) := by
  go_enter Try.func61, Try.ntmps61
  go_wp2_with (go_at_call 62; refine (Compare_any _ _ _).mono ?_; rintro e w' ⟨rfl, rfl⟩)
  go_ret
  exact ⟨rfl, rfl⟩
theorem rise_lt {l : List Pr} (h : Rise l) {i j : Nat} (hij : i < j) (hj : j < l.length) : lt (l[i]'(by omega)).1 l[j].1 = true := List.pairwise_iff_getElem.1 h i j (by omega) hj hij
theorem lb_le (key : ByteArray) (l : List Pr) : lb key l ≤ l.length := by
  unfold lb
  induction l with
  | nil => simp
  | cons p r ih => simp only [List.takeWhile_cons]; split <;> simp_all
theorem lb_lt_iff {l : List Pr} (hr : Rise l) (key : ByteArray) : ∀ {k : Nat} (h : k < l.length), k < lb key l ↔ lt l[k].1 key = true := by
  induction l with
  | nil => intro k h; simp at h
  | cons p r ih =>
    intro k h
    have hr2 : Rise r := (List.pairwise_cons.1 hr).2
    have hp := (List.pairwise_cons.1 hr).1
    cases hl : lt p.1 key with
    | true =>
      have e : lb key (p :: r) = lb key r + 1 := by simp [lb, hl]
      rw [e]
      cases k with
      | zero => simp [hl]
      | succ k => rw [Nat.add_lt_add_iff_right, ih hr2 (Nat.lt_of_succ_lt_succ h)]; simp
    | false =>
      have e : lb key (p :: r) = 0 := by simp [lb, hl]
      rw [e]
      cases k with
      | zero => simp [hl]
      | succ k =>
        simp only [Nat.not_lt_zero, false_iff, List.getElem_cons_succ, Bool.not_eq_true]
        have h1 := hp (r[k]'(by simpa using h)) (List.getElem_mem _)
        cases e2 : lt (r[k]'(by simpa using h)).1 key with
        | false => rfl
        | true => have := lt_trans h1 e2; rw [hl] at this; cases this
theorem has_iff {l : List Pr} (hr : Rise l) (key : ByteArray) : has key l = true ↔ ∃ h : lb key l < l.length, l[lb key l].1 = key := by
  constructor
  · intro h
    obtain ⟨p, hp, e⟩ := List.any_eq_true.1 h
    obtain ⟨k, hk, rfl⟩ := List.getElem_of_mem hp
    have e : l[k].1 = key := of_decide_eq_true e
    have h1 : ¬ k < lb key l := by rw [lb_lt_iff hr key hk, e, lt_irrefl]; simp
    have h2 : ¬ lb key l < k := by
      intro hlt
      have h3 : lb key l < l.length := by omega
      have h4 := rise_lt hr hlt hk
      rw [e] at h4
      have := (lb_lt_iff hr key h3).2 h4
      omega
    have h5 : lb key l = k := by omega
    refine ⟨by omega, ?_⟩
    simp only [h5]; exact e
  · rintro ⟨h, e⟩
    exact List.any_eq_true.2 ⟨l[lb key l], List.getElem_mem _, decide_eq_true e⟩
theorem has_at {l : List Pr} (hr : Rise l) (key : ByteArray) (h : lb key l < l.length) : has key l = (Lib.compareBytes l[lb key l].1.data.toList key.data.toList == 0) := by
  rw [Bool.eq_iff_iff, has_iff hr]
  simp only [beq_iff_eq]
  constructor
  · rintro ⟨_, e⟩; rw [e]; exact cmp_self _
  · intro e; exact ⟨h, data_inj (cmp_zero _ _ e)⟩
theorem has_end {l : List Pr} (hr : Rise l) (key : ByteArray) (h : ¬ lb key l < l.length) : has key l = false := by
  cases e : has key l with
  | false => rfl
  | true => obtain ⟨h2, _⟩ := (has_iff hr key).1 e; exact absurd h2 h

/-- pairs behind an address -/
def RdPr (w : World) (g off : Nat) (l : List Pr) : Prop := ∀ k (h : k < l.length), w.cell? ⟨g, off + k * 2, none⟩ = some (.string l[k].1) ∧ w.cell? ⟨g, off + k * 2 + 1, none⟩ = some (.string l[k].2)

set_option maxHeartbeats 1000000 in
theorem search_any (g off cap : Nat) (l : List Pr) (key : ByteArray) (w : World) (hg : g < w.heap.size) (hn : l.length ≤ 8) (hr : Rise l) (h : RdPr w g off l) :
    Calls Try.prog 60 #[.slice (some ⟨g, off, none⟩) l.length cap, .string key, .func (.func 61) #[] #[]] w
      fun e w' => e = .returned (.tuple #[.int .i64 (lb key l), .bool (has key l)]) ∧ Below w.heap.size w w' := by
  have HR : Hid (Rise l) := hr
  have HC : Hid (RdPr w g off l) := h
  clear h hr
  have HLB : Hid (lb key l ≤ l.length) := lb_le key l
  obtain ⟨n, hln⟩ : ∃ n, n = l.length := ⟨_, rfl⟩
  rw [← hln]
  rw [← hln] at hn
  have HN : Hid (n = l.length) := hln
  clear hln
  go_enter Try.func60, Try.ntmps60
  go_wp2
  go_loopw [9, 10] (fun vi vj wr => ∃ i j : Nat, i ≤ j ∧ j ≤ n ∧ vi = .int .i64 i ∧ vj = .int .i64 j ∧ Hid (i ≤ lb key l ∧ lb key l ≤ j) ∧ Below w.heap.size w wr) (fun vi vj _ => (intOf vj).toNat - (intOf vi).toNat)
  case atStart => exact ⟨0, n, Nat.zero_le _, Nat.le_refl _, rfl, rfl, ⟨Nat.zero_le _, by rw [HN.out]; exact HLB.out⟩, Below.refl _ _⟩
  case round =>
    obtain ⟨i, j, hij, hjn, rfl, rfl, HI, hbel⟩ := hrel
    by_cases hlt : i < j
    · obtain ⟨m, hm⟩ : ∃ m, m = (i + j) / 2 := ⟨_, rfl⟩
      have hml : m < l.length := by rw [← HN.out]; omega
      obtain ⟨c1, c2⟩ := HC.out m hml
      have d1 : wr.cell? ⟨g, off + (i + j) / 2 * 2, none⟩ = some (.string l[m].1) := by rw [← hm]; exact (hbel.cell (p := ⟨g, off + m * 2, none⟩) hg).trans c1
      have d2 : wr.cell? ⟨g, off + (i + j) / 2 * 2 + 1, none⟩ = some (.string l[m].2) := by rw [← hm]; exact (hbel.cell (p := ⟨g, off + m * 2 + 1, none⟩) hg).trans c2
      clear c1 c2
      have HM : Hid (m = (i + j) / 2) := hm
      have HK := lb_lt_iff HR.out key hml
      have HK : Hid (m < lb key l ↔ Lib.compareBytes l[m].1.data.toList key.data.toList < 0) := (by simpa [lt] using HK : _ ↔ _)
      clear hm
      obtain ⟨pk, hpk⟩ : ∃ pk, pk = l[m].1 := ⟨_, rfl⟩
      obtain ⟨pv, hpv⟩ : ∃ pv, pv = l[m].2 := ⟨_, rfl⟩
      rw [← hpk] at d1 HK
      rw [← hpv] at d2
      clear hpk hpv
      have hb2 : Below w.heap.size w (wr.alloc (.cells #[.string pk, .string pv] 23)) := hbel.alloc hbel.size _
      by_cases hc : Lib.compareBytes pk.data.toList key.data.toList < 0
      · have HC2 : Hid ((i + j) / 2 < lb key l) := by rw [← HM.out]; exact HK.out.2 hc
        go_wp2_with (go_at_call 61; refine (cmp_any _ _ _ _).mono ?_; rintro e w' ⟨rfl, rfl⟩)
        go_roundw
        case rel => exact ⟨(i + j) / 2 + 1, j, by omega, hjn, by go_num, rfl, ⟨HC2.out, HI.out.2⟩, hb2⟩
        case measure => simp [intOf]; omega
      · have HC2 : Hid (lb key l ≤ (i + j) / 2) := by rw [← HM.out]; exact Nat.not_lt.1 fun h => hc (HK.out.1 h)
        go_wp2_with (go_at_call 61; refine (cmp_any _ _ _ _).mono ?_; rintro e w' ⟨rfl, rfl⟩)
        go_roundw
        case rel => exact ⟨i, (i + j) / 2, by omega, by omega, rfl, by go_num, ⟨HI.out.1, HC2.out⟩, hb2⟩
        case measure => simp [intOf]; omega
    · have hije : i = j := by omega
      subst hije
      have hlb : i = lb key l := by have := HI.out; omega
      by_cases hin : i < n
      · have hil : i < l.length := by rw [← HN.out]; exact hin
        obtain ⟨c1, c2⟩ := HC.out i hil
        have d1 : wr.cell? ⟨g, off + i * 2, none⟩ = some (.string l[i].1) := (hbel.cell (p := ⟨g, off + i * 2, none⟩) hg).trans c1
        have d2 : wr.cell? ⟨g, off + i * 2 + 1, none⟩ = some (.string l[i].2) := (hbel.cell (p := ⟨g, off + i * 2 + 1, none⟩) hg).trans c2
        have e : has key l = (Lib.compareBytes l[i].1.data.toList key.data.toList == 0) := by
          subst hlb; exact has_at HR.out key hil
        obtain ⟨pk, hpk⟩ : ∃ pk, pk = l[i].1 := ⟨_, rfl⟩
        obtain ⟨pv, hpv⟩ : ∃ pv, pv = l[i].2 := ⟨_, rfl⟩
        rw [← hpk] at d1 e
        rw [← hpv] at d2
        have HE : Hid (has key l = (Lib.compareBytes pk.data.toList key.data.toList == 0)) := e
        have HB : Hid (i = lb key l) := hlb
        clear hpk hpv c1 c2 e hlb
        have hb2 : Below w.heap.size w (wr.alloc (.cells #[.string pk, .string pv] 23)) := hbel.alloc hbel.size _
        go_wp2_with (go_at_call 61; refine (cmp_any _ _ _ _).mono ?_; rintro e w' ⟨rfl, rfl⟩)
        all_goals
          go_ret2
          refine ⟨?_, hb2⟩
          rw [← HB.out, HE.out]
          rfl
      · have HE : Hid (has key l = false) := has_end HR.out key (by rw [← HN.out, ← hlb]; exact hin)
        have HB : Hid (i = lb key l) := hlb
        clear hlb
        go_wp2
        go_ret2
        rw [← HB.out, HE.out]
        exact ⟨rfl, hbel⟩
end Go.Proofs.Ytodgcfmacmfcpaa
