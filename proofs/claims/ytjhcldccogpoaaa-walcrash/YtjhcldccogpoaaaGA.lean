/- The ground over the program, for seats of any stage: small walks (Pick, Clone, Few), appends onto rows of one's own, string(b), make, literals; lists of slices of bytes ('RdL', 'RdLL', 'OwnL', 'OwnLL'). -/
import Derived.Test.YtjhcldccogpoaaaProg
import Derived.Test.YtjhcldccogpoaaaM
import Derived.BigQuiet
import Derived.Deep.QuietTactic
import Derived.Lib.SmallJoins
import Derived.Lib.SlBytesConst
namespace Go.Proofs.Ytjhcldccogpoaaa
open Go.RowKit

theorem ret_int {k : IntKind} {a b : Int} (h : a = b) : Ending.returned (.int k a) = .returned (.int k b) := by rw [h]
theorem ret_bool {a b : Bool} (h : a = b) : Ending.returned (.bool a) = .returned (.bool b) := by rw [h]
theorem ret_slice {ao : Option Addr} {n m cap : Nat} (h : n = m) : Ending.returned (.slice ao n cap) = .returned (.slice ao m cap) := by rw [h]
def pick (n m : Int) : Int := n % m
set_option maxHeartbeats 400000 in
theorem Pick_any (n m : Int) (w : World) (h0 : 0 < m) (h1 : m ≤ 9223372036854775807) :
    Calls Try.prog 9 #[.int .i64 n, .int .i64 m] w fun e w' => e = .returned (.int .i64 (pick n m)) ∧ w' = w := by
  have hp : pick n m = if n.tmod m < 0 then n.tmod m + m else n.tmod m := by
    unfold pick
    have e1 := Int.tmod_eq_emod (a := n) (b := m)
    have g1 := Int.emod_nonneg n (show m ≠ 0 by omega)
    have g2 := Int.emod_lt_of_pos n h0
    split at e1 <;> split <;> omega
  have b1 : n.tmod m < m := Int.tmod_lt_of_pos n h0
  have b2 : -m < n.tmod m := Int.lt_tmod_of_pos n h0
  have H : Hid (pick n m = if n.tmod m < 0 then n.tmod m + m else n.tmod m) := hp
  clear hp
  go_enter Try.func9, Try.ntmps9
  go_wp2
  · go_ret
    have hlt : n.tmod m < 0 := by assumption
    exact ⟨ret_int (by rw [H.out, if_pos hlt]), rfl⟩
  · go_ret
    have hge : 0 ≤ n.tmod m := by assumption
    exact ⟨ret_int (by rw [H.out, if_neg (by omega)]), rfl⟩
theorem Pick_eq (n m : Int) (w : World) (h0 : 0 < m) (h1 : m ≤ 9223372036854775807) {p : Int} (hp : pick n m = p) :
    Calls Try.prog 9 #[.int .i64 n, .int .i64 m] w fun e w' => e = .returned (.int .i64 p) ∧ w' = w := by
  have := Pick_any n m w h0 h1
  rw [hp] at this
  exact this
theorem pick_lo (n m : Int) (h : 0 < m) : 0 ≤ pick n m := Int.emod_nonneg n (by omega)
theorem pick_hi (n m : Int) (h : 0 < m) : pick n m < m := Int.emod_lt_of_pos n h

theorem Try.info5 : (Try.prog.info? 5).map (fun i => (i.zero, i.size, i.bytes)) = some (some (.int .u8 0), 1, 1) := by kernel_rfl
theorem Try.info3 : (Try.prog.info? 3).map (fun i => (i.zero, i.size, i.bytes)) = some (some (.int .i64 0), 1, 8) := by kernel_rfl

/-- append onto a []byte of one's own -/
theorem appB {w : World} {ops : Array Oper} {rest : List Oper} {o : Oper} {a : Act} {Q : Exit → Act → World → Prop} (hgd : o.guard = none) (s x : Operand) (tx : TypeId)
    (ho : o.op = .call { callee := .builtin .append, args := #[s, x], argTypes := #[23, tx] })
    (base : Nat) (v : Value) (n : Nat) (xs : List Value) (hs : a.eval s = v) (hown : w.ownsRow base 5 1 v n xs)
    (xv : Value) (m : Nat) (news : List Value) (hx : a.eval x = xv) (hsrc : Src Try.prog 1 tx xv m news w)
    (hbytes : n + m ≤ 140737488355328) (hbase : base ≤ w.heap.size)
    (h : ∀ ao' cap' w', w'.ownsRow base 5 1 (.slice ao' (n + m) cap') (n + m) (xs ++ news) → w.grownBy w' v.ownBlock → Below base w w' →
      wpList Try.prog ops Q rest (a.put o.dst (.slice ao' (n + m) cap')) w') : wpList Try.prog ops Q (o :: rest) a w := by
  obtain ⟨i0, hi, hz0, hz1, hz2⟩ := info_parts Try.info5
  exact wpList_app hgd s x 23 tx ho base 5 i0 _ 1 Try.underlying23 hi hz0 hz1 hz2 (Nat.le_refl _) rfl v n xs hs hown xv m news hx hsrc (by omega) hbase h

/-- append onto a []byte of one's own, and where it lies then -/
theorem appB2 {w : World} {ops : Array Oper} {rest : List Oper} {o : Oper} {a : Act} {Q : Exit → Act → World → Prop} (hgd : o.guard = none) (s x : Operand) (tx : TypeId)
    (ho : o.op = .call { callee := .builtin .append, args := #[s, x], argTypes := #[23, tx] })
    (base : Nat) (v : Value) (n : Nat) (xs : List Value) (hs : a.eval s = v) (hown : w.ownsRow base 5 1 v n xs)
    (xv : Value) (m : Nat) (news : List Value) (hx : a.eval x = xv) (hsrc : Src Try.prog 1 tx xv m news w)
    (hbytes : n + m ≤ 140737488355328) (hbase : base ≤ w.heap.size)
    (h : ∀ ao' cap' w', w'.ownsRow base 5 1 (.slice ao' (n + m) cap') (n + m) (xs ++ news) → w.grownBy w' v.ownBlock → Below base w w' → (∀ k, Value.ownBlock (.slice ao' (n + m) cap') = some k → v.ownBlock = some k ∨ w.heap.size ≤ k) →
      wpList Try.prog ops Q rest (a.put o.dst (.slice ao' (n + m) cap')) w') : wpList Try.prog ops Q (o :: rest) a w := by
  obtain ⟨i0, hi, hz0, hz1, hz2⟩ := info_parts Try.info5
  exact wpList_app2 hgd s x 23 tx ho base 5 i0 _ 1 Try.underlying23 hi hz0 hz1 hz2 (Nat.le_refl _) rfl v n xs hs hown xv m news hx hsrc (by omega) hbase h

/-- append onto a []int of one's own -/
theorem appI {w : World} {ops : Array Oper} {rest : List Oper} {o : Oper} {a : Act} {Q : Exit → Act → World → Prop} (hgd : o.guard = none) (s x : Operand) (tx : TypeId)
    (ho : o.op = .call { callee := .builtin .append, args := #[s, x], argTypes := #[52, tx] })
    (base : Nat) (v : Value) (n : Nat) (xs : List Value) (hs : a.eval s = v) (hown : w.ownsRow base 3 1 v n xs)
    (xv : Value) (m : Nat) (news : List Value) (hx : a.eval x = xv) (hsrc : Src Try.prog 1 tx xv m news w)
    (hbytes : (n + m) * 8 ≤ 140737488355328) (hbase : base ≤ w.heap.size)
    (h : ∀ ao' cap' w', w'.ownsRow base 3 1 (.slice ao' (n + m) cap') (n + m) (xs ++ news) → w.grownBy w' v.ownBlock → Below base w w' →
      wpList Try.prog ops Q rest (a.put o.dst (.slice ao' (n + m) cap')) w') : wpList Try.prog ops Q (o :: rest) a w := by
  obtain ⟨i0, hi, hz0, hz1, hz2⟩ := info_parts Try.info3
  exact wpList_app hgd s x 52 tx ho base 3 i0 _ 8 Try.underlying52 hi hz0 hz1 hz2 (by omega) rfl v n xs hs hown xv m news hx hsrc hbytes hbase h

/-- an empty row that was just built -/
theorem own_built (w : World) (e : TypeId) : (w.alloc (.cells #[] e)).ownsRow w.heap.size e 1 (.slice (some ⟨w.heap.size, 0, none⟩) 0 0) 0 [] :=
  World.ownsRow_made w #[] 0 (Nat.le_refl _) (Nat.zero_le _) rfl

/-- 's == nil' of a []byte -/
theorem isNilB (w : World) (a : Option Addr) (n c : Nat) : (binOp .eql 23 (.slice a n c) (.slice none 0 0)).run Try.prog w = .ok (.bool a.isNone) w := Lib.run_eql_slice_nil w _ _ a n c 0 0 Try.underlying23

set_option maxHeartbeats 400000 in
theorem Clone_any (ao : Option Addr) (n cap : Nat) (l : List UInt8) (w : World) (h : Rd w.heap.size w ao n cap (Bs l)) (hb : n ≤ 140737488355328) :
    Calls Try.prog 41 #[.slice ao n cap] w fun e w' => ∃ ao' cap', e = .returned (.slice ao' n cap') ∧ w'.ownsRow w.heap.size 5 1 (.slice ao' n cap') n (Bs l) ∧ Below w.heap.size w w' := by
  have q := isNilB
  cases ao with
  | none =>
    have hn : n = 0 := by have h1 := h.2.1; have h2 := h.2.2.2.1 rfl; omega
    have hl : Bs l = [] := List.eq_nil_of_length_eq_zero (by rw [h.1, hn])
    have HL : Hid (Bs l = []) := hl
    clear hl
    subst hn
    go_enter Try.func41, Try.ntmps41
    go_wp2
    go_ret
    exact ⟨none, 0, rfl, by rw [HL.out]; exact World.ownsRow_nil _ _ _ _, Below.refl _ _⟩
  | some a =>
    go_enter Try.func41, Try.ntmps41
    go_wp2_with (at_builtin; refine appB rfl _ _ _ rfl _ _ _ _ rfl (own_built w _) _ n (Bs l) rfl ?src (by omega) (by simp) ?_)
    case src => exact (h.later ((Below.refl _ _).alloc (Nat.le_refl _) _)).src Try.underlying23 (Bs_one l)
    intro ao' cap' w' hown _ hbel
    go_wp2
    go_ret
    exact ⟨ao', cap', rfl, hown, ((Below.refl _ _).alloc (Nat.le_refl _) _).trans hbel⟩
def str (l : List UInt8) : ByteArray := ⟨l.toArray⟩
theorem str_inj {a b : List UInt8} (h : str a = str b) : a = b := by
  have := congrArg (fun s : ByteArray => s.data.toList) h
  simpa [str] using this

theorem str_toList (l : List UInt8) : (str l).toList = l := by rw [ByteArray.toList_eq]; simp [str]

/-- string(b) -/
theorem run_str {B : Nat} (w : World) (ao : Option Addr) (n cap : Nat) (l : List UInt8) (h : Rd B w ao n cap (Bs l)) :
    (convert 23 9 (.slice ao n cap)).run Try.prog w = .ok (.string (str l)) w := by
  obtain ⟨h1, h2, h3, h4, h5⟩ := h
  rw [Bs_length] at h1
  subst h1
  cases ao with
  | none =>
    have : l = [] := List.eq_nil_of_length_eq_zero (by have := h4 rfl; omega)
    subst this
    exact run_convert_bytes_nil w 23 5 Try.underlying23 Try.underlying5 _ _ 9 Try.underlying9
  | some a =>
    have hl : (loadCells a l.length).run Try.prog w = .ok ((l.map fun c => (c.toNat : Int)).map (Value.int .u8)).toArray w := by
      have := run_loadCells_list (P := Try.prog) w a ((l.map fun c => (c.toNat : Int)).map (Value.int .u8)) (fun j v hj => by
        rcases h5 with h5 | ⟨b, off, e1, e2, e3⟩
        · have : l = [] := by simpa [Bs] using h5
          subst this
          simp at hj
        · cases e1
          rw [show (⟨b, off, none⟩ : Addr).add j = ⟨b, off + j, none⟩ from by unfold Addr.add; split <;> simp_all]
          refine e3 j v ?_
          rw [← hj, List.map_map]
          rfl)
      simpa using this
    rw [run_convert_bytes_string w 23 9 5 _ l.length cap Try.underlying23 Try.underlying5 Try.underlying9, run_bytesToString w _ l.length cap _ hl, foldl_push_bytes]
    have hm : (l.map fun c => (c.toNat : Int)).map (fun n : Int => UInt8.ofNat n.toNat) = l := by
      rw [List.map_map]
      conv => rhs; rw [← List.map_id l]
      apply List.map_congr_left
      intro c _
      simp
    rw [hm]
    simp [str, ByteArray.empty, ByteArray.emptyWithCapacity]
    rfl

/-- a row that was just built reads as its cells -/
theorem Rd.built (w : World) (cs : List Value) (e : TypeId) (hm : cs.length ≤ maxLen) : Rd (w.alloc (.cells cs.toArray e)).heap.size (w.alloc (.cells cs.toArray e)) (some ⟨w.heap.size, 0, none⟩) cs.length cs.length cs := by
  refine ⟨rfl, Nat.le_refl _, hm, by simp, .inr ⟨w.heap.size, 0, rfl, by simp, ?_⟩⟩
  intro j u hj
  rw [cell_of_row (w.alloc (.cells cs.toArray e)) w.heap.size (0 + j) cs.toArray e (0, 0) (heap_alloc_new w _)]
  simpa using hj

theorem rd_str {l : List UInt8} : (str l).size = l.length := by simp [str, ByteArray.size]

/-- steps of worlds: a new block, then a call · a call -/
theorem bel_new {w wi w2 : World} {o : Obj} (h : Below w.heap.size w wi) (hb : Below (wi.alloc o).heap.size (wi.alloc o) w2) : Below w.heap.size w w2 :=
  (h.alloc h.size o).trans (hb.mono (by have := h.size; simp; omega))
theorem bel_call {w wi w2 : World} (h : Below w.heap.size w wi) (hb : Below wi.heap.size wi w2) : Below w.heap.size w w2 := h.trans (hb.mono h.size)
theorem rd_new {wi w2 : World} {o : Obj} {ao : Option Addr} {n cap : Nat} {xs : List Value} (h : Rd wi.heap.size wi ao n cap xs) (hb : Below (wi.alloc o).heap.size (wi.alloc o) w2) : Rd w2.heap.size w2 ao n cap xs :=
  (h.later (((Below.refl wi.heap.size wi).alloc (Nat.le_refl _) o).trans (hb.mono (by simp)))).mono (by have := hb.size; simp at this; omega)
theorem rd_call {wi w2 : World} {ao : Option Addr} {n cap : Nat} {xs : List Value} (h : Rd wi.heap.size wi ao n cap xs) (hb : Below wi.heap.size wi w2) : Rd w2.heap.size w2 ao n cap xs :=
  (h.later hb).mono hb.size
theorem rd_alloc {wi : World} {o : Obj} {ao : Option Addr} {n cap : Nat} {xs : List Value} (h : Rd wi.heap.size wi ao n cap xs) : Rd (wi.alloc o).heap.size (wi.alloc o) ao n cap xs :=
  (h.later ((Below.refl wi.heap.size wi).alloc (Nat.le_refl _) o)).mono (by simp)

/-- what was made by a call stays, where a row that was there before it is written -/
theorem own_kept {w w1 : World} {o : Obj} {e : TypeId} {u : Value} {n b : Nat} {xs : List Value} {row : Option Nat} (h : w.ownsRow b e 1 u n xs) (hg : (w.alloc o).grownBy w1 row) (hrow : row = none ∨ ∃ k, row = some k ∧ k < b) : w1.ownsRow b e 1 u n xs := by
  refine (h.alloc o).kept hg ?_
  rcases hrow with rfl | ⟨k, rfl, hk⟩
  · cases hv : u.ownBlock with
    | none => exact .inl rfl
    | some z => exact .inr (by simp)
  · right
    intro hv
    have := (h.lt k hv).1
    omega
theorem own_block {w : World} {e : TypeId} {v : Value} {n b : Nat} {xs : List Value} (h : w.ownsRow b e 1 v n xs) : v.ownBlock = none ∨ ∃ k, v.ownBlock = some k ∧ k < w.heap.size := by
  cases hv : v.ownBlock with
  | none => exact .inl rfl
  | some k => exact .inr ⟨k, rfl, (h.lt k hv).2⟩
/-- what is owned stays, where nothing that was there is written -/
theorem own_below {w w' : World} {e : TypeId} {v : Value} {n b : Nat} {xs : List Value} (h : w.ownsRow b e 1 v n xs) (hb : Below w.heap.size w w') : w'.ownsRow b e 1 v n xs := by
  refine h.kept (row := none) ⟨hb.os, hb.tape, hb.output, hb.size, fun j hj _ => hb.block j hj⟩ ?_
  cases hv : v.ownBlock with
  | none => exact .inl rfl
  | some z => exact .inr (by simp)

theorem Bs_set (l : List UInt8) (k : Nat) (x : UInt8) : (Bs l).set k (.int .u8 (x.toNat : Int)) = Bs (l.set k x) := by
  simp [Bs, List.map_set]

/-- a row that is owned above one place is owned above a lower one -/
theorem own_mono {B B' : Nat} {w : World} {e : TypeId} {v : Value} {n : Nat} {xs : List Value} (h : w.ownsRow B' e 1 v n xs) (hB : B ≤ B') : w.ownsRow B e 1 v n xs := by
  refine ⟨h.1, ?_⟩
  rcases h.2 with hn | ⟨g, cap, cur, rfl, hb, rest⟩
  · exact .inl hn
  · exact .inr ⟨g, cap, cur, rfl, by omega, rest⟩
/-- make([]byte, n) -/
theorem mkB (n : Nat) (hn : n ≤ 140737488355328) (w : World) : (Instr.makeSlice 23 (.int .i64 n) (.int .i64 n)).run Try.prog w = .ok (.slice (some ⟨w.heap.size, 0, none⟩) n n) (w.alloc (.cells (Array.replicate n (.int .u8 0)) 5)) := by
  obtain ⟨i0, hi, hz0, hz1, hz2⟩ := info_parts Try.info5
  have := run_make (P := Try.prog) w 23 5 i0 _ Try.underlying23 hi hz0 .i64 .i64 n n (by omega) (Int.le_refl _) (by rw [hz2]; omega) (by omega)
  rw [this, hz1, Int.toNat_natCast, Nat.mul_one]
  have e : madeCells (Value.int .u8 0).cells n = Array.replicate n (.int .u8 0) := by
    rw [← Array.toList_inj]
    exact (toList_madeCells_one _ n).trans (by simp)
  rw [e]
/-- make([]byte, n), as a list -/
theorem mkZ (n : Nat) (hn : n ≤ 140737488355328) (Z : List UInt8) (hZ : List.replicate n (0 : UInt8) = Z) (w : World) : (Instr.makeSlice 23 (.int .i64 (n : Nat)) (.int .i64 (n : Nat))).run Try.prog w = .ok (.slice (some ⟨w.heap.size, 0, none⟩) n n) (w.alloc (.cells (Bs Z).toArray 5)) := by
  rw [mkB n hn w, ← hZ]
  congr 3
  simp [Bs]
theorem Rd.long (W : World) (l : List UInt8) (n : Nat) (hl : l.length = n) (hm : n ≤ 1000000) : Rd (W.alloc (.cells (Bs l).toArray 5)).heap.size (W.alloc (.cells (Bs l).toArray 5)) (some ⟨W.heap.size, 0, none⟩) l.length n (Bs l) := by
  subst hl
  have := Rd.built W (Bs l) 5 (by rw [Bs_length]; unfold maxLen; omega)
  rwa [Bs_length] at this
theorem Rd.bytes (W : World) (l : List UInt8) (B : Nat) (hB : W.heap.size = B) (hm : l.length ≤ 1000) : Rd (W.alloc (.cells (Bs l).toArray 5)).heap.size (W.alloc (.cells (Bs l).toArray 5)) (some ⟨B, 0, none⟩) l.length l.length (Bs l) := by
  have := Rd.built W (Bs l) 5 (by rw [Bs_length]; unfold maxLen; omega)
  rwa [hB, Bs_length] at this
theorem Rd.lit (W : World) (l : List UInt8) (fr : Nat × Nat) (B : Nat) (hB : W.heap.size = B) (hm : l.length ≤ 1000) : Rd (W.alloc (.cells (Bs l).toArray 5 fr)).heap.size (W.alloc (.cells (Bs l).toArray 5 fr)) (some ⟨B, 0, none⟩) l.length l.length (Bs l) := by
  subst hB
  refine ⟨Bs_length l, Nat.le_refl _, by unfold maxLen; omega, by simp, .inr ⟨W.heap.size, 0, rfl, by simp, ?_⟩⟩
  intro j u hj
  rw [World.cell?_alloc_mark W (Bs l).toArray 5 fr (0 + j)]
  simpa using hj
set_option maxHeartbeats 400000 in
theorem Few_gen (ao : Option Addr) (n cap : Nat) (l : List UInt8) (m : Nat) (w : World) (h : Rd w.heap.size w ao n cap (Bs l)) (hb : n ≤ 140737488355328 ∨ m ≤ 140737488355328) :
    Calls Try.prog 17 #[.slice ao n cap, .int .i64 m] w fun e w' => ∃ ao' cap', e = .returned (.slice ao' (l.take m).length cap') ∧ w'.ownsRow w.heap.size 5 1 (.slice ao' (l.take m).length cap') (l.take m).length (Bs (l.take m)) ∧ Below w.heap.size w w' := by
  have hl : l.length = n := by rw [← Bs_length]; exact h.1
  subst hl
  have hcp := h.2.1
  by_cases hlt : m < l.length
  · have hT := h.till m (by omega)
    rw [← Bs_take] at hT
    have HL : Hid (m = (l.take m).length) := by show _ = _; simp; omega
    go_enter Try.func17, Try.ntmps17
    go_wp2_with (at_builtin; refine appB rfl _ _ _ rfl _ _ _ _ rfl (own_built w _) _ m (Bs (l.take m)) rfl ?src (by omega) (by simp) ?_)
    case src => exact (hT.later ((Below.refl _ _).alloc (Nat.le_refl _) _)).src Try.underlying23 (Bs_one _)
    intro ao' cap' w' hown _ hbel
    have HF : Hid (w'.ownsRow w.heap.size 5 1 (.slice ao' (l.take m).length cap') (l.take m).length (Bs (l.take m))) := by
      show World.ownsRow _ _ _ _ _ _ _
      rw [← HL.out]
      simpa using hown
    clear hown
    go_wp2
    go_ret
    exact ⟨ao', cap', ret_slice (by rw [← HL.out]), HF.out, ((Below.refl _ _).alloc (Nat.le_refl _) _).trans hbel⟩
  · have HL : Hid (l.take m = l) := List.take_of_length_le (by omega)
    rw [HL.out]
    go_enter Try.func17, Try.ntmps17
    go_wp2_with (at_builtin; refine appB rfl _ _ _ rfl _ _ _ _ rfl (own_built w _) _ l.length (Bs l) rfl ?src (by omega) (by simp) ?_)
    case src => exact (h.later ((Below.refl _ _).alloc (Nat.le_refl _) _)).src Try.underlying23 (Bs_one _)
    intro ao' cap' w' hown _ hbel
    have HF : Hid (w'.ownsRow w.heap.size 5 1 (.slice ao' l.length cap') l.length (Bs l)) := by
      show World.ownsRow _ _ _ _ _ _ _
      simpa using hown
    clear hown
    go_wp2
    go_ret
    exact ⟨ao', cap', rfl, HF.out, ((Below.refl _ _).alloc (Nat.le_refl _) _).trans hbel⟩
theorem Few_any (ao : Option Addr) (n cap : Nat) (l : List UInt8) (m : Nat) (w : World) (h : Rd w.heap.size w ao n cap (Bs l)) (hb : n ≤ 140737488355328) :
    Calls Try.prog 17 #[.slice ao n cap, .int .i64 m] w fun e w' => ∃ ao' cap', e = .returned (.slice ao' (l.take m).length cap') ∧ w'.ownsRow w.heap.size 5 1 (.slice ao' (l.take m).length cap') (l.take m).length (Bs (l.take m)) ∧ Below w.heap.size w w' := Few_gen ao n cap l m w h (.inl hb)
theorem Few_eq (ao : Option Addr) (n cap : Nat) (l : List UInt8) (m : Nat) (w : World) (h : Rd w.heap.size w ao n cap (Bs l)) (hb : n ≤ 140737488355328) {r : List UInt8} (hS : l.take m = r) :
    Calls Try.prog 17 #[.slice ao n cap, .int .i64 m] w fun e w' => ∃ ao' cap', e = .returned (.slice ao' r.length cap') ∧ w'.ownsRow w.heap.size 5 1 (.slice ao' r.length cap') r.length (Bs r) ∧ Below w.heap.size w w' := by
  have := Few_any ao n cap l m w h hb
  rw [hS] at this
  exact this
theorem Few_geq (ao : Option Addr) (n cap : Nat) (l : List UInt8) (m : Nat) (w : World) (h : Rd w.heap.size w ao n cap (Bs l)) (hb : m ≤ 140737488355328) {r : List UInt8} (hS : l.take m = r) :
    Calls Try.prog 17 #[.slice ao n cap, .int .i64 m] w fun e w' => ∃ ao' cap', e = .returned (.slice ao' r.length cap') ∧ w'.ownsRow w.heap.size 5 1 (.slice ao' r.length cap') r.length (Bs r) ∧ Below w.heap.size w w' := by
  have := Few_gen ao n cap l m w h (.inr hb)
  rw [hS] at this
  exact this

/-- each of the values is a slice of bytes that reads as its list, below B -/
def RdL (B : Nat) (w : World) (vs : List Value) (ls : List (List UInt8)) : Prop :=
  vs.length = ls.length ∧ ∀ (k : Nat) (v : Value) (l : List UInt8), vs[k]? = some v → ls[k]? = some l → ∃ (ao : Option Addr) (cap : Nat), v = Value.slice ao l.length cap ∧ Rd B w ao l.length cap (Bs l)
/-- the slice reads as a list of slices of bytes -/
def RdLL (B : Nat) (w : World) (ao : Option Addr) (n cap : Nat) (ls : List (List UInt8)) : Prop := ∃ vs, Rd B w ao n cap vs ∧ RdL B w vs ls
section
variable {B B' : Nat} {w w' : World} {vs : List Value} {ls : List (List UInt8)} {ao : Option Addr} {n cap : Nat}
theorem RdL.nil (B : Nat) (w : World) : RdL B w [] [] := ⟨rfl, by simp⟩
theorem RdL.later (h : RdL B w vs ls) (hb : Below B w w') : RdL B w' vs ls :=
  ⟨h.1, fun k v l h1 h2 => by obtain ⟨ao, cap, e, r⟩ := h.2 k v l h1 h2; exact ⟨ao, cap, e, r.later hb⟩⟩
theorem RdL.mono (h : RdL B w vs ls) (hB : B ≤ B') : RdL B' w vs ls :=
  ⟨h.1, fun k v l h1 h2 => by obtain ⟨ao, cap, e, r⟩ := h.2 k v l h1 h2; exact ⟨ao, cap, e, r.mono hB⟩⟩
theorem RdL.snoc {l : List UInt8} {c : Nat} (h : RdL B w vs ls) (hr : Rd B w ao l.length c (Bs l)) : RdL B w (vs ++ [Value.slice ao l.length c]) (ls ++ [l]) := by
  refine ⟨by simp [h.1], ?_⟩
  intro k v l' h1 h2
  by_cases hk : k < vs.length
  · rw [List.getElem?_append_left hk] at h1
    rw [List.getElem?_append_left (by rw [← h.1]; exact hk)] at h2
    exact h.2 k v l' h1 h2
  · rw [List.getElem?_append_right (by omega)] at h1
    rw [List.getElem?_append_right (by rw [← h.1]; omega), ← h.1] at h2
    cases hj : k - vs.length with
    | zero =>
      rw [hj] at h1 h2
      simp at h1 h2
      subst h1; subst h2
      exact ⟨ao, c, rfl, hr⟩
    | succ j => rw [hj] at h1; simp at h1
theorem RdL.one (h : RdL B w vs ls) : ∀ u ∈ vs, u.oneCell' = true := by
  intro u hu
  obtain ⟨k, hk⟩ := List.mem_iff_getElem?.1 hu
  have hl : k < ls.length := by rw [← h.1]; exact (List.getElem?_eq_some_iff.1 hk).1
  obtain ⟨ao, cap, rfl, _⟩ := h.2 k u _ hk (List.getElem?_eq_getElem hl)
  rfl
theorem RdL.take (h : RdL B w vs ls) (k : Nat) : RdL B w (vs.take k) (ls.take k) := by
  refine ⟨by simp [h.1], ?_⟩
  intro j v l h1 h2
  rw [List.getElem?_take] at h1 h2
  split at h1
  · rename_i hj
    rw [if_pos hj] at h2
    exact h.2 j v l h1 h2
  · cases h1
theorem RdLL.later (h : RdLL B w ao n cap ls) (hb : Below B w w') : RdLL B w' ao n cap ls := by
  obtain ⟨vs, h1, h2⟩ := h; exact ⟨vs, h1.later hb, h2.later hb⟩
theorem RdLL.mono (h : RdLL B w ao n cap ls) (hB : B ≤ B') : RdLL B' w ao n cap ls := by
  obtain ⟨vs, h1, h2⟩ := h; exact ⟨vs, h1.mono hB, h2.mono hB⟩
theorem RdLL.len (h : RdLL B w ao n cap ls) : ls.length = n := by
  obtain ⟨vs, h1, h2⟩ := h; rw [← h2.1]; exact h1.1
theorem RdLL.caps (h : RdLL B w ao n cap ls) : n ≤ cap ∧ cap ≤ maxLen := by
  obtain ⟨vs, h1, h2⟩ := h; exact ⟨h1.2.1, h1.2.2.1⟩
theorem RdLL.nil (B : Nat) (w : World) : RdLL B w none 0 0 [] := ⟨[], Rd.nil _ _, RdL.nil _ _⟩
/-- the k-th of them -/
theorem RdLL.at (h : RdLL B w ao n cap ls) (hn : 0 < n) : ∃ b off, ao = some ⟨b, off, none⟩ ∧ b < B ∧ ∀ (k : Nat) (l : List UInt8), ls[k]? = some l → ∃ (ao' : Option Addr) (cap' : Nat), w.cell? ⟨b, off + k, none⟩ = some (.slice ao' l.length cap') ∧ Rd B w ao' l.length cap' (Bs l) := by
  obtain ⟨vs, h1, h2⟩ := h
  obtain ⟨b, off, e, hb, hc⟩ := h1.atSome hn
  refine ⟨b, off, e, hb, ?_⟩
  intro k l hl
  have hk : k < vs.length := by rw [h2.1]; exact (List.getElem?_eq_some_iff.1 hl).1
  obtain ⟨ao', cap', e', r⟩ := h2.2 k _ l (List.getElem?_eq_getElem hk) hl
  refine ⟨ao', cap', ?_, r⟩
  rw [← e']
  exact hc k _ (List.getElem?_eq_getElem hk)
end

/-- one slice that was just laid as a list of one -/
theorem RdLL.built (W : World) (ao : Option Addr) (cap : Nat) (l : List UInt8) (B : Nat) (hB : W.heap.size = B) (h : Rd W.heap.size W ao l.length cap (Bs l)) :
    RdLL (W.alloc (.cells #[.slice ao l.length cap] 23)).heap.size (W.alloc (.cells #[.slice ao l.length cap] 23)) (some ⟨B, 0, none⟩) 1 1 [l] := by
  subst hB
  refine ⟨[.slice ao l.length cap], Rd.built W [.slice ao l.length cap] 23 (by unfold maxLen; simp), ?_⟩
  exact (RdL.nil _ _).snoc (rd_alloc h)

/-- own, then a new block, then a call -/
theorem own_new {w w2 : World} {o : Obj} {e : TypeId} {v : Value} {n b : Nat} {xs : List Value} (h : w.ownsRow b e 1 v n xs) (hb : Below (w.alloc o).heap.size (w.alloc o) w2) : w2.ownsRow b e 1 v n xs := own_below (h.alloc o) hb

theorem Try.info23 : (Try.prog.info? 23).map (fun i => (i.zero, i.size, i.bytes)) = some (some (.slice none 0 0), 1, 24) := by kernel_rfl

/-- append onto a [][]byte of one's own -/
theorem appL {w : World} {ops : Array Oper} {rest : List Oper} {o : Oper} {a : Act} {Q : Exit → Act → World → Prop} (hgd : o.guard = none) (s x : Operand) (tx : TypeId)
    (ho : o.op = .call { callee := .builtin .append, args := #[s, x], argTypes := #[32, tx] })
    (base : Nat) (v : Value) (n : Nat) (xs : List Value) (hs : a.eval s = v) (hown : w.ownsRow base 23 1 v n xs)
    (xv : Value) (m : Nat) (news : List Value) (hx : a.eval x = xv) (hsrc : Src Try.prog 1 tx xv m news w)
    (hbytes : (n + m) * 24 ≤ 140737488355328) (hbase : base ≤ w.heap.size)
    (h : ∀ ao' cap' w', w'.ownsRow base 23 1 (.slice ao' (n + m) cap') (n + m) (xs ++ news) → w.grownBy w' v.ownBlock → Below base w w' →
      wpList Try.prog ops Q rest (a.put o.dst (.slice ao' (n + m) cap')) w') : wpList Try.prog ops Q (o :: rest) a w := by
  obtain ⟨i0, hi, hz0, hz1, hz2⟩ := info_parts Try.info23
  exact wpList_app hgd s x 32 tx ho base 23 i0 _ 24 Try.underlying32 hi hz0 hz1 hz2 (by omega) rfl v n xs hs hown xv m news hx hsrc hbytes hbase h

/-- each of the values is a slice of bytes with a row of its own, not below base -/
def OwnL (base : Nat) (w : World) (vs : List Value) (ls : List (List UInt8)) : Prop :=
  vs.length = ls.length ∧ ∀ (k : Nat) (v : Value) (l : List UInt8), vs[k]? = some v → ls[k]? = some l → ∃ (ao : Option Addr) (cap : Nat), v = Value.slice ao l.length cap ∧ w.ownsRow base 5 1 (.slice ao l.length cap) l.length (Bs l)
theorem OwnL.nil (B : Nat) (w : World) : OwnL B w [] [] := ⟨rfl, by simp⟩
/-- a list of slices of one's own, each with a row of its own -/
def OwnLL (base : Nat) (w : World) (v : Value) (n : Nat) (ls : List (List UInt8)) : Prop := ∃ vs, w.ownsRow base 23 1 v n vs ∧ OwnL base w vs ls
section
variable {base n c c' : Nat} {w w' : World} {vs xs : List Value} {ls : List (List UInt8)} {v : Value}
theorem own_apart {ao : Option Addr} {ys : List Value} (h : w.ownsRow base 23 1 v n xs) (r : w.ownsRow base 5 1 (.slice ao c c') c ys) : Value.ownBlock (.slice ao c c') = none ∨ Value.ownBlock (.slice ao c c') ≠ v.ownBlock := by
  cases hv : Value.ownBlock (.slice ao c c') with
  | none => exact .inl rfl
  | some g =>
    right
    rcases r.2 with ⟨e1, _⟩ | ⟨g', cap, cur, e1, _, hg, _⟩
    · rw [e1] at hv; simp [Value.ownBlock] at hv
    · rw [e1] at hv
      simp [Value.ownBlock] at hv
      subst hv
      exact ownsRow.apart h (.inr ⟨hg, by decide⟩)
theorem OwnL.grown (h : OwnL base w vs ls) (hg : w.grownBy w' v.ownBlock) (hown : w.ownsRow base 23 1 v n xs) : OwnL base w' vs ls := by
  refine ⟨h.1, fun k u l h1 h2 => ?_⟩
  obtain ⟨ao, cap, e, r⟩ := h.2 k u l h1 h2
  exact ⟨ao, cap, e, r.kept hg (own_apart hown r)⟩
theorem OwnL.alloc (h : OwnL base w vs ls) (o : Obj) : OwnL base (w.alloc o) vs ls := by
  refine ⟨h.1, fun k u l h1 h2 => ?_⟩
  obtain ⟨ao, cap, e, r⟩ := h.2 k u l h1 h2
  exact ⟨ao, cap, e, r.alloc o⟩
theorem OwnL.below (h : OwnL base w vs ls) (hb : Below w.heap.size w w') : OwnL base w' vs ls := by
  refine ⟨h.1, fun k u l h1 h2 => ?_⟩
  obtain ⟨ao, cap, e, r⟩ := h.2 k u l h1 h2
  exact ⟨ao, cap, e, own_below r hb⟩
theorem OwnL.rd (h : OwnL base w vs ls) : RdL w.heap.size w vs ls := by
  refine ⟨h.1, fun k u l h1 h2 => ?_⟩
  obtain ⟨ao, cap, e, r⟩ := h.2 k u l h1 h2
  exact ⟨ao, cap, e, ownsRow.rd r⟩
theorem OwnL.snoc {l : List UInt8} {ao : Option Addr} (h : OwnL base w vs ls) (hr : w.ownsRow base 5 1 (.slice ao l.length c) l.length (Bs l)) : OwnL base w (vs ++ [Value.slice ao l.length c]) (ls ++ [l]) := by
  refine ⟨by simp [h.1], ?_⟩
  intro k v l' h1 h2
  by_cases hk : k < vs.length
  · rw [List.getElem?_append_left hk] at h1
    rw [List.getElem?_append_left (by rw [← h.1]; exact hk)] at h2
    exact h.2 k v l' h1 h2
  · rw [List.getElem?_append_right (by omega)] at h1
    rw [List.getElem?_append_right (by rw [← h.1]; omega), ← h.1] at h2
    cases hj : k - vs.length with
    | zero =>
      rw [hj] at h1 h2
      simp at h1 h2
      subst h1; subst h2
      exact ⟨ao, c, rfl, hr⟩
    | succ j => rw [hj] at h1; simp at h1
theorem OwnLL.nil (base : Nat) (w : World) : OwnLL base w (.slice none 0 0) 0 [] := ⟨[], World.ownsRow_nil _ _ _ _, OwnL.nil _ _⟩
theorem OwnLL.below (h : OwnLL base w v n ls) (hb : Below w.heap.size w w') : OwnLL base w' v n ls := by
  obtain ⟨vs, h1, h2⟩ := h; exact ⟨vs, own_below h1 hb, h2.below hb⟩
theorem OwnLL.alloc (h : OwnLL base w v n ls) (o : Obj) : OwnLL base (w.alloc o) v n ls := by
  obtain ⟨vs, h1, h2⟩ := h; exact ⟨vs, h1.alloc o, h2.alloc o⟩
theorem OwnLL.len (h : OwnLL base w v n ls) : ls.length = n := by
  obtain ⟨vs, h1, h2⟩ := h; rw [← h2.1]; have := h1.1; omega
theorem OwnLL.rd {ao : Option Addr} {cap : Nat} (h : OwnLL base w (.slice ao n cap) n ls) : RdLL w.heap.size w ao n cap ls := by
  obtain ⟨vs, h1, h2⟩ := h; exact ⟨vs, ownsRow.rd h1, h2.rd⟩
end
/-- one slice that was just laid, as the source of an append -/
theorem src_slice (w : World) (ao : Option Addr) (n cap : Nat) : Src Try.prog 1 32 (.slice (some ⟨w.heap.size, 0, none⟩) 1 1) 1 [.slice ao n cap] (w.alloc (.cells #[.slice ao n cap] 23)) :=
  src_one w Try.underlying32 (.slice ao n cap) 23 rfl

/-- slices that were just laid as a list -/
theorem RdLL.of (W : World) (vs : List Value) (ls : List (List UInt8)) (B : Nat) (hB : W.heap.size = B) (h : RdL W.heap.size W vs ls) (hm : vs.length ≤ 1000) :
    RdLL (W.alloc (.cells vs.toArray 23)).heap.size (W.alloc (.cells vs.toArray 23)) (some ⟨B, 0, none⟩) vs.length vs.length ls := by
  subst hB
  refine ⟨vs, Rd.built W vs 23 (by unfold maxLen; omega), ?_⟩
  exact (h.later ((Below.refl _ _).alloc (Nat.le_refl _) _)).mono (by simp)
theorem RdL.cons {B c : Nat} {w : World} {vs : List Value} {ls : List (List UInt8)} {l : List UInt8} {ao : Option Addr} (hr : Rd B w ao l.length c (Bs l)) (h : RdL B w vs ls) : RdL B w (.slice ao l.length c :: vs) (l :: ls) := by
  refine ⟨by simp [h.1], ?_⟩
  intro k v l' h1 h2
  cases k with
  | zero => simp at h1 h2; subst h1; subst h2; exact ⟨ao, c, rfl, hr⟩
  | succ k => exact h.2 k v l' (by simpa using h1) (by simpa using h2)

theorem Try.info9 : (Try.prog.info? 9).map (fun i => (i.zero, i.size, i.bytes)) = some (some (.string .empty), 1, 16) := by kernel_rfl
/-- append onto a []string of one's own -/
theorem appS {w : World} {ops : Array Oper} {rest : List Oper} {o : Oper} {a : Act} {Q : Exit → Act → World → Prop} (hgd : o.guard = none) (s x : Operand) (tx : TypeId)
    (ho : o.op = .call { callee := .builtin .append, args := #[s, x], argTypes := #[66, tx] })
    (base : Nat) (v : Value) (n : Nat) (xs : List Value) (hs : a.eval s = v) (hown : w.ownsRow base 9 1 v n xs)
    (xv : Value) (m : Nat) (news : List Value) (hx : a.eval x = xv) (hsrc : Src Try.prog 1 tx xv m news w)
    (hbytes : (n + m) * 16 ≤ 140737488355328) (hbase : base ≤ w.heap.size)
    (h : ∀ ao' cap' w', w'.ownsRow base 9 1 (.slice ao' (n + m) cap') (n + m) (xs ++ news) → w.grownBy w' v.ownBlock → Below base w w' →
      wpList Try.prog ops Q rest (a.put o.dst (.slice ao' (n + m) cap')) w') : wpList Try.prog ops Q (o :: rest) a w := by
  obtain ⟨i0, hi, hz0, hz1, hz2⟩ := info_parts Try.info9
  exact wpList_app hgd s x 66 tx ho base 9 i0 _ 16 Try.underlying66 hi hz0 hz1 hz2 (by omega) rfl v n xs hs hown xv m news hx hsrc hbytes hbase h

theorem grown_set (w : World) (g k : Nat) (u : Value) : w.grownBy (w.setCell ⟨g, k, none⟩ u) (some g) :=
  ⟨rfl, rfl, rfl, by simp, fun j _ hj => heap_setCell_other w ⟨g, k, none⟩ j u (fun e => hj (by simp [e]))⟩
theorem u8_inc (x : UInt8) : ((x.toNat : Int) + 1) % 256 = ((x + 1).toNat : Int) := by
  rw [UInt8.toNat_add]; simp

/-- what is owned in a block below B stays, where nothing below B is written -/
theorem own_belowB {B b n : Nat} {w w' : World} {e : TypeId} {v : Value} {xs : List Value} (h : w.ownsRow b e 1 v n xs) (hB : ∀ g, v.ownBlock = some g → g < B) (hb : Below B w w') : w'.ownsRow b e 1 v n xs := by
  refine ⟨h.1, ?_⟩
  rcases h.2 with hn | ⟨g, cap, cur, rfl, hbg, hgg, rest⟩
  · exact .inl hn
  · exact .inr ⟨g, cap, cur, rfl, hbg, (hb.block g (hB g rfl)).trans hgg, rest⟩
theorem two_bel {W W' : World} {a b : Obj} (h : Below ((W.alloc a).alloc b).heap.size ((W.alloc a).alloc b) W') : Below W.heap.size W W' :=
  (((Below.refl W.heap.size W).alloc (Nat.le_refl _) _).alloc (by simp) _).trans (h.mono (by simp; omega))
theorem three_bel {W W' : World} {a b c : Obj} (h : Below (((W.alloc a).alloc b).alloc c).heap.size (((W.alloc a).alloc b).alloc c) W') : Below W.heap.size W W' :=
  ((((Below.refl W.heap.size W).alloc (Nat.le_refl _) _).alloc (by simp) _).alloc (by simp; omega) _).trans (h.mono (by simp; omega))
theorem own_block_at {w : World} {b n g cap : Nat} {e : TypeId} {xs : List Value} (h : w.ownsRow b e 1 (.slice (some ⟨g, 0, none⟩) n cap) n xs) : ∃ cur fr, w.heap[g]? = some (.cells cur e fr) := by
  rcases h.2 with ⟨e1, _⟩ | ⟨g', cap', cur, e1, _, hgg, _⟩
  · cases e1
  · cases e1; exact ⟨_, _, hgg⟩

end Go.Proofs.Ytjhcldccogpoaaa
