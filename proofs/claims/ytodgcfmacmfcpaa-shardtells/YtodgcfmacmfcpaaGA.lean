/- The ground over the program, for seats of any stage: small walks (Pick, Clone, Few), appends onto rows of one's own, string(b), make, literals; lists of slices of bytes ('RdL', 'RdLL', 'OwnL', 'OwnLL'). -/
import Derived.Test.YtodgcfmacmfcpaaProg
import Derived.Test.YtodgcfmacmfcpaaM
import Derived.BigQuiet
import Derived.Deep.QuietTactic
import Derived.Lib.SmallJoins
import Derived.Lib.SlBytesConst
namespace Go.Proofs.Ytodgcfmacmfcpaa
open Go.RowKit

theorem ret_int {k : IntKind} {a b : Int} (h : a = b) : Ending.returned (.int k a) = .returned (.int k b) := by rw [h]
theorem ret_bool {a b : Bool} (h : a = b) : Ending.returned (.bool a) = .returned (.bool b) := by rw [h]
theorem ret_slice {ao : Option Addr} {n m cap : Nat} (h : n = m) : Ending.returned (.slice ao n cap) = .returned (.slice ao m cap) := by rw [h]
def pick (n m : Int) : Int := n % m
set_option maxHeartbeats 400000 in
theorem Pick_any (n m : Int) (w : World) (h0 : 0 < m) (h1 : m ≤ 9223372036854775807) :
    Calls Try.prog 24 #[.int .i64 n, .int .i64 m] w fun e w' => e = .returned (.int .i64 (pick n m)) ∧ w' = w := by
  have hp : pick n m = if n.tmod m < 0 then n.tmod m + m else n.tmod m := by
    unfold pick
    have e1 := Int.tmod_eq_emod (a := n) (b := m)
    have g1 := Int.emod_nonneg n (show m ≠ 0 by omega)
    have g2 := Int.emod_lt_of_pos n h0
    split at e1 <;> split <;> omega
  have b1 : n.tmod m < m := Int.tmod_lt_of_pos n h0
  have b2 : -m < n.tmod m := Int.lt_tmod_of_pos n h0
  have H : Hid (pick n m = if n.tmod m < 0 then n.tmod m + m else n.tmod m) := hp
  clear hp
  go_enter Try.func24, Try.ntmps24
  go_wp2
  · go_ret
    have hlt : n.tmod m < 0 := by assumption
    exact ⟨ret_int (by rw [H.out, if_pos hlt]), rfl⟩
  · go_ret
    have hge : 0 ≤ n.tmod m := by assumption
    exact ⟨ret_int (by rw [H.out, if_neg (by omega)]), rfl⟩
theorem Pick_eq (n m : Int) (w : World) (h0 : 0 < m) (h1 : m ≤ 9223372036854775807) {p : Int} (hp : pick n m = p) :
    Calls Try.prog 24 #[.int .i64 n, .int .i64 m] w fun e w' => e = .returned (.int .i64 p) ∧ w' = w := by
  have := Pick_any n m w h0 h1
  rw [hp] at this
  exact this
theorem pick_lo (n m : Int) (h : 0 < m) : 0 ≤ pick n m := Int.emod_nonneg n (by omega)
theorem pick_hi (n m : Int) (h : 0 < m) : pick n m < m := Int.emod_lt_of_pos n h

set_option maxHeartbeats 400000 in
theorem Num_any (n : Int) (w : World) :
    Calls Try.prog 40 #[.int .i64 n] w fun e w' => ∃ x, e = .returned (.int .i64 x) ∧ w' = w := by
  have l1 := pick_lo n 7 (by omega)
  have l2 := pick_hi n 7 (by omega)
  have l3 := pick_lo (n.tdiv 7) 63 (by omega)
  have l4 := pick_hi (n.tdiv 7) 63 (by omega)
  have l5 := pick_lo (n.tdiv 441) 3 (by omega)
  have l6 := pick_hi (n.tdiv 441) 3 (by omega)
  go_enter Try.func40, Try.ntmps40
  go_wp2_with (go_at_call 24; refine (Pick_any _ _ _ (by omega) (by omega)).mono ?_; rintro e w' ⟨rfl, rfl⟩)
  all_goals (go_ret; exact ⟨_, rfl, rfl⟩)

theorem Try.info5 : (Try.prog.info? 5).map (fun i => (i.zero, i.size, i.bytes)) = some (some (.int .u8 0), 1, 1) := by kernel_rfl
theorem Try.info3 : (Try.prog.info? 3).map (fun i => (i.zero, i.size, i.bytes)) = some (some (.int .i64 0), 1, 8) := by kernel_rfl

/-- append onto a []byte of one's own -/
theorem appB {w : World} {ops : Array Oper} {rest : List Oper} {o : Oper} {a : Act} {Q : Exit → Act → World → Prop} (hgd : o.guard = none) (s x : Operand) (tx : TypeId)
    (ho : o.op = .call { callee := .builtin .append, args := #[s, x], argTypes := #[71, tx] })
    (base : Nat) (v : Value) (n : Nat) (xs : List Value) (hs : a.eval s = v) (hown : w.ownsRow base 5 1 v n xs)
    (xv : Value) (m : Nat) (news : List Value) (hx : a.eval x = xv) (hsrc : Src Try.prog 1 tx xv m news w)
    (hbytes : n + m ≤ 140737488355328) (hbase : base ≤ w.heap.size)
    (h : ∀ ao' cap' w', w'.ownsRow base 5 1 (.slice ao' (n + m) cap') (n + m) (xs ++ news) → w.grownBy w' v.ownBlock → Below base w w' →
      wpList Try.prog ops Q rest (a.put o.dst (.slice ao' (n + m) cap')) w') : wpList Try.prog ops Q (o :: rest) a w := by
  obtain ⟨i0, hi, hz0, hz1, hz2⟩ := info_parts Try.info5
  exact wpList_app hgd s x 71 tx ho base 5 i0 _ 1 Try.underlying71 hi hz0 hz1 hz2 (Nat.le_refl _) rfl v n xs hs hown xv m news hx hsrc (by omega) hbase h

/-- append onto a []byte of one's own, and where it lies then -/
theorem appB2 {w : World} {ops : Array Oper} {rest : List Oper} {o : Oper} {a : Act} {Q : Exit → Act → World → Prop} (hgd : o.guard = none) (s x : Operand) (tx : TypeId)
    (ho : o.op = .call { callee := .builtin .append, args := #[s, x], argTypes := #[71, tx] })
    (base : Nat) (v : Value) (n : Nat) (xs : List Value) (hs : a.eval s = v) (hown : w.ownsRow base 5 1 v n xs)
    (xv : Value) (m : Nat) (news : List Value) (hx : a.eval x = xv) (hsrc : Src Try.prog 1 tx xv m news w)
    (hbytes : n + m ≤ 140737488355328) (hbase : base ≤ w.heap.size)
    (h : ∀ ao' cap' w', w'.ownsRow base 5 1 (.slice ao' (n + m) cap') (n + m) (xs ++ news) → w.grownBy w' v.ownBlock → Below base w w' → (∀ k, Value.ownBlock (.slice ao' (n + m) cap') = some k → v.ownBlock = some k ∨ w.heap.size ≤ k) →
      wpList Try.prog ops Q rest (a.put o.dst (.slice ao' (n + m) cap')) w') : wpList Try.prog ops Q (o :: rest) a w := by
  obtain ⟨i0, hi, hz0, hz1, hz2⟩ := info_parts Try.info5
  exact wpList_app2 hgd s x 71 tx ho base 5 i0 _ 1 Try.underlying71 hi hz0 hz1 hz2 (Nat.le_refl _) rfl v n xs hs hown xv m news hx hsrc (by omega) hbase h

/-- append onto a []int of one's own -/
theorem appI {w : World} {ops : Array Oper} {rest : List Oper} {o : Oper} {a : Act} {Q : Exit → Act → World → Prop} (hgd : o.guard = none) (s x : Operand) (tx : TypeId)
    (ho : o.op = .call { callee := .builtin .append, args := #[s, x], argTypes := #[64, tx] })
    (base : Nat) (v : Value) (n : Nat) (xs : List Value) (hs : a.eval s = v) (hown : w.ownsRow base 3 1 v n xs)
    (xv : Value) (m : Nat) (news : List Value) (hx : a.eval x = xv) (hsrc : Src Try.prog 1 tx xv m news w)
    (hbytes : (n + m) * 8 ≤ 140737488355328) (hbase : base ≤ w.heap.size)
    (h : ∀ ao' cap' w', w'.ownsRow base 3 1 (.slice ao' (n + m) cap') (n + m) (xs ++ news) → w.grownBy w' v.ownBlock → Below base w w' →
      wpList Try.prog ops Q rest (a.put o.dst (.slice ao' (n + m) cap')) w') : wpList Try.prog ops Q (o :: rest) a w := by
  obtain ⟨i0, hi, hz0, hz1, hz2⟩ := info_parts Try.info3
  exact wpList_app hgd s x 64 tx ho base 3 i0 _ 8 Try.underlying64 hi hz0 hz1 hz2 (by omega) rfl v n xs hs hown xv m news hx hsrc hbytes hbase h

/-- an empty row that was just built -/
theorem own_built (w : World) (e : TypeId) : (w.alloc (.cells #[] e)).ownsRow w.heap.size e 1 (.slice (some ⟨w.heap.size, 0, none⟩) 0 0) 0 [] :=
  World.ownsRow_made w #[] 0 (Nat.le_refl _) (Nat.zero_le _) rfl

def str (l : List UInt8) : ByteArray := ⟨l.toArray⟩
theorem str_inj {a b : List UInt8} (h : str a = str b) : a = b := by
  have := congrArg (fun s : ByteArray => s.data.toList) h
  simpa [str] using this

theorem str_toList (l : List UInt8) : (str l).toList = l := by rw [ByteArray.toList_eq]; simp [str]

/-- string(b) -/
theorem run_str {B : Nat} (w : World) (ao : Option Addr) (n cap : Nat) (l : List UInt8) (h : Rd B w ao n cap (Bs l)) :
    (convert 71 9 (.slice ao n cap)).run Try.prog w = .ok (.string (str l)) w := by
  obtain ⟨h1, h2, h3, h4, h5⟩ := h
  rw [Bs_length] at h1
  subst h1
  cases ao with
  | none =>
    have : l = [] := List.eq_nil_of_length_eq_zero (by have := h4 rfl; omega)
    subst this
    exact run_convert_bytes_nil w 71 5 Try.underlying71 Try.underlying5 _ _ 9 Try.underlying9
  | some a =>
    have hl : (loadCells a l.length).run Try.prog w = .ok ((l.map fun c => (c.toNat : Int)).map (Value.int .u8)).toArray w := by
      have := run_loadCells_list (P := Try.prog) w a ((l.map fun c => (c.toNat : Int)).map (Value.int .u8)) (fun j v hj => by
        rcases h5 with h5 | ⟨b, off, e1, e2, e3⟩
        · have : l = [] := by simpa [Bs] using h5
          subst this
          simp at hj
        · cases e1
          rw [show (⟨b, off, none⟩ : Addr).add j = ⟨b, off + j, none⟩ from by unfold Addr.add; split <;> simp_all]
          refine e3 j v ?_
          rw [← hj, List.map_map]
          rfl)
      simpa using this
    rw [run_convert_bytes_string w 71 9 5 _ l.length cap Try.underlying71 Try.underlying5 Try.underlying9, run_bytesToString w _ l.length cap _ hl, foldl_push_bytes]
    have hm : (l.map fun c => (c.toNat : Int)).map (fun n : Int => UInt8.ofNat n.toNat) = l := by
      rw [List.map_map]
      conv => rhs; rw [← List.map_id l]
      apply List.map_congr_left
      intro c _
      simp
    rw [hm]
    simp [str, ByteArray.empty, ByteArray.emptyWithCapacity]
    rfl

/-- a row that was just built reads as its cells -/
theorem Rd.built (w : World) (cs : List Value) (e : TypeId) (hm : cs.length ≤ maxLen) : Rd (w.alloc (.cells cs.toArray e)).heap.size (w.alloc (.cells cs.toArray e)) (some ⟨w.heap.size, 0, none⟩) cs.length cs.length cs := by
  refine ⟨rfl, Nat.le_refl _, hm, by simp, .inr ⟨w.heap.size, 0, rfl, by simp, ?_⟩⟩
  intro j u hj
  rw [cell_of_row (w.alloc (.cells cs.toArray e)) w.heap.size (0 + j) cs.toArray e (0, 0) (heap_alloc_new w _)]
  simpa using hj

theorem rd_str {l : List UInt8} : (str l).size = l.length := by simp [str, ByteArray.size]

/-- steps of worlds: a new block, then a call · a call -/
theorem bel_new {w wi w2 : World} {o : Obj} (h : Below w.heap.size w wi) (hb : Below (wi.alloc o).heap.size (wi.alloc o) w2) : Below w.heap.size w w2 :=
  (h.alloc h.size o).trans (hb.mono (by have := h.size; simp; omega))
theorem bel_call {w wi w2 : World} (h : Below w.heap.size w wi) (hb : Below wi.heap.size wi w2) : Below w.heap.size w w2 := h.trans (hb.mono h.size)
theorem rd_new {wi w2 : World} {o : Obj} {ao : Option Addr} {n cap : Nat} {xs : List Value} (h : Rd wi.heap.size wi ao n cap xs) (hb : Below (wi.alloc o).heap.size (wi.alloc o) w2) : Rd w2.heap.size w2 ao n cap xs :=
  (h.later (((Below.refl wi.heap.size wi).alloc (Nat.le_refl _) o).trans (hb.mono (by simp)))).mono (by have := hb.size; simp at this; omega)
theorem rd_call {wi w2 : World} {ao : Option Addr} {n cap : Nat} {xs : List Value} (h : Rd wi.heap.size wi ao n cap xs) (hb : Below wi.heap.size wi w2) : Rd w2.heap.size w2 ao n cap xs :=
  (h.later hb).mono hb.size
theorem rd_alloc {wi : World} {o : Obj} {ao : Option Addr} {n cap : Nat} {xs : List Value} (h : Rd wi.heap.size wi ao n cap xs) : Rd (wi.alloc o).heap.size (wi.alloc o) ao n cap xs :=
  (h.later ((Below.refl wi.heap.size wi).alloc (Nat.le_refl _) o)).mono (by simp)

/-- what was made by a call stays, where a row that was there before it is written -/
theorem own_kept {w w1 : World} {o : Obj} {e : TypeId} {u : Value} {n b : Nat} {xs : List Value} {row : Option Nat} (h : w.ownsRow b e 1 u n xs) (hg : (w.alloc o).grownBy w1 row) (hrow : row = none ∨ ∃ k, row = some k ∧ k < b) : w1.ownsRow b e 1 u n xs := by
  refine (h.alloc o).kept hg ?_
  rcases hrow with rfl | ⟨k, rfl, hk⟩
  · cases hv : u.ownBlock with
    | none => exact .inl rfl
    | some z => exact .inr (by simp)
  · right
    intro hv
    have := (h.lt k hv).1
    omega
theorem own_block {w : World} {e : TypeId} {v : Value} {n b : Nat} {xs : List Value} (h : w.ownsRow b e 1 v n xs) : v.ownBlock = none ∨ ∃ k, v.ownBlock = some k ∧ k < w.heap.size := by
  cases hv : v.ownBlock with
  | none => exact .inl rfl
  | some k => exact .inr ⟨k, rfl, (h.lt k hv).2⟩
/-- what is owned stays, where nothing that was there is written -/
theorem own_below {w w' : World} {e : TypeId} {v : Value} {n b : Nat} {xs : List Value} (h : w.ownsRow b e 1 v n xs) (hb : Below w.heap.size w w') : w'.ownsRow b e 1 v n xs := by
  refine h.kept (row := none) ⟨hb.os, hb.tape, hb.output, hb.size, fun j hj _ => hb.block j hj⟩ ?_
  cases hv : v.ownBlock with
  | none => exact .inl rfl
  | some z => exact .inr (by simp)

theorem Bs_set (l : List UInt8) (k : Nat) (x : UInt8) : (Bs l).set k (.int .u8 (x.toNat : Int)) = Bs (l.set k x) := by
  simp [Bs, List.map_set]

/-- a row that is owned above one place is owned above a lower one -/
theorem own_mono {B B' : Nat} {w : World} {e : TypeId} {v : Value} {n : Nat} {xs : List Value} (h : w.ownsRow B' e 1 v n xs) (hB : B ≤ B') : w.ownsRow B e 1 v n xs := by
  refine ⟨h.1, ?_⟩
  rcases h.2 with hn | ⟨g, cap, cur, rfl, hb, rest⟩
  · exact .inl hn
  · exact .inr ⟨g, cap, cur, rfl, by omega, rest⟩
/-- make([]byte, n) -/
theorem mkB (n : Nat) (hn : n ≤ 140737488355328) (w : World) : (Instr.makeSlice 71 (.int .i64 n) (.int .i64 n)).run Try.prog w = .ok (.slice (some ⟨w.heap.size, 0, none⟩) n n) (w.alloc (.cells (Array.replicate n (.int .u8 0)) 5)) := by
  obtain ⟨i0, hi, hz0, hz1, hz2⟩ := info_parts Try.info5
  have := run_make (P := Try.prog) w 71 5 i0 _ Try.underlying71 hi hz0 .i64 .i64 n n (by omega) (Int.le_refl _) (by rw [hz2]; omega) (by omega)
  rw [this, hz1, Int.toNat_natCast, Nat.mul_one]
  have e : madeCells (Value.int .u8 0).cells n = Array.replicate n (.int .u8 0) := by
    rw [← Array.toList_inj]
    exact (toList_madeCells_one _ n).trans (by simp)
  rw [e]
/-- make([]byte, n), as a list -/
theorem mkZ (n : Nat) (hn : n ≤ 140737488355328) (Z : List UInt8) (hZ : List.replicate n (0 : UInt8) = Z) (w : World) : (Instr.makeSlice 71 (.int .i64 (n : Nat)) (.int .i64 (n : Nat))).run Try.prog w = .ok (.slice (some ⟨w.heap.size, 0, none⟩) n n) (w.alloc (.cells (Bs Z).toArray 5)) := by
  rw [mkB n hn w, ← hZ]
  congr 3
  simp [Bs]
theorem Rd.long (W : World) (l : List UInt8) (n : Nat) (hl : l.length = n) (hm : n ≤ 1000000) : Rd (W.alloc (.cells (Bs l).toArray 5)).heap.size (W.alloc (.cells (Bs l).toArray 5)) (some ⟨W.heap.size, 0, none⟩) l.length n (Bs l) := by
  subst hl
  have := Rd.built W (Bs l) 5 (by rw [Bs_length]; unfold maxLen; omega)
  rwa [Bs_length] at this
theorem Rd.bytes (W : World) (l : List UInt8) (B : Nat) (hB : W.heap.size = B) (hm : l.length ≤ 1000) : Rd (W.alloc (.cells (Bs l).toArray 5)).heap.size (W.alloc (.cells (Bs l).toArray 5)) (some ⟨B, 0, none⟩) l.length l.length (Bs l) := by
  have := Rd.built W (Bs l) 5 (by rw [Bs_length]; unfold maxLen; omega)
  rwa [hB, Bs_length] at this
theorem Rd.lit (W : World) (l : List UInt8) (fr : Nat × Nat) (B : Nat) (hB : W.heap.size = B) (hm : l.length ≤ 1000) : Rd (W.alloc (.cells (Bs l).toArray 5 fr)).heap.size (W.alloc (.cells (Bs l).toArray 5 fr)) (some ⟨B, 0, none⟩) l.length l.length (Bs l) := by
  subst hB
  refine ⟨Bs_length l, Nat.le_refl _, by unfold maxLen; omega, by simp, .inr ⟨W.heap.size, 0, rfl, by simp, ?_⟩⟩
  intro j u hj
  rw [World.cell?_alloc_mark W (Bs l).toArray 5 fr (0 + j)]
  simpa using hj
theorem grown_set (w : World) (g k : Nat) (u : Value) : w.grownBy (w.setCell ⟨g, k, none⟩ u) (some g) :=
  ⟨rfl, rfl, rfl, by simp, fun j _ hj => heap_setCell_other w ⟨g, k, none⟩ j u (fun e => hj (by simp [e]))⟩
theorem u8_inc (x : UInt8) : ((x.toNat : Int) + 1) % 256 = ((x + 1).toNat : Int) := by
  rw [UInt8.toNat_add]; simp

/-- what is owned in a block below B stays, where nothing below B is written -/
theorem own_belowB {B b n : Nat} {w w' : World} {e : TypeId} {v : Value} {xs : List Value} (h : w.ownsRow b e 1 v n xs) (hB : ∀ g, v.ownBlock = some g → g < B) (hb : Below B w w') : w'.ownsRow b e 1 v n xs := by
  refine ⟨h.1, ?_⟩
  rcases h.2 with hn | ⟨g, cap, cur, rfl, hbg, hgg, rest⟩
  · exact .inl hn
  · exact .inr ⟨g, cap, cur, rfl, hbg, (hb.block g (hB g rfl)).trans hgg, rest⟩
theorem two_bel {W W' : World} {a b : Obj} (h : Below ((W.alloc a).alloc b).heap.size ((W.alloc a).alloc b) W') : Below W.heap.size W W' :=
  (((Below.refl W.heap.size W).alloc (Nat.le_refl _) _).alloc (by simp) _).trans (h.mono (by simp; omega))
theorem three_bel {W W' : World} {a b c : Obj} (h : Below (((W.alloc a).alloc b).alloc c).heap.size (((W.alloc a).alloc b).alloc c) W') : Below W.heap.size W W' :=
  ((((Below.refl W.heap.size W).alloc (Nat.le_refl _) _).alloc (by simp) _).alloc (by simp; omega) _).trans (h.mono (by simp; omega))
theorem own_block_at {w : World} {b n g cap : Nat} {e : TypeId} {xs : List Value} (h : w.ownsRow b e 1 (.slice (some ⟨g, 0, none⟩) n cap) n xs) : ∃ cur fr, w.heap[g]? = some (.cells cur e fr) := by
  rcases h.2 with ⟨e1, _⟩ | ⟨g', cap', cur, e1, _, hgg, _⟩
  · cases e1
  · cases e1; exact ⟨_, _, hgg⟩

end Go.Proofs.Ytodgcfmacmfcpaa
