/-
  Package hold as landed: its map of holders in memory, as a list of holders in the order of their entries: read, written, deleted. Plain facts on sums.
  Package hold as landed: a ledger in memory; asked, find, room, counts: contracts.
  Package hold as landed: what a holder holds: contract. (Written by wip/tools/gen_hz3.py.)
  A range over a function value that has its first argument bound (a method value): the iterator gives all, the body goes on each time.
  Package hold as landed: what its ledger tells of what each holder holds, one by one, in whatever order the map is gone through.
  Package hold as landed: sums.
  Package hold as landed: Held, Left, Len, Of: contracts.
-/
import Derived.Test.YtbonilmlfelmpaaGreatHaA
import Derived.Maps.RangeRun
import Derived.ChangeMaps5
import Derived.Laws.StructEq
import Derived.Test.YtbonilmlfelmpaaGreatFr
import Derived.RangeFuncWrites
import Derived.RangeFuncCalls
import Derived.WalkKit
import Derived.OwnWalkIn
import Derived.TacticsInMore
import Derived.LoopNIn
import Derived.LoopIn
import Derived.Maps.OwnIn
import Derived.Shelf.Abstract
import Derived.Shelf.RegionOpen
namespace Go.Proofs.YtbonilmlfelmpaaGreat
open Go.RowKit

/-- what the map holds of a holder -/
def Hd.mv (h : Hd) : Value := .agg #[.int .i64 h.E, .int .i64 h.P, .int .i64 h.NE, .int .i64 h.NP]
def kvE (e : MapEntry) : Value × Value := (e.key, e.val)
def Hd.kv (h : Hd) : Value × Value := (.int .i64 h.id, h.mv)
theorem kv_cons {e : MapEntry} {es : List MapEntry} {h : Hd} {hs : List Hd} (q : (e :: es).map kvE = (h :: hs).map Hd.kv) : e.key = .int .i64 h.id ∧ e.val = h.mv ∧ es.map kvE = hs.map Hd.kv := by
  rw [List.map_cons, List.map_cons] at q
  obtain ⟨h1, h2⟩ := List.cons.inj q
  exact ⟨(Prod.mk.inj h1).1, (Prod.mk.inj h1).2, h2⟩
theorem find_cons (h : Hd) (hs : List Hd) (id : Int) : findH (h :: hs) id = if h.id = id then some 0 else (findH hs id).map (· + 1) := by
  unfold findH
  rw [List.findIdx?_cons]
  by_cases q : h.id = id
  · rw [if_pos q]; simp [q]
  · rw [if_neg q]; simp [q]
theorem findNow_H (id : Int) (es : List MapEntry) (hs : List Hd) (i : Nat) (q : es.map kvE = hs.map Hd.kv) : Instr.findNow (.int .i64) (.int .i64 id) es i = some ((findH hs id).bind fun j => (hs[j]?).map fun h => (i + j, h.mv)) := by
  induction es generalizing hs i with
  | nil =>
    cases hs with
    | nil => rfl
    | cons h hs => cases q
  | cons e es ih =>
    cases hs with
    | nil => cases q
    | cons h hs =>
      obtain ⟨q1, q2, q3⟩ := kv_cons q
      have hi := ih hs (i + 1) q3
      rw [find_cons]
      by_cases k : h.id = id
      · rw [if_pos k]
        simp [Instr.findNow, Instr.sameNow, q1, q2, k]
      · rw [if_neg k]
        have k' : ¬ id = h.id := fun e => k e.symm
        simp only [Instr.findNow, Instr.sameNow, q1, if_true, beq_eq_false_iff_ne.mpr k']
        rw [hi]
        cases findH hs id with
        | none => rfl
        | some j =>
          show some ((hs[j]?).map _) = some (((h :: hs)[j + 1]?).map _)
          rw [List.getElem?_cons_succ]
          cases hs[j]? with
          | none => rfl
          | some x => simp only [Option.map_some]; rw [show i + 1 + j = i + (j + 1) by omega]
/-- the block m is a map of these holders -/
structure MapH' (w : World) (m : Nat) (hs : List Hd) (es : Array MapEntry) (clock : Nat) : Prop where
  blk : w.heap[m]? = some (.map es clock)
  kv : es.toList.map kvE = hs.map Hd.kv
  born : ∀ x ∈ es.toList, x.born < clock
  nodup : (es.toList.map (·.born)).Nodup
def MapH (w : World) (m : Nat) (hs : List Hd) : Prop := ∃ es clock, MapH' w m hs es clock
theorem MapH.lt {w : World} {m : Nat} {hs : List Hd} (h : MapH w m hs) : m < w.heap.size := by
  obtain ⟨es, clock, hb, _⟩ := h
  exact (Array.getElem?_eq_some_iff.1 hb).1
theorem MapH.of_block {w w' : World} {m : Nat} {hs : List Hd} (h : MapH w m hs) (hb : w'.heap[m]? = w.heap[m]?) : MapH w' m hs := by
  obtain ⟨es, clock, h1, h2, h3, h4⟩ := h
  exact ⟨es, clock, hb.trans h1, h2, h3, h4⟩
theorem MapH.keeps {w w' : World} {m : Nat} {hs : List Hd} {G : Nat → Prop} (h : MapH w m hs) (k : Keeps G w w') (hG : ¬ G m) : MapH w' m hs := h.of_block (k.block m h.lt hG)
theorem MapH.below {w w' : World} {m : Nat} {hs : List Hd} (h : MapH w m hs) (k : Below w.heap.size w w') : MapH w' m hs := h.of_block (k.block m h.lt)
theorem MapH.alloc {w : World} {m : Nat} {hs : List Hd} (h : MapH w m hs) (o : Obj) : MapH (w.alloc o) m hs := h.below (wbox _ _)
theorem MapH.len {w : World} {m : Nat} {hs : List Hd} {es : Array MapEntry} {clock : Nat} (h : MapH' w m hs es clock) : es.size = hs.length := by
  have := congrArg List.length h.kv
  simpa using this
theorem MapH.nocell {w : World} {m : Nat} {hs : List Hd} (h : MapH w m hs) (j : Nat) (v : Value) : w.cell? ⟨m, j, none⟩ ≠ some v := by
  obtain ⟨es, clock, hb, _⟩ := h
  simp [World.cell?, hb]
theorem isKeyI (id : Int) : MapKept.IsKey (.int .i64) (.int .i64 id) := rfl
theorem lookH_no {w : World} {m : Nat} {hs : List Hd} {id : Int} (h : MapH w m hs) (hf : findH hs id = none) : (Instr.lookup 98 (.map (some m)) (.int .i64 id) true).run Tryz.prog w = .ok (.tuple #[.agg #[.int .i64 0, .int .i64 0, .int .i64 0, .int .i64 0], .bool false]) w := by
  obtain ⟨es, clock, h1, h2, _⟩ := h
  have k := findNow_H id es.toList hs 0 h2
  rw [hf] at k
  simp [Instr.lookup, run_underlying Tryz.underlying98, MapKept.run_getObj_map h1, MapKept.run_checkKey Tryz.underlying3 (isKeyI id), MapKept.run_findKey Tryz.underlying3 k, Result.andThen]
theorem lookH_yes {w : World} {m : Nat} {hs : List Hd} {id : Int} {j : Nat} {x : Hd} (h : MapH w m hs) (hf : findH hs id = some j) (hx : hs[j]? = some x) : (Instr.lookup 98 (.map (some m)) (.int .i64 id) true).run Tryz.prog w = .ok (.tuple #[x.mv, .bool true]) w := by
  obtain ⟨es, clock, h1, h2, _⟩ := h
  have k := findNow_H id es.toList hs 0 h2
  rw [hf] at k
  simp only [Option.bind_some, hx, Option.map_some] at k
  simp [Instr.lookup, run_underlying Tryz.underlying98, MapKept.run_getObj_map h1, MapKept.run_checkKey Tryz.underlying3 (isKeyI id), MapKept.run_findKey Tryz.underlying3 k, Result.andThen]
theorem kv_modify (i : Nat) (f : MapEntry → MapEntry) (n : Hd) (es : List MapEntry) (hs : List Hd) (q : es.map kvE = hs.map Hd.kv) (hf : ∀ e, kvE (f e) = n.kv) : (es.modify i f).map kvE = (hs.set i n).map Hd.kv := by
  induction es generalizing hs i with
  | nil =>
    cases hs with
    | nil => simp
    | cons h hs => cases q
  | cons e es ih =>
    cases hs with
    | nil => cases q
    | cons h hs =>
      obtain ⟨q1, q2, q3⟩ := kv_cons q
      cases i with
      | zero =>
        rw [List.modify_zero_cons, List.set_cons_zero, List.map_cons, List.map_cons, hf, q3]
      | succ i =>
        rw [List.modify_succ_cons, List.set_cons_succ, List.map_cons, List.map_cons, ih i hs q3]
        simp [kvE, Hd.kv, q1, q2]
theorem born_modify (i : Nat) (f : MapEntry → MapEntry) (es : List MapEntry) (hf : ∀ e, (f e).born = e.born) : (es.modify i f).map (·.born) = es.map (·.born) := by
  induction es generalizing i with
  | nil => simp
  | cons e es ih =>
    cases i with
    | zero => rw [List.modify_zero_cons, List.map_cons, List.map_cons, hf]
    | succ i => rw [List.modify_succ_cons, List.map_cons, List.map_cons, ih i]
/-- a block written, all else as it was -/
theorem keeps_setBlock {w : World} {b : Nat} {F : Nat → Prop} (hF : F b) (o : Obj) : Keeps F w (ChangeMaps.setBlock w b o) :=
  ⟨rfl, rfl, rfl, by simp [ChangeMaps.setBlock], fun k _ hk => by
    have : b ≠ k := fun e => hk (e ▸ hF)
    simp [ChangeMaps.setBlock, Array.getElem?_setIfInBounds_ne this]⟩
theorem size_setBlock (w : World) (b : Nat) (o : Obj) : (ChangeMaps.setBlock w b o).heap.size = w.heap.size := by simp [ChangeMaps.setBlock]
theorem putH_new {w : World} {m : Nat} {hs : List Hd} {n : Hd} (h : MapH w m hs) (hf : findH hs n.id = none) : ∃ w', (Instr.mapUpdate 98 (.map (some m)) (.int .i64 n.id) n.mv).run Tryz.prog w = .ok () w' ∧ MapH w' m (hs ++ [n]) ∧ Keeps (fun k => k = m) w w' ∧ w'.heap.size = w.heap.size := by
  obtain ⟨es, clock, h1, h2, h3, h4⟩ := h
  have k := findNow_H n.id es.toList hs 0 h2
  rw [hf] at k
  refine ⟨ChangeMaps.setBlock w m (.map (es.push { key := .int .i64 n.id, val := n.mv, born := clock }) (clock + 1)), ?_, ⟨_, _, (MapKept.heap_set h1).1, ?_, ?_, ?_⟩, keeps_setBlock (F := fun k => k = m) rfl _, size_setBlock _ _ _⟩
  · simp [Instr.mapUpdate, run_underlying Tryz.underlying98, MapKept.run_getObj_map h1, MapKept.run_checkKey Tryz.underlying3 (isKeyI n.id), MapKept.run_findKey Tryz.underlying3 k, MapKept.run_setObj_map _ h1, Result.andThen, ChangeMaps.setBlock]
  · rw [Array.toList_push, List.map_append, List.map_append, h2]; rfl
  · intro x hx
    rw [Array.toList_push] at hx
    rcases List.mem_append.mp hx with q | q
    · have := h3 x q; omega
    · simp at q; subst q; exact Nat.lt_succ_self _
  · rw [Array.toList_push, List.map_append]
    refine List.nodup_append.mpr ⟨h4, by simp, fun a ha b hb => ?_⟩
    obtain ⟨x, hx, rfl⟩ := List.mem_map.mp ha
    simp at hb
    have := h3 x hx
    omega
theorem putH_old {w : World} {m : Nat} {hs : List Hd} {j : Nat} {x n : Hd} (h : MapH w m hs) (hf : findH hs n.id = some j) (hj : hs[j]? = some x) : ∃ w', (Instr.mapUpdate 98 (.map (some m)) (.int .i64 n.id) n.mv).run Tryz.prog w = .ok () w' ∧ MapH w' m (hs.set j n) ∧ Keeps (fun k => k = m) w w' ∧ w'.heap.size = w.heap.size := by
  obtain ⟨es, clock, h1, h2, h3, h4⟩ := h
  have k := findNow_H n.id es.toList hs 0 h2
  rw [hf] at k
  simp only [Option.bind_some, hj, Option.map_some, Nat.zero_add] at k
  obtain ⟨y, hy, hid⟩ := findH_some hf
  have hjl : j < es.toList.length := by
    have e := congrArg List.length h2
    rw [List.length_map, List.length_map] at e
    rcases Nat.lt_or_ge j hs.length with q | q
    · omega
    · rw [List.getElem?_eq_none q] at hj; cases hj
  obtain ⟨e0, he0⟩ : ∃ e0, es.toList[j]? = some e0 := ⟨_, List.getElem?_eq_getElem hjl⟩
  have hke : e0.key = .int .i64 n.id := by
    have e := congrArg (·[j]?) h2
    simp only [List.getElem?_map, he0, hy, Option.map_some] at e
    have := (Prod.mk.inj (Option.some.inj e)).1
    rw [← hid]; exact this
  have hej : es[j]? = some e0 := by simpa using he0
  refine ⟨ChangeMaps.setBlock w m (.map (es.modify j fun e => { e with key := .int .i64 n.id, val := n.mv }) clock), ?_, ⟨_, _, (MapKept.heap_set h1).1, ?_, ?_, ?_⟩, keeps_setBlock (F := fun k => k = m) rfl _, size_setBlock _ _ _⟩
  · simp [Instr.mapUpdate, run_underlying Tryz.underlying98, MapKept.run_getObj_map h1, MapKept.run_checkKey Tryz.underlying3 (isKeyI n.id), MapKept.run_findKey Tryz.underlying3 k, hej, hke, MapKept.run_keyThatStays (isKeyI n.id), MapKept.run_setObj_map _ h1, Result.andThen, ChangeMaps.setBlock]
  · rw [Array.toList_modify]; exact kv_modify j _ n _ _ h2 (fun _ => rfl)
  · intro z hz
    rw [Array.toList_modify] at hz
    have e := born_modify j (fun e : MapEntry => { e with key := .int .i64 n.id, val := n.mv }) es.toList (fun _ => rfl)
    have hm : z.born ∈ es.toList.map (·.born) := by rw [← e]; exact List.mem_map_of_mem hz
    obtain ⟨u, hu, hub⟩ := List.mem_map.mp hm
    have := h3 u hu
    omega
  · rw [Array.toList_modify, born_modify j (fun e : MapEntry => { e with key := .int .i64 n.id, val := n.mv }) es.toList (fun _ => rfl)]; exact h4
theorem map_erase {α β : Type} (f : α → β) (l : List α) (j : Nat) : (l.eraseIdx j).map f = (l.map f).eraseIdx j := by
  induction l generalizing j with
  | nil => rfl
  | cons x l ih =>
    cases j with
    | zero => rfl
    | succ j => rw [List.eraseIdx_cons_succ, List.map_cons, List.map_cons, List.eraseIdx_cons_succ, ih]
theorem delH {w : World} {m : Nat} {hs : List Hd} {id : Int} {j : Nat} (ty : TypeId) (h : MapH w m hs) (hf : findH hs id = some j) : ∃ w', (Builtin.delete_ #[98, 3] ty #[.map (some m), .int .i64 id]).run Tryz.prog w = .ok (.tuple #[]) w' ∧ MapH w' m (hs.eraseIdx j) ∧ Keeps (fun k => k = m) w w' ∧ w'.heap.size = w.heap.size := by
  obtain ⟨es, clock, h1, h2, h3, h4⟩ := h
  have k := findNow_H id es.toList hs 0 h2
  obtain ⟨y, hy, hid⟩ := findH_some hf
  rw [hf] at k
  simp only [Option.bind_some, hy, Option.map_some, Nat.zero_add] at k
  have he : (es.eraseIdxIfInBounds j).toList = es.toList.eraseIdx j := by
    unfold Array.eraseIdxIfInBounds
    split
    · simp
    · rename_i q
      rw [List.eraseIdx_of_length_le (by simpa using q)]
  refine ⟨ChangeMaps.setBlock w m (.map (es.eraseIdxIfInBounds j) clock), ?_, ⟨_, _, (MapKept.heap_set h1).1, ?_, ?_, ?_⟩, keeps_setBlock (F := fun k => k = m) rfl _, size_setBlock _ _ _⟩
  · simp [Builtin.delete_, run_underlying Tryz.underlying98, MapKept.run_getObj_map h1, MapKept.run_checkKey Tryz.underlying3 (isKeyI id), MapKept.run_findKey Tryz.underlying3 k, MapKept.run_setObj_map _ h1, Result.andThen, ChangeMaps.setBlock]
  · rw [he, map_erase, map_erase, h2]
  · intro x hx
    rw [he] at hx
    exact h3 x (List.mem_of_mem_eraseIdx hx)
  · rw [he, map_erase]
    exact List.Sublist.nodup (List.eraseIdx_sublist _ _) h4
/-! ### sums hang on no order -/
theorem sumR_perm {a b : List (Int × Int)} (h : a.Perm b) : sumR a = sumR b := by
  induction h with
  | nil => rfl
  | cons x _ ih => rw [sumR_cons, sumR_cons, ih]
  | swap x y l => rw [sumR_cons, sumR_cons, sumR_cons, sumR_cons]; simp only [Prod.mk.injEq]; constructor <;> grind
  | trans _ _ ih1 ih2 => exact ih1.trans ih2
/-- a holder that asks: it fits, if what it asks for fits in place of what it has -/
theorem fits_ask {N D : Int} {hs : List Hd} (g : GoodL N D hs) {j : Nat} {x : Hd} (hj : hs[j]? = some x) (ha : x.asked = false) {E P : Int} (hM : MayBe E P) : fitsV N D hs E P x.E x.P = fitH N D (hs.set j (askH x E P)) := by
  have gx := g.each x (List.mem_of_getElem? hj)
  obtain ⟨c0, c1⟩ := sumH_frac (each_erase g.each j)
  have hx : holdsV x = (x.E, x.P) := by unfold holdsV; rw [if_neg (by simp [ha])]
  have hn : holdsV (askH x E P) = if x.E * P < E * x.P then (E, P) else (x.E, x.P) := by unfold holdsV askH; simp
  have hf := fit_le.mp g.fit
  rw [fitsV_two hM gx.now]
  rw [sum_at hj, hx] at hf
  unfold fitH
  rw [sum_at hj, sum_set _ hj, hx, hn]
  revert c0 c1 hf
  generalize sumH (hs.eraseIdx j) = c
  obtain ⟨c1, c2⟩ := c
  simp only
  intro c0 cp hf
  obtain ⟨m1, m2, _⟩ := hM
  obtain ⟨x1, x2, _⟩ := gx.now
  have hD := g.d0
  have k1 : x.E * (c2 * x.P * P) ≤ ((c1 * x.P + x.E * c2) * P + E * (c2 * x.P)) * x.P := by
    have e : ((c1 * x.P + x.E * c2) * P + E * (c2 * x.P)) * x.P = x.E * (c2 * x.P * P) + (c1 * (x.P * (P * x.P)) + E * (c2 * (x.P * x.P))) := by grind
    have q1 : 0 ≤ c1 * (x.P * (P * x.P)) := Int.mul_nonneg c0 (Int.mul_nonneg (by omega) (Int.mul_nonneg (by omega) (by omega)))
    have q2 : 0 ≤ E * (c2 * (x.P * x.P)) := Int.mul_nonneg (by omega) (Int.mul_nonneg (by omega) (Int.mul_nonneg (by omega) (by omega)))
    omega
  have k2 : (((c1 * x.P + x.E * c2) * P + E * (c2 * x.P)) * (D * x.P) ≤ (N * x.P + x.E * D) * (c2 * x.P * P)) ↔ (c1 * P + E * c2) * D ≤ N * (c2 * P) := by
    have hp : 0 < x.P * x.P := Int.mul_pos (by omega) (by omega)
    have e1 : ((c1 * x.P + x.E * c2) * P + E * (c2 * x.P)) * (D * x.P) = (c1 * P + E * c2) * D * (x.P * x.P) + x.E * (c2 * (P * (D * x.P))) := by grind
    have e2 : (N * x.P + x.E * D) * (c2 * x.P * P) = N * (c2 * P) * (x.P * x.P) + x.E * (c2 * (P * (D * x.P))) := by grind
    rw [e1, e2]
    constructor
    · intro q; exact Int.le_of_mul_le_mul_right (show (c1 * P + E * c2) * D * (x.P * x.P) ≤ N * (c2 * P) * (x.P * x.P) by omega) hp
    · intro q; have := Int.mul_le_mul_of_nonneg_right q (show 0 ≤ x.P * x.P by omega); omega
  rw [decide_eq_true k1, Bool.true_and]
  by_cases q : x.E * P < E * x.P
  · rw [if_pos q]
    exact decide_eq_decide.mpr k2
  · rw [if_neg q]
    have k3 : (c1 * P + E * c2) * D ≤ N * (c2 * P) := le_part cp (show 0 < x.P by omega) hD (by omega) (by omega) hf
    rw [decide_eq_true (k2.mpr k3), decide_eq_true hf]
end Go.Proofs.YtbonilmlfelmpaaGreat
namespace Go.Proofs.YtbonilmlfelmpaaGreat
open Go.RowKit

theorem Row.keepsA {W W' : World} {G A : Nat → Prop} {a : Option Addr} {len cap : Nat} {zs : List Int} (h : Row .u32 W a len cap zs) (k : Keeps G W W') (hA : ∀ b, a = some b → 0 < len → A b.block) (hG : ∀ x, A x → ¬ G x) : Row .u32 W' a len cap zs := by
  refine ⟨h.1, h.2.1, h.2.2.1, h.2.2.2.1, fun i hi => ?_⟩
  obtain ⟨b, off, ha, hc⟩ := h.2.2.2.2 i hi
  exact ⟨b, off, ha, (World.cell?_of_block (w := W) (a := ⟨b, off + i, none⟩) (k.block b (World.block_lt_of_cell? _ _ hc) (hG b (hA _ ha (by omega))))).trans hc⟩
/-- the landed ledger at block g, its map at m: of what New was given it reads the blocks of A -/
structure LH (w : World) (g m : Nat) (A : Nat → Prop) (an : Option Addr) (ln cn : Nat) (ad : Option Addr) (ld cd : Nat) (N D : Int) (hs : List Hd) : Prop where
  blk : Blk w 100 g #[.slice an ln cn, .slice ad ld cd, .map (some m)]
  rat : ∃ zn zd, Row .u32 w an ln cn zn ∧ Is 4294967296 zn N ∧ Row .u32 w ad ld cd zd ∧ Is 4294967296 zd D
  small : ln ≤ 3 ∧ ld ≤ 3
  inA : (∀ b, an = some b → 0 < ln → A b.block) ∧ (∀ b, ad = some b → 0 < ld → A b.block)
  lies : Lies A w
  map : MapH w m hs
  ne : g ≠ m
theorem LH.ratio {w : World} {g m : Nat} {A : Nat → Prop} {an : Option Addr} {ln cn : Nat} {ad : Option Addr} {ld cd : Nat} {N D : Int} {hs : List Hd} (h : LH w g m A an ln cn ad ld cd N D hs) : Rat w 0 3 (.agg #[.slice an ln cn, .slice ad ld cd]) N D := by
  obtain ⟨zn, zd, h1, h2, h3, h4⟩ := h.rat
  exact ⟨an, ln, cn, zn, ad, ld, cd, zd, rfl, h1, h2, h3, h4, h.small.1, h.small.2, fresh0 _, fresh0 _⟩
theorem LH.keeps {w w' : World} {G : Nat → Prop} {g m : Nat} {A : Nat → Prop} {an : Option Addr} {ln cn : Nat} {ad : Option Addr} {ld cd : Nat} {N D : Int} {hs hs' : List Hd} (h : LH w g m A an ln cn ad ld cd N D hs) (k : Keeps G w w') (hg : ¬ G g) (hA : ∀ x, A x → ¬ G x) (hm : MapH w' m hs') : LH w' g m A an ln cn ad ld cd N D hs' := by
  obtain ⟨zn, zd, h1, h2, h3, h4⟩ := h.rat
  exact ⟨h.blk.keeps k hg, ⟨zn, zd, h1.keepsA k h.inA.1 hA, h2, h3.keepsA k h.inA.2 hA, h4⟩, h.small, h.inA, h.lies.next k.size, hm, h.ne⟩
theorem LH.below {w w' : World} {g m : Nat} {A : Nat → Prop} {an : Option Addr} {ln cn : Nat} {ad : Option Addr} {ld cd : Nat} {N D : Int} {hs : List Hd} (h : LH w g m A an ln cn ad ld cd N D hs) (k : Below w.heap.size w w') : LH w' g m A an ln cn ad ld cd N D hs :=
  h.keeps (G := fun _ => False) (Keeps.of k) (fun q => q) (fun _ _ q => q) (h.map.below k)
theorem LH.drew {w : World} {g m : Nat} {A : Nat → Prop} {an : Option Addr} {ln cn : Nat} {ad : Option Addr} {ld cd : Nat} {N D : Int} {hs : List Hd} (h : LH w g m A an ln cn ad ld cd N D hs) : LH w.drew g m A an ln cn ad ld cd N D hs := h.below (Below.refl _ _).drew
/-- it asked for another one -/
def askB (NE NP : Int) : Bool := !(NE == 0 && NP == 0)
theorem asked_is {N D : Int} {hs : List Hd} (g : GoodL N D hs) {x : Hd} (h : x ∈ hs) : askB x.NE x.NP = x.asked := by
  unfold askB
  cases q : x.asked with
  | false =>
    obtain ⟨h1, h2⟩ := g.none x h q
    rw [h1, h2]; rfl
  | true =>
    have := (g.each x h).next q
    have : ¬ x.NE = 0 := by have := this.1; omega
    simp [this]
theorem hasked_any (E P NE NP : Int) (b : Bool) (w : World) (hb : askB NE NP = b) : Calls Tryz.prog 68 #[.agg #[.int .i64 E, .int .i64 P, .int .i64 NE, .int .i64 NP]] w fun e w' => e = .returned (.bool b) ∧ Below w.heap.size w w' := by
  subst hb
  obtain ⟨w1, hw1⟩ : ∃ w1, w.alloc (.cells #[.int .i64 E, .int .i64 P, .int .i64 NE, .int .i64 NP] 103) = w1 := ⟨_, rfl⟩
  have K := Blk.new w 103 #[.int .i64 E, .int .i64 P, .int .i64 NE, .int .i64 NP]
  have B : Below w.heap.size w w1 := by rw [← hw1]; exact wbox _ _
  rw [hw1] at K
  have c2 := K.cell 2; have c3 := K.cell 3
  simp at c2 c3
  unfold askB
  cases q1 : NE == 0 <;> cases q2 : NP == 0
  all_goals
    go_enter Tryz.func68, Tryz.ntmps68
    go_wp2
    go_ret
    exact ⟨rfl, B⟩
theorem hfind_nil (id : Int) (w : World) : Calls Tryz.prog 65 #[.pointer none, .int .i64 id] w fun e w' => e = .returned (.tuple #[.agg #[.int .i64 0, .int .i64 0, .int .i64 0, .int .i64 0], .int .i64 1]) ∧ Below w.heap.size w w' := by
  go_enter Tryz.func65, Tryz.ntmps65
  go_wp2
  exact bodyPost_ret (v := .tuple #[.agg #[.int .i64 0, .int .i64 0, .int .i64 0, .int .i64 0], .int .i64 1]) (by simp [results, Tryz.results65, go_sem]) rfl ⟨rfl, wbox _ _⟩
theorem hfind_none {w : World} {g m : Nat} {A : Nat → Prop} {an : Option Addr} {ln cn : Nat} {ad : Option Addr} {ld cd : Nat} {N D : Int} {hs : List Hd} (id : Int) (h : LH w g m A an ln cn ad ld cd N D hs) (hf : findH hs id = none) :
    Calls Tryz.prog 65 #[.pointer (some ⟨g, 0, none⟩), .int .i64 id] w fun e w' => e = .returned (.tuple #[.agg #[.int .i64 0, .int .i64 0, .int .i64 0, .int .i64 0], .int .i64 12]) ∧ Below w.heap.size w w' := by
  have H := Lib.hid h
  have B0 := Lib.hid (wbox w (.cells #[.int .i64 0, .int .i64 0, .int .i64 0, .int .i64 0] 103))
  have c2 := (H.out.below B0.out).blk.cell 2
  have hl := lookH_no (H.out.below B0.out).map hf
  simp at c2
  go_enter Tryz.func65, Tryz.ntmps65
  go_wp2
  exact bodyPost_ret (v := .tuple #[.agg #[.int .i64 0, .int .i64 0, .int .i64 0, .int .i64 0], .int .i64 12]) (by simp [results, Tryz.results65, go_sem]) rfl ⟨rfl, wbox2 _ _ _⟩
theorem hfind_some {w : World} {g m : Nat} {A : Nat → Prop} {an : Option Addr} {ln cn : Nat} {ad : Option Addr} {ld cd : Nat} {N D : Int} {hs : List Hd} (id : Int) (j : Nat) (x : Hd) (h : LH w g m A an ln cn ad ld cd N D hs) (hf : findH hs id = some j) (hx : hs[j]? = some x) :
    Calls Tryz.prog 65 #[.pointer (some ⟨g, 0, none⟩), .int .i64 id] w fun e w' => e = .returned (.tuple #[.agg #[.int .i64 x.E, .int .i64 x.P, .int .i64 x.NE, .int .i64 x.NP], .int .i64 0]) ∧ Below w.heap.size w w' := by
  have H := Lib.hid h
  have B0 := Lib.hid (wbox w (.cells #[.int .i64 0, .int .i64 0, .int .i64 0, .int .i64 0] 103))
  have c2 := (H.out.below B0.out).blk.cell 2
  have hl := lookH_yes (H.out.below B0.out).map hf hx
  unfold Hd.mv at hl
  simp at c2
  go_enter Tryz.func65, Tryz.ntmps65
  go_wp2
  exact bodyPost_ret (v := .tuple #[.agg #[.int .i64 x.E, .int .i64 x.P, .int .i64 x.NE, .int .i64 x.NP], .int .i64 0]) (by simp [results, Tryz.results65, go_sem]) rfl ⟨rfl, wbox2 _ _ _⟩
theorem hroom_nil (w : World) : Calls Tryz.prog 83 #[.pointer none] w (GivesQ w 2 0 1) := by
  have X0 := Lib.hid (Box.new w 35 (.slice none 0 0) (.slice none 0 0))
  have B0 := Lib.hid (wbox w (.cells #[.slice none 0 0, .slice none 0 0] 35))
  go_enter Tryz.func83, Tryz.ntmps83
  go_wp2_with fail
  refine (whole_any 0 _ (by omega) (by omega)).mono ?_
  rintro e w1 ⟨_, rfl, hr, hb⟩
  obtain ⟨p1, p2, p3, z1, q1, q2, q3, z2, rfl, _⟩ := id hr
  have X1 := Lib.hid (X0.out.below hb)
  have B1 := Lib.hid (below_next B0.out hb)
  have R1 := Lib.hid (box_set X1.out hr).2
  have x0 := X1.out.c0; have x1 := X1.out.c1
  have f0 : w1.frozen? ⟨w.heap.size, 0, none⟩ = false := block_free X1.out
  have f1 : w1.frozen? ⟨w.heap.size, 1, none⟩ = false := block_free X1.out
  clear hr hb
  go_wp2
  exact bodyPost_ret (v := .agg #[.slice p1 p2 p3, .slice q1 q2 q3]) (by simp [results, Tryz.results83, go_sem, x0, x1]) rfl ⟨_, rfl, R1.out, (B1.out.setCell (Nat.le_refl _) _).setCell (Nat.le_refl _) _⟩
theorem hroom_any {w : World} {g m : Nat} {A : Nat → Prop} {an : Option Addr} {ln cn : Nat} {ad : Option Addr} {ld cd : Nat} {N D : Int} {hs : List Hd} (h : LH w g m A an ln cn ad ld cd N D hs) (hD : 0 < D) :
    Calls Tryz.prog 83 #[.pointer (some ⟨g, 0, none⟩)] w (GivesQ w 3 N D) := by
  have H := Lib.hid h
  have X0 := Lib.hid (Box.new w 35 (.slice none 0 0) (.slice none 0 0))
  have B0 := Lib.hid (wbox w (.cells #[.slice none 0 0, .slice none 0 0] 35))
  have H1 := Lib.hid (H.out.below B0.out)
  have c0 := H1.out.blk.cell 0
  have c1 := H1.out.blk.cell 1
  simp at c0 c1
  go_enter Tryz.func83, Tryz.ntmps83
  go_wp2_with fail
  refine (qcheck_yes _ N D 3 0 _ H1.out.ratio hD).mono ?_
  rintro e w1 ⟨rfl, hb⟩
  have X1 := Lib.hid (X0.out.below hb)
  have B1 := Lib.hid (below_next B0.out hb)
  have H2 := Lib.hid (H1.out.below hb)
  have R1 := Lib.hid (box_set X1.out H2.out.ratio).2
  have c0 := H2.out.blk.cell 0
  have c1 := H2.out.blk.cell 1
  simp at c0 c1
  have x0 := X1.out.c0; have x1 := X1.out.c1
  have f0 : w1.frozen? ⟨w.heap.size, 0, none⟩ = false := block_free X1.out
  have f1 : w1.frozen? ⟨w.heap.size, 1, none⟩ = false := block_free X1.out
  clear hb
  go_wp2
  exact bodyPost_ret (v := .agg #[.slice an ln cn, .slice ad ld cd]) (by simp [results, Tryz.results83, go_sem, x0, x1]) rfl ⟨_, rfl, R1.out, (B1.out.setCell (Nat.le_refl _) _).setCell (Nat.le_refl _) _⟩
instance (E P : Int) : Decidable (MayBe E P) := inferInstanceAs (Decidable (1 ≤ E ∧ E ≤ P ∧ P ≤ 1048576))
/-- how much a weight counts -/
def cntV (E P : Int) : Int × Int := if MayBe E P then (E, P) else (0, 1)
theorem cnt_frac (E P : Int) : 0 ≤ (cntV E P).1 ∧ 0 < (cntV E P).2 := by
  unfold cntV
  split
  · rename_i h; obtain ⟨h1, h2, _⟩ := h; exact ⟨by show 0 ≤ E; omega, by show 0 < P; omega⟩
  · exact ⟨by decide, by decide⟩
theorem hcounts_any (E P : Int) (w : World) : Calls Tryz.prog 81 #[.agg #[.int .i64 E, .int .i64 P]] w (GivesQ w 2 (cntV E P).1 (cntV E P).2) := by
  obtain ⟨W0, hW0⟩ : ∃ W0, (w.alloc (.cells #[.int .i64 E, .int .i64 P] 46)).alloc (.cells #[.slice none 0 0, .slice none 0 0] 35) = W0 := ⟨_, rfl⟩
  have B0 := Lib.hid (show Below w.heap.size w W0 by rw [← hW0]; exact wbox2 _ _ _)
  have K := Lib.hid (show Blk W0 46 w.heap.size #[.int .i64 E, .int .i64 P] by rw [← hW0]; exact (Blk.new w _ _).alloc _)
  have X0 := Lib.hid (show Box W0 35 (w.heap.size + 1) (.slice none 0 0) (.slice none 0 0) by rw [← hW0]; exact Blk.new2 w _ _ _)
  have k0 := K.out.cell 0; have k1 := K.out.cell 1
  simp at k0 k1
  go_enter Tryz.func81, Tryz.ntmps81
  go_wp2_with fail
  by_cases hM : MayBe E P
  · refine (wcheck_yes E P _ hM).mono ?_
    rintro e w1 ⟨rfl, hb⟩
    have X1 := Lib.hid (X0.out.below hb)
    have B1 := Lib.hid (below_next B0.out hb)
    have K := Lib.hid (K.out.below hb)
    have HM := Lib.hid hM
    have k0 := K.out.cell 0; have k1 := K.out.cell 1
    simp at k0 k1
    clear hb hM
    go_wp2_with fail
    refine (qof_any E P w1 (by have := HM.out.1; omega) (by have := HM.out.2.1; have := HM.out.2.2; omega) (by have := HM.out.1; have := HM.out.2.1; omega) (by have := HM.out.2.2; omega)).mono ?_
    rintro e w2 ⟨_, rfl, hr, hb⟩
    obtain ⟨p1, p2, p3, z1, q1, q2, q3, z2, rfl, _⟩ := id hr
    have X2 := Lib.hid (X1.out.below hb)
    have B2 := Lib.hid (below_next B1.out hb)
    have R1 := Lib.hid (box_set X2.out hr).2
    have x0 := X2.out.c0; have x1 := X2.out.c1
    have f0 : w2.frozen? ⟨w.heap.size + 1, 0, none⟩ = false := block_free X2.out
    have f1 : w2.frozen? ⟨w.heap.size + 1, 1, none⟩ = false := block_free X2.out
    clear hr hb k0 k1
    go_wp2
    exact bodyPost_ret (v := .agg #[.slice p1 p2 p3, .slice q1 q2 q3]) (by simp [results, Tryz.results81, go_sem, x0, x1]) rfl ⟨_, rfl, by rw [show cntV E P = (E, P) from if_pos HM.out]; exact R1.out.mono (Nat.le_refl _) (by omega), (B2.out.setCell (Nat.le_succ _) _).setCell (Nat.le_succ _) _⟩
  · refine (wcheck_any E P _ false ⟨fun h => (by cases h), fun h => absurd h hM⟩).mono ?_
    rintro e w1 ⟨rfl, hb⟩
    have X1 := Lib.hid (X0.out.below hb)
    have B1 := Lib.hid (below_next B0.out hb)
    have HM := Lib.hid hM
    clear hb hM k0 k1
    go_wp2_with fail
    refine (whole_any 0 _ (by omega) (by omega)).mono ?_
    rintro e w2 ⟨_, rfl, hr, hb⟩
    obtain ⟨p1, p2, p3, z1, q1, q2, q3, z2, rfl, _⟩ := id hr
    have X2 := Lib.hid (X1.out.below hb)
    have B2 := Lib.hid (below_next B1.out hb)
    have R1 := Lib.hid (box_set X2.out hr).2
    have x0 := X2.out.c0; have x1 := X2.out.c1
    have f0 : w2.frozen? ⟨w.heap.size + 1, 0, none⟩ = false := block_free X2.out
    have f1 : w2.frozen? ⟨w.heap.size + 1, 1, none⟩ = false := block_free X2.out
    clear hr hb
    go_wp2
    exact bodyPost_ret (v := .agg #[.slice p1 p2 p3, .slice q1 q2 q3]) (by simp [results, Tryz.results81, go_sem, x0, x1]) rfl ⟨_, rfl, by rw [show cntV E P = (0, 1) from if_neg HM.out]; exact R1.out, (B2.out.setCell (Nat.le_succ _) _).setCell (Nat.le_succ _) _⟩
end Go.Proofs.YtbonilmlfelmpaaGreat
namespace Go.Proofs.YtbonilmlfelmpaaGreat
open Go.RowKit

set_option maxHeartbeats 2000000 in
theorem hshare_any (h : Hd) (g : GoodH h) (ha : askB h.NE h.NP = h.asked) (x y : Int) (hxy : holdsV h = (x, y)) (w : World) :
    Calls Tryz.prog 96 #[h.mv] w fun e w' => e = .returned (.agg #[.int .i64 x, .int .i64 y]) ∧ Below w.heap.size w w' := by
  obtain ⟨id, E, P, NE, NP, asked⟩ := h
  unfold Hd.mv
  obtain ⟨gn, gx⟩ := g
  simp only at gn gx ha
  have MW := Lib.hid (show 0 ≤ E ∧ E < 4294967296 ∧ 1 ≤ P ∧ P < 4294967296 by obtain ⟨m1, m2, m3⟩ := gn; omega)
  obtain ⟨W0, hW0⟩ : ∃ W0, (w.alloc (.cells #[.int .i64 E, .int .i64 P, .int .i64 NE, .int .i64 NP] 103)).alloc (.cells #[.int .i64 0, .int .i64 0] 46) = W0 := ⟨_, rfl⟩
  have B0 := Lib.hid (show Below w.heap.size w W0 by rw [← hW0]; exact wbox2 _ _ _)
  have K := Lib.hid (show Blk W0 103 w.heap.size #[.int .i64 E, .int .i64 P, .int .i64 NE, .int .i64 NP] by rw [← hW0]; exact (Blk.new w _ _).alloc _)
  have X0 := Lib.hid (show Box W0 46 (w.heap.size + 1) (.int .i64 0) (.int .i64 0) by rw [← hW0]; exact Blk.new2 w _ _ _)
  have KEPT := Lib.hid (show ∀ w' : World, Below W0.heap.size W0 w' → w'.cell? ⟨w.heap.size, 0, none⟩ = some (.int .i64 E) ∧ w'.cell? ⟨w.heap.size, 1, none⟩ = some (.int .i64 P) ∧ w'.cell? ⟨w.heap.size, 2, none⟩ = some (.int .i64 NE) ∧ w'.cell? ⟨w.heap.size, 3, none⟩ = some (.int .i64 NP) from fun w' h => ⟨(K.out.below h).cell 0, (K.out.below h).cell 1, (K.out.below h).cell 2, (K.out.below h).cell 3⟩)
  have BL := Lib.hid (show Below W0.heap.size W0 W0.drew from (Below.refl W0.heap.size W0).drew)
  go_enter Tryz.func96, Tryz.ntmps96
  go_upto_region 1 with fail
  (try rw [hW0])
  clear hW0
  cases asked with
  | false =>
    have HA := Lib.hid ha
    obtain ⟨rfl, rfl⟩ : E = x ∧ P = y := by
      unfold holdsV at hxy
      rw [if_neg (by simp)] at hxy
      exact Prod.mk.inj hxy
    clear hxy ha
    refine wp_region_noPanic ?_
    refine wp_region_held_drew (S := fun w' => w'.cell? ⟨w.heap.size, 0, none⟩ = some (.int .i64 E) ∧ w'.cell? ⟨w.heap.size, 1, none⟩ = some (.int .i64 P) ∧ w'.cell? ⟨w.heap.size, 2, none⟩ = some (.int .i64 NE) ∧ w'.cell? ⟨w.heap.size, 3, none⟩ = some (.int .i64 NP)) (by kernel_rfl) (KEPT.out _ BL.out) (fun hHeld => ?_)
    refine' takeY (i := 0) (oi := _) (v := _) ?hia0 (by kernel_rfl) (by kernel_rfl) (by kernel_rfl) (fun _ _ _ h => h) ?hwa0 ?hya0 hHeld ?resta0
    case hia0 => (simp only [List.getElem?_toArray, List.getElem?_cons_zero]; rfl)
    case hwa0 => rfl
    case hya0 => (intro w hSw; (try dsimp only at hSw); go_simp; try with_reducible rfl)
    try simp only [Act.put, List.setIfInBounds_toArray, List.set_cons_zero, List.set_cons_succ]
    refine wpAnyH_ready (rs := [1]) (by kernel_rfl) (by simp) ?_
    refine' AllReadyH.cons (o := _) ?hia1 (fun K hK => ?stepa1) AllReadyH.nil
    case hia1 => (simp only [List.getElem?_toArray, List.getElem?_cons_succ, List.getElem?_cons_zero]; rfl)
    go_simp
    ((with_reducible refine (hasked_any E P NE NP false _ HA.out).mono ?_); rintro e w2 ⟨rfl, hb⟩; have BL := Lib.hid (below_next BL.out hb); clear hb)
    go_wp2_with fail
    clear hHeld
    refine hK.out _ _ (KEPT.out _ BL.out) (fun hHeld => ?_)
    clear hK K
    try simp only [Act.put, List.setIfInBounds_toArray, List.set_cons_zero, List.set_cons_succ]
    refine' takeY (i := 2) (oi := _) (v := _) ?hia2 (by kernel_rfl) (by kernel_rfl) (by kernel_rfl) (fun _ _ _ h => h) ?hwa2 ?hya2 hHeld ?resta2
    case hia2 => (simp only [List.getElem?_toArray, List.getElem?_cons_succ, List.getElem?_cons_zero]; rfl)
    case hwa2 => rfl
    case hya2 => (intro w hSw; (try dsimp only at hSw); go_simp; try with_reducible rfl)
    try simp only [Act.put, List.setIfInBounds_toArray, List.set_cons_zero, List.set_cons_succ]
    refine' takeN (i := 3) (oi := _) ?hia3 (by kernel_rfl) (by kernel_rfl) (by kernel_rfl) (fun _ _ _ h => h) ?hwa3 hHeld ?resta3
    case hia3 => (simp only [List.getElem?_toArray, List.getElem?_cons_succ, List.getElem?_cons_zero]; rfl)
    case hwa3 => rfl
    try simp only [Act.put, List.setIfInBounds_toArray, List.set_cons_zero, List.set_cons_succ]
    refine' takeN (i := 4) (oi := _) ?hia4 (by kernel_rfl) (by kernel_rfl) (by kernel_rfl) (fun _ _ _ h => h) ?hwa4 hHeld ?resta4
    case hia4 => (simp only [List.getElem?_toArray, List.getElem?_cons_succ, List.getElem?_cons_zero]; rfl)
    case hwa4 => rfl
    try simp only [Act.put, List.setIfInBounds_toArray, List.set_cons_zero, List.set_cons_succ]
    refine' takeN (i := 5) (oi := _) ?hia5 (by kernel_rfl) (by kernel_rfl) (by kernel_rfl) (fun _ _ _ h => h) ?hwa5 hHeld ?resta5
    case hia5 => (simp only [List.getElem?_toArray, List.getElem?_cons_succ, List.getElem?_cons_zero]; rfl)
    case hwa5 => rfl
    try simp only [Act.put, List.setIfInBounds_toArray, List.set_cons_zero, List.set_cons_succ]
    refine' takeN (i := 6) (oi := _) ?hia6 (by kernel_rfl) (by kernel_rfl) (by kernel_rfl) (fun _ _ _ h => h) ?hwa6 hHeld ?resta6
    case hia6 => (simp only [List.getElem?_toArray, List.getElem?_cons_succ, List.getElem?_cons_zero]; rfl)
    case hwa6 => rfl
    try simp only [Act.put, List.setIfInBounds_toArray, List.set_cons_zero, List.set_cons_succ]
    refine' takeN (i := 7) (oi := _) ?hia7 (by kernel_rfl) (by kernel_rfl) (by kernel_rfl) (fun _ _ _ h => h) ?hwa7 hHeld ?resta7
    case hia7 => (simp only [List.getElem?_toArray, List.getElem?_cons_succ, List.getElem?_cons_zero]; rfl)
    case hwa7 => rfl
    try simp only [Act.put, List.setIfInBounds_toArray, List.set_cons_zero, List.set_cons_succ]
    refine' takeN (i := 8) (oi := _) ?hia8 (by kernel_rfl) (by kernel_rfl) (by kernel_rfl) (fun _ _ _ h => h) ?hwa8 hHeld ?resta8
    case hia8 => (simp only [List.getElem?_toArray, List.getElem?_cons_succ, List.getElem?_cons_zero]; rfl)
    case hwa8 => rfl
    try simp only [Act.put, List.setIfInBounds_toArray, List.set_cons_zero, List.set_cons_succ]
    refine' takeN (i := 9) (oi := _) ?hia9 (by kernel_rfl) (by kernel_rfl) (by kernel_rfl) (fun _ _ _ h => h) ?hwa9 hHeld ?resta9
    case hia9 => (simp only [List.getElem?_toArray, List.getElem?_cons_succ, List.getElem?_cons_zero]; rfl)
    case hwa9 => rfl
    try simp only [Act.put, List.setIfInBounds_toArray, List.set_cons_zero, List.set_cons_succ]
    refine' takeN (i := 10) (oi := _) ?hia10 (by kernel_rfl) (by kernel_rfl) (by kernel_rfl) (fun _ _ _ h => h) ?hwa10 hHeld ?resta10
    case hia10 => (simp only [List.getElem?_toArray, List.getElem?_cons_succ, List.getElem?_cons_zero]; rfl)
    case hwa10 => rfl
    try simp only [Act.put, List.setIfInBounds_toArray, List.set_cons_zero, List.set_cons_succ]
    refine' takeY (i := 11) (oi := _) (v := _) ?hia11 (by kernel_rfl) (by kernel_rfl) (by kernel_rfl) (fun _ _ _ h => h) ?hwa11 ?hya11 hHeld ?resta11
    case hia11 => (simp only [List.getElem?_toArray, List.getElem?_cons_succ, List.getElem?_cons_zero]; rfl)
    case hwa11 => rfl
    case hya11 => (intro w hSw; (try dsimp only at hSw); go_simp; try with_reducible rfl)
    try simp only [Act.put, List.setIfInBounds_toArray, List.set_cons_zero, List.set_cons_succ]
    refine wpAnyH_done (by kernel_rfl) ?_ _
    refine NoPanic.normal ?_
    have C0 := KEPT.out _ BL.out
    have X9 := Lib.hid (X0.out.below BL.out)
    have B9 := Lib.hid (below_next B0.out BL.out)
    obtain ⟨c0, c1, c2, c3⟩ := C0
    have x0 := X9.out.c0; have x1 := X9.out.c1
    have f0 := Blk.free X9.out 0; have f1 := Blk.free X9.out 1
    clear KEPT
    go_wp2
    exact bodyPost_ret (v := .agg #[.int .i64 E, .int .i64 P]) (by simp [results, Tryz.results96, go_sem, x0, x1]) rfl ⟨rfl, (B9.out.setCell (Nat.le_succ _) _).setCell (Nat.le_succ _) _⟩
  | true =>
    have HA := Lib.hid ha
    have gx := gx rfl
    have MN := Lib.hid (show 0 ≤ NE ∧ NE < 4294967296 ∧ 1 ≤ NP ∧ NP < 4294967296 by obtain ⟨m1, m2, m3⟩ := gx; omega)
    by_cases q : E * NP < NE * P
    · obtain ⟨rfl, rfl⟩ : NE = x ∧ NP = y := by
        unfold holdsV at hxy
        rw [if_pos ⟨rfl, q⟩] at hxy
        exact Prod.mk.inj hxy
      obtain ⟨k, hk⟩ : ∃ k, cmpI (NE * P) (E * NP) = k := ⟨_, rfl⟩
      have t1 : decide (0 < k) = true := by rw [← hk]; unfold cmpI; rw [if_neg (by omega), if_pos q]; rfl
      have KK := Lib.hid hk
      clear hxy ha hk q
      refine wp_region_noPanic ?_
      refine wp_region_held_drew (S := fun w' => w'.cell? ⟨w.heap.size, 0, none⟩ = some (.int .i64 E) ∧ w'.cell? ⟨w.heap.size, 1, none⟩ = some (.int .i64 P) ∧ w'.cell? ⟨w.heap.size, 2, none⟩ = some (.int .i64 NE) ∧ w'.cell? ⟨w.heap.size, 3, none⟩ = some (.int .i64 NP)) (by kernel_rfl) (KEPT.out _ BL.out) (fun hHeld => ?_)
      refine' takeY (i := 0) (oi := _) (v := _) ?hib0 (by kernel_rfl) (by kernel_rfl) (by kernel_rfl) (fun _ _ _ h => h) ?hwb0 ?hyb0 hHeld ?restb0
      case hib0 => (simp only [List.getElem?_toArray, List.getElem?_cons_zero]; rfl)
      case hwb0 => rfl
      case hyb0 => (intro w hSw; (try dsimp only at hSw); go_simp; try with_reducible rfl)
      try simp only [Act.put, List.setIfInBounds_toArray, List.set_cons_zero, List.set_cons_succ]
      refine wpAnyH_ready (rs := [1]) (by kernel_rfl) (by simp) ?_
      refine' AllReadyH.cons (o := _) ?hib1 (fun K hK => ?stepb1) AllReadyH.nil
      case hib1 => (simp only [List.getElem?_toArray, List.getElem?_cons_succ, List.getElem?_cons_zero]; rfl)
      go_simp
      ((with_reducible refine (hasked_any E P NE NP true _ HA.out).mono ?_); rintro e w2 ⟨rfl, hb⟩; have BL := Lib.hid (below_next BL.out hb); clear hb)
      go_wp2_with fail
      clear hHeld
      refine hK.out _ _ (KEPT.out _ BL.out) (fun hHeld => ?_)
      clear hK K
      try simp only [Act.put, List.setIfInBounds_toArray, List.set_cons_zero, List.set_cons_succ]
      refine' takeY (i := 2) (oi := _) (v := _) ?hib2 (by kernel_rfl) (by kernel_rfl) (by kernel_rfl) (fun _ _ _ h => h) ?hwb2 ?hyb2 hHeld ?restb2
      case hib2 => (simp only [List.getElem?_toArray, List.getElem?_cons_succ, List.getElem?_cons_zero]; rfl)
      case hwb2 => rfl
      case hyb2 => (intro w hSw; (try dsimp only at hSw); go_simp; try with_reducible rfl)
      try simp only [Act.put, List.setIfInBounds_toArray, List.set_cons_zero, List.set_cons_succ]
      refine' takeY (i := 3) (oi := _) (v := _) ?hib3 (by kernel_rfl) (by kernel_rfl) (by kernel_rfl) (fun _ _ _ h => h) ?hwb3 ?hyb3 hHeld ?restb3
      case hib3 => (simp only [List.getElem?_toArray, List.getElem?_cons_succ, List.getElem?_cons_zero]; rfl)
      case hwb3 => rfl
      case hyb3 => (intro w hSw; (try dsimp only at hSw); go_simp; try with_reducible rfl)
      try simp only [Act.put, List.setIfInBounds_toArray, List.set_cons_zero, List.set_cons_succ]
      refine' takeY (i := 4) (oi := _) (v := _) ?hib4 (by kernel_rfl) (by kernel_rfl) (by kernel_rfl) (fun _ _ _ h => h) ?hwb4 ?hyb4 hHeld ?restb4
      case hib4 => (simp only [List.getElem?_toArray, List.getElem?_cons_succ, List.getElem?_cons_zero]; rfl)
      case hwb4 => rfl
      case hyb4 => (intro w hSw; (try dsimp only at hSw); go_simp; try with_reducible rfl)
      try simp only [Act.put, List.setIfInBounds_toArray, List.set_cons_zero, List.set_cons_succ]
      refine' takeY (i := 6) (oi := _) (v := _) ?hib5 (by kernel_rfl) (by kernel_rfl) (by kernel_rfl) (fun _ _ _ h => h) ?hwb5 ?hyb5 hHeld ?restb5
      case hib5 => (simp only [List.getElem?_toArray, List.getElem?_cons_succ, List.getElem?_cons_zero]; rfl)
      case hwb5 => rfl
      case hyb5 => (intro w hSw; (try dsimp only at hSw); go_simp; try with_reducible rfl)
      try simp only [Act.put, List.setIfInBounds_toArray, List.set_cons_zero, List.set_cons_succ]
      refine' takeY (i := 7) (oi := _) (v := _) ?hib6 (by kernel_rfl) (by kernel_rfl) (by kernel_rfl) (fun _ _ _ h => h) ?hwb6 ?hyb6 hHeld ?restb6
      case hib6 => (simp only [List.getElem?_toArray, List.getElem?_cons_succ, List.getElem?_cons_zero]; rfl)
      case hwb6 => rfl
      case hyb6 => (intro w hSw; (try dsimp only at hSw); go_simp; try with_reducible rfl)
      try simp only [Act.put, List.setIfInBounds_toArray, List.set_cons_zero, List.set_cons_succ]
      refine wpAnyH_ready (rs := [5]) (by kernel_rfl) (by simp) ?_
      refine' AllReadyH.cons (o := _) ?hib7 (fun K hK => ?stepb7) AllReadyH.nil
      case hib7 => (simp only [List.getElem?_toArray, List.getElem?_cons_succ, List.getElem?_cons_zero]; rfl)
      go_simp
      ((with_reducible refine (qof_any NE NP _ MN.out.1 MN.out.2.1 MN.out.2.2.1 MN.out.2.2.2).mono ?_); rintro e w3 ⟨v3, rfl, hr, hb⟩; have S3 := Lib.hid hr; have BL := Lib.hid (below_next BL.out hb); clear hb; clear hr)
      go_wp2_with fail
      clear hHeld
      refine hK.out _ _ (KEPT.out _ BL.out) (fun hHeld => ?_)
      clear hK K
      try simp only [Act.put, List.setIfInBounds_toArray, List.set_cons_zero, List.set_cons_succ]
      refine wpAnyH_ready (rs := [8]) (by kernel_rfl) (by simp) ?_
      refine' AllReadyH.cons (o := _) ?hib8 (fun K hK => ?stepb8) AllReadyH.nil
      case hib8 => (simp only [List.getElem?_toArray, List.getElem?_cons_succ, List.getElem?_cons_zero]; rfl)
      go_simp
      ((with_reducible refine (qof_any E P _ MW.out.1 MW.out.2.1 MW.out.2.2.1 MW.out.2.2.2).mono ?_); rintro e w4 ⟨v4, rfl, hr, hb⟩; have S4 := Lib.hid hr; have S3 := Lib.hid (S3.out.below hb); have BL := Lib.hid (below_next BL.out hb); clear hb; clear hr)
      go_wp2_with fail
      clear hHeld
      refine hK.out _ _ (KEPT.out _ BL.out) (fun hHeld => ?_)
      clear hK K
      try simp only [Act.put, List.setIfInBounds_toArray, List.set_cons_zero, List.set_cons_succ]
      refine wpAnyH_ready (rs := [9]) (by kernel_rfl) (by simp) ?_
      refine' AllReadyH.cons (o := _) ?hib9 (fun K hK => ?stepb9) AllReadyH.nil
      case hib9 => (simp only [List.getElem?_toArray, List.getElem?_cons_succ, List.getElem?_cons_zero]; rfl)
      go_simp
      ((with_reducible refine (qcmp_any _ _ NE NP E P 0 0 1 1 _ S3.out S4.out (by omega) (by omega) k KK.out).mono ?_); rintro e w5 ⟨rfl, hb⟩; have BL := Lib.hid (below_next BL.out hb); clear hb)
      go_wp2_with fail
      clear hHeld
      refine hK.out _ _ (KEPT.out _ BL.out) (fun hHeld => ?_)
      clear hK K
      try simp only [Act.put, List.setIfInBounds_toArray, List.set_cons_zero, List.set_cons_succ]
      refine' takeY (i := 10) (oi := _) (v := _) ?hib10 (by kernel_rfl) (by kernel_rfl) (by kernel_rfl) (fun _ _ _ h => h) ?hwb10 ?hyb10 hHeld ?restb10
      case hib10 => (simp only [List.getElem?_toArray, List.getElem?_cons_succ, List.getElem?_cons_zero]; rfl)
      case hwb10 => rfl
      case hyb10 => (intro w hSw; (try dsimp only at hSw); go_simp; try with_reducible rfl)
      try simp only [Act.put, List.setIfInBounds_toArray, List.set_cons_zero, List.set_cons_succ]
      refine' takeY (i := 11) (oi := _) (v := _) ?hib11 (by kernel_rfl) (by kernel_rfl) (by kernel_rfl) (fun _ _ _ h => h) ?hwb11 ?hyb11 hHeld ?restb11
      case hib11 => (simp only [List.getElem?_toArray, List.getElem?_cons_succ, List.getElem?_cons_zero]; rfl)
      case hwb11 => rfl
      case hyb11 => (intro w hSw; (try dsimp only at hSw); go_simp; try with_reducible rfl)
      try simp only [Act.put, List.setIfInBounds_toArray, List.set_cons_zero, List.set_cons_succ]
      refine wpAnyH_done (by kernel_rfl) ?_ _
      refine NoPanic.normal ?_
      have C0 := KEPT.out _ BL.out
      have X9 := Lib.hid (X0.out.below BL.out)
      have B9 := Lib.hid (below_next B0.out BL.out)
      obtain ⟨c0, c1, c2, c3⟩ := C0
      have x0 := X9.out.c0; have x1 := X9.out.c1
      have f0 := Blk.free X9.out 0; have f1 := Blk.free X9.out 1
      clear KEPT
      go_wp2
      exact bodyPost_ret (v := .agg #[.int .i64 NE, .int .i64 NP]) (by simp [results, Tryz.results96, go_sem, x0, x1]) rfl ⟨rfl, (B9.out.setCell (Nat.le_succ _) _).setCell (Nat.le_succ _) _⟩
    · obtain ⟨rfl, rfl⟩ : E = x ∧ P = y := by
        unfold holdsV at hxy
        rw [if_neg (fun r => q r.2)] at hxy
        exact Prod.mk.inj hxy
      obtain ⟨k, hk⟩ : ∃ k, cmpI (NE * P) (E * NP) = k := ⟨_, rfl⟩
      have t1 : decide (0 < k) = false := by
        rw [← hk]; unfold cmpI
        (repeat' split) <;> first | rfl | omega
      have KK := Lib.hid hk
      clear hxy ha hk q
      refine wp_region_noPanic ?_
      refine wp_region_held_drew (S := fun w' => w'.cell? ⟨w.heap.size, 0, none⟩ = some (.int .i64 E) ∧ w'.cell? ⟨w.heap.size, 1, none⟩ = some (.int .i64 P) ∧ w'.cell? ⟨w.heap.size, 2, none⟩ = some (.int .i64 NE) ∧ w'.cell? ⟨w.heap.size, 3, none⟩ = some (.int .i64 NP)) (by kernel_rfl) (KEPT.out _ BL.out) (fun hHeld => ?_)
      refine' takeY (i := 0) (oi := _) (v := _) ?hic0 (by kernel_rfl) (by kernel_rfl) (by kernel_rfl) (fun _ _ _ h => h) ?hwc0 ?hyc0 hHeld ?restc0
      case hic0 => (simp only [List.getElem?_toArray, List.getElem?_cons_zero]; rfl)
      case hwc0 => rfl
      case hyc0 => (intro w hSw; (try dsimp only at hSw); go_simp; try with_reducible rfl)
      try simp only [Act.put, List.setIfInBounds_toArray, List.set_cons_zero, List.set_cons_succ]
      refine wpAnyH_ready (rs := [1]) (by kernel_rfl) (by simp) ?_
      refine' AllReadyH.cons (o := _) ?hic1 (fun K hK => ?stepc1) AllReadyH.nil
      case hic1 => (simp only [List.getElem?_toArray, List.getElem?_cons_succ, List.getElem?_cons_zero]; rfl)
      go_simp
      ((with_reducible refine (hasked_any E P NE NP true _ HA.out).mono ?_); rintro e w2 ⟨rfl, hb⟩; have BL := Lib.hid (below_next BL.out hb); clear hb)
      go_wp2_with fail
      clear hHeld
      refine hK.out _ _ (KEPT.out _ BL.out) (fun hHeld => ?_)
      clear hK K
      try simp only [Act.put, List.setIfInBounds_toArray, List.set_cons_zero, List.set_cons_succ]
      refine' takeY (i := 2) (oi := _) (v := _) ?hic2 (by kernel_rfl) (by kernel_rfl) (by kernel_rfl) (fun _ _ _ h => h) ?hwc2 ?hyc2 hHeld ?restc2
      case hic2 => (simp only [List.getElem?_toArray, List.getElem?_cons_succ, List.getElem?_cons_zero]; rfl)
      case hwc2 => rfl
      case hyc2 => (intro w hSw; (try dsimp only at hSw); go_simp; try with_reducible rfl)
      try simp only [Act.put, List.setIfInBounds_toArray, List.set_cons_zero, List.set_cons_succ]
      refine' takeY (i := 3) (oi := _) (v := _) ?hic3 (by kernel_rfl) (by kernel_rfl) (by kernel_rfl) (fun _ _ _ h => h) ?hwc3 ?hyc3 hHeld ?restc3
      case hic3 => (simp only [List.getElem?_toArray, List.getElem?_cons_succ, List.getElem?_cons_zero]; rfl)
      case hwc3 => rfl
      case hyc3 => (intro w hSw; (try dsimp only at hSw); go_simp; try with_reducible rfl)
      try simp only [Act.put, List.setIfInBounds_toArray, List.set_cons_zero, List.set_cons_succ]
      refine' takeY (i := 4) (oi := _) (v := _) ?hic4 (by kernel_rfl) (by kernel_rfl) (by kernel_rfl) (fun _ _ _ h => h) ?hwc4 ?hyc4 hHeld ?restc4
      case hic4 => (simp only [List.getElem?_toArray, List.getElem?_cons_succ, List.getElem?_cons_zero]; rfl)
      case hwc4 => rfl
      case hyc4 => (intro w hSw; (try dsimp only at hSw); go_simp; try with_reducible rfl)
      try simp only [Act.put, List.setIfInBounds_toArray, List.set_cons_zero, List.set_cons_succ]
      refine' takeY (i := 6) (oi := _) (v := _) ?hic5 (by kernel_rfl) (by kernel_rfl) (by kernel_rfl) (fun _ _ _ h => h) ?hwc5 ?hyc5 hHeld ?restc5
      case hic5 => (simp only [List.getElem?_toArray, List.getElem?_cons_succ, List.getElem?_cons_zero]; rfl)
      case hwc5 => rfl
      case hyc5 => (intro w hSw; (try dsimp only at hSw); go_simp; try with_reducible rfl)
      try simp only [Act.put, List.setIfInBounds_toArray, List.set_cons_zero, List.set_cons_succ]
      refine' takeY (i := 7) (oi := _) (v := _) ?hic6 (by kernel_rfl) (by kernel_rfl) (by kernel_rfl) (fun _ _ _ h => h) ?hwc6 ?hyc6 hHeld ?restc6
      case hic6 => (simp only [List.getElem?_toArray, List.getElem?_cons_succ, List.getElem?_cons_zero]; rfl)
      case hwc6 => rfl
      case hyc6 => (intro w hSw; (try dsimp only at hSw); go_simp; try with_reducible rfl)
      try simp only [Act.put, List.setIfInBounds_toArray, List.set_cons_zero, List.set_cons_succ]
      refine wpAnyH_ready (rs := [5]) (by kernel_rfl) (by simp) ?_
      refine' AllReadyH.cons (o := _) ?hic7 (fun K hK => ?stepc7) AllReadyH.nil
      case hic7 => (simp only [List.getElem?_toArray, List.getElem?_cons_succ, List.getElem?_cons_zero]; rfl)
      go_simp
      ((with_reducible refine (qof_any NE NP _ MN.out.1 MN.out.2.1 MN.out.2.2.1 MN.out.2.2.2).mono ?_); rintro e w3 ⟨v3, rfl, hr, hb⟩; have S3 := Lib.hid hr; have BL := Lib.hid (below_next BL.out hb); clear hb; clear hr)
      go_wp2_with fail
      clear hHeld
      refine hK.out _ _ (KEPT.out _ BL.out) (fun hHeld => ?_)
      clear hK K
      try simp only [Act.put, List.setIfInBounds_toArray, List.set_cons_zero, List.set_cons_succ]
      refine wpAnyH_ready (rs := [8]) (by kernel_rfl) (by simp) ?_
      refine' AllReadyH.cons (o := _) ?hic8 (fun K hK => ?stepc8) AllReadyH.nil
      case hic8 => (simp only [List.getElem?_toArray, List.getElem?_cons_succ, List.getElem?_cons_zero]; rfl)
      go_simp
      ((with_reducible refine (qof_any E P _ MW.out.1 MW.out.2.1 MW.out.2.2.1 MW.out.2.2.2).mono ?_); rintro e w4 ⟨v4, rfl, hr, hb⟩; have S4 := Lib.hid hr; have S3 := Lib.hid (S3.out.below hb); have BL := Lib.hid (below_next BL.out hb); clear hb; clear hr)
      go_wp2_with fail
      clear hHeld
      refine hK.out _ _ (KEPT.out _ BL.out) (fun hHeld => ?_)
      clear hK K
      try simp only [Act.put, List.setIfInBounds_toArray, List.set_cons_zero, List.set_cons_succ]
      refine wpAnyH_ready (rs := [9]) (by kernel_rfl) (by simp) ?_
      refine' AllReadyH.cons (o := _) ?hic9 (fun K hK => ?stepc9) AllReadyH.nil
      case hic9 => (simp only [List.getElem?_toArray, List.getElem?_cons_succ, List.getElem?_cons_zero]; rfl)
      go_simp
      ((with_reducible refine (qcmp_any _ _ NE NP E P 0 0 1 1 _ S3.out S4.out (by omega) (by omega) k KK.out).mono ?_); rintro e w5 ⟨rfl, hb⟩; have BL := Lib.hid (below_next BL.out hb); clear hb)
      go_wp2_with fail
      clear hHeld
      refine hK.out _ _ (KEPT.out _ BL.out) (fun hHeld => ?_)
      clear hK K
      try simp only [Act.put, List.setIfInBounds_toArray, List.set_cons_zero, List.set_cons_succ]
      refine' takeY (i := 10) (oi := _) (v := _) ?hic10 (by kernel_rfl) (by kernel_rfl) (by kernel_rfl) (fun _ _ _ h => h) ?hwc10 ?hyc10 hHeld ?restc10
      case hic10 => (simp only [List.getElem?_toArray, List.getElem?_cons_succ, List.getElem?_cons_zero]; rfl)
      case hwc10 => rfl
      case hyc10 => (intro w hSw; (try dsimp only at hSw); go_simp; try with_reducible rfl)
      try simp only [Act.put, List.setIfInBounds_toArray, List.set_cons_zero, List.set_cons_succ]
      refine' takeY (i := 11) (oi := _) (v := _) ?hic11 (by kernel_rfl) (by kernel_rfl) (by kernel_rfl) (fun _ _ _ h => h) ?hwc11 ?hyc11 hHeld ?restc11
      case hic11 => (simp only [List.getElem?_toArray, List.getElem?_cons_succ, List.getElem?_cons_zero]; rfl)
      case hwc11 => rfl
      case hyc11 => (intro w hSw; (try dsimp only at hSw); go_simp; try with_reducible rfl)
      try simp only [Act.put, List.setIfInBounds_toArray, List.set_cons_zero, List.set_cons_succ]
      refine wpAnyH_done (by kernel_rfl) ?_ _
      refine NoPanic.normal ?_
      have C0 := KEPT.out _ BL.out
      have X9 := Lib.hid (X0.out.below BL.out)
      have B9 := Lib.hid (below_next B0.out BL.out)
      obtain ⟨c0, c1, c2, c3⟩ := C0
      have x0 := X9.out.c0; have x1 := X9.out.c1
      have f0 := Blk.free X9.out 0; have f1 := Blk.free X9.out 1
      clear KEPT
      go_wp2
      exact bodyPost_ret (v := .agg #[.int .i64 E, .int .i64 P]) (by simp [results, Tryz.results96, go_sem, x0, x1]) rfl ⟨rfl, (B9.out.setCell (Nat.le_succ _) _).setCell (Nat.le_succ _) _⟩
end Go.Proofs.YtbonilmlfelmpaaGreat
namespace Go.Proofs.YtbonilmlfelmpaaGreat
open Go.RowKit
variable {F : Fence} {n : Nat} {P : Program}

/-- called with what is bound and a body, the iterator gives the body all of a list of the kind S, and nothing else of it is to be seen -/
def GivesAll {α : Type} (F : Fence) (n : Nat) (P : Program) (g : Nat) (fb : Array Value) (encs : α → Array Value) (S : List α → Prop) (N : Nat) (w : World) : Prop :=
  ∀ (l : Nat) (J : List α → World → Prop) (W : World), Below w.heap.size w W → AbidesFrom W.heap.size J →
    (∀ pre x W1, J pre W1 → pre.length < N → YieldAt F (n - 1) P l (encs x) W1 fun e W' => e = .returned (.bool true) ∧ J (pre ++ [x]) W' ∧ KeepsWalks W1 W') →
    J [] W →
    CallsIn F n P g (fb ++ #[.func (.yield l) #[] #[]]) W fun e W' => (∃ v, e = .returned v) ∧ ∃ xs, S xs ∧ J xs W'
/-- what a round leaves: it goes on -/
def roundPost {α : Type} (I : List α → World → Prop) (xs : List α) (W : World) : Exit → Act → World → Prop
  | .normal, _, W' => KeepsOthers W W' ∧ I xs W'
  | _, _, _ => False
theorem rangeFunc_bound {α : Type} {g : Operand} {ps : Array Tmp} {assign body : Code} {Q : Exit → Act → World → Prop} {a : Act} {w : World}
    (hro : F.round = none) (h1 : 1 ≤ n) {gf : Nat} {fb : Array Value} (hg : a.eval g = .func (.func gf) fb #[]) (hFg : F.fn gf) (eg : ∀ args w, (callFunc gf args).run P w = .ok (.enter gf args) w)
    {encs : α → Array Value} {S : List α → Prop} {N : Nat} {w0 : World} (hseq : GivesAll F (n - 1) P gf fb encs S N w0) (hb0 : Below w0.heap.size w0 w) (hps : ∀ x, (encs x).size = ps.size)
    (I : List α → World → Prop) (hI : OwnFrom w.heap.size I) (h0 : I [] w) (a₁ : α → Nat → Act) (o : α → Obj)
    (hassign : ∀ (l : Nat) (x : α) (W : World) (K : Act → World → Prop), K (a₁ x W.heap.size) (W.alloc (o x)) →
      assign.wpIn (F.inRound l) (n - 1 - 1) P (Exit.then K (fun _ _ _ => False)) { tmps := (ps.zip (encs x)).foldl (fun t (p, v) => t.setIfInBounds p v) a.tmps, defers := [] } W)
    (hbody : ∀ (l : Nat) (pre : List α) (x : α) (b : Nat) (W : World), I pre W → pre.length < N → w.heap.size ≤ b → W.heap[b]? = some (o x) → body.wpIn (F.inRound l) (n - 1 - 1) P (roundPost I (pre ++ [x]) W) (a₁ x b) W)
    (hdone : ∀ (D : Nat) (xs : List α) (W : World), w.heap.size ≤ D → S xs → I xs W → W.heap[D]? = some (.deferred (some [])) → Q .normal { a with defers := { target := .collected D, args := #[] } :: a.defers } W) :
    (Code.rangeFunc g ps assign body).wpIn F n P Q a w := by
  refine wpIn_rangeFunc fun fn hfn => ?_
  rw [hro]
  -- the loop's record, in the states that it takes
  let rec' : LoopState → Loop := fun st => { state := st, pending := none, fn, tmps := a.tmps, params := ps, assign, body, defers := w.heap.size }
  have hrec : ∀ st, rec' st = { state := st, pending := none, fn, tmps := a.tmps, params := ps, assign, body, defers := w.heap.size } := fun _ => rfl
  let W1 := (w.alloc (.deferred (some []))).alloc (.loop (rec' .ready))
  have hsz : W1.heap.size = w.heap.size + 1 + 1 := by simp [W1]
  have hL1 : W1.heap[w.heap.size + 1]? = some (.loop (rec' .ready)) := by
    have := World.alloc_heap_new (w.alloc (.deferred (some []))) (.loop (rec' .ready))
    rwa [World.size_alloc] at this
  have hK1 : W1.heap[w.heap.size]? = some (.deferred (some [])) := (Below.heap_alloc _ _ _ (by simp)).trans (World.alloc_heap_new w _)
  have hI1 : I [] W1 := hI.alloc _ (hI.alloc _ h0)
  have hb1 : Below w0.heap.size w0 W1 := hb0.trans ((((Below.refl _ w).alloc (Nat.le_refl _) _).alloc (by simp) _).mono hb0.size)
  refine ⟨w.heap.size + 1, [{ target := .collected w.heap.size, args := #[] }], W1, { target := .fn (.func gf) #[], args := fb ++ #[.func (.yield (w.heap.size + 1)) #[] #[]] }, W1, gf, fb ++ #[.func (.yield (w.heap.size + 1)) #[] #[]], W1, run_enterLoop_outer _ _ _ _ _, ?_, ?_, ?_, fun _ => h1, ?_⟩
  · simp only [resolve, hg]
    simp [go_sem]
  · intro f' hf'
    simp [Target.leads] at hf'
    subst hf'
    exact hFg
  · simp [invoke, go_sem, eg]
  · have far : ∀ {A : World} {row : Option Nat}, (∀ r, row = some r → W1.heap.size ≤ r ∧ ∃ o : Obj, A.heap[r]? = some o ∧ o.isWalk = true) → (∀ r, row = some r → w.heap.size ≤ r ∧ ∃ o : Obj, A.heap[r]? = some o ∧ o.isCells = false) := fun hr r e => by
      obtain ⟨hB, o, ho, hw⟩ := hr r e
      exact ⟨by omega, o, ho, Obj.not_cells_of_walk hw⟩
    refine (hseq (w.heap.size + 1) (fun pre W => I pre W ∧ W.heap[w.heap.size + 1]? = some (.loop (rec' .ready)) ∧ W.heap[w.heap.size]? = some (.deferred (some []))) W1 hb1 ?_ ?_ ⟨hI1, hL1, hK1⟩).mono ?_
    · rintro s A B row ⟨q1, q2, q3⟩ hg' hr
      exact ⟨hI s A B row q1 hg' (far hr), (grownBy_keeps hg' (fun r e => (hr r e).2) q2 rfl).trans q2, (grownBy_keeps hg' (fun r e => (hr r e).2) q3 rfl).trans q3⟩
    · rintro pre x W ⟨hi, hl, hk⟩ hlen
      have hlt : w.heap.size + 1 < W.heap.size := (Array.getElem?_eq_some_iff.1 hl).1
      have hy := run_yield (P := P) (args := encs x) hl (hps x)
      have hla : (W.alloc (o x)).heap[w.heap.size + 1]? = some (.loop (rec' .ready)) := (Below.heap_alloc _ _ _ hlt).trans hl
      have hka : (W.alloc (o x)).heap[w.heap.size]? = some (.deferred (some [])) := (Below.heap_alloc _ _ _ (by omega)).trans hk
      have hta : w.heap.size + 1 < (W.alloc (o x)).heap.size := by simp; omega
      refine ⟨fn, _, assign, body, hy, roundIn_of_wpIn hfn (hassign _ x W _ ⟨_, run_beginRound hla rfl, ?_⟩)⟩
      let W2 := (W.alloc (o x)).putObj (w.heap.size + 1) (.loop { rec' .ready with state := .busy })
      have hl2 : W2.heap[w.heap.size + 1]? = some (.loop { rec' .ready with state := .busy }) := World.putObj_heap_same hta
      have hk2 : W2.heap[w.heap.size]? = some (.deferred (some [])) := (World.putObj_heap_other (by omega)).trans hka
      have ho2 : W2.heap[W.heap.size]? = some (o x) := (World.putObj_heap_other (by omega)).trans (World.alloc_heap_new _ _)
      have hw2 : KeepsWalks W W2 := KeepsWalks.trans ⟨by simp, fun k q hk _ => (Below.heap_alloc _ _ _ (Array.getElem?_eq_some_iff.1 hk).1).trans hk⟩ (KeepsWalks.putObj _ hla rfl)
      refine wpIn_mono (hbody _ pre x W.heap.size _ (hI.putObj _ (hI.alloc _ hi) (by omega) hla rfl) hlen (by omega) ho2) ?_
      rintro e a3 W3 hp
      cases e with
      | normal =>
        obtain ⟨hk3, hi3⟩ := hp
        have hl3 := hk3.same _ _ hl2 rfl
        exact ⟨_, _, run_endRound (P := P) none hl3, rfl, ⟨hI.putObj _ hi3 (by omega) hl3 rfl, World.putObj_heap_same (Array.getElem?_eq_some_iff.1 hl3).1, (World.putObj_heap_other (by omega)).trans (hk3.same _ _ hk2 rfl)⟩, (hw2.trans hk3.walks).trans (KeepsWalks.putObj _ hl3 rfl)⟩
      | ret => exact hp.elim
      | exit id => exact hp.elim
      | goto t => exact hp.elim
      | panic ch => exact hp.elim
      | outgrown => exact hp.elim
    · rintro e W2 ⟨⟨v, rfl⟩, xs, hS, hi, hl, hk⟩
      exact ⟨none, _, run_endLoop (P := P) hl (by simp [hrec]), hdone _ xs _ (Nat.le_refl _) hS (hI.putObj _ hi (by omega) hl rfl) ((World.putObj_heap_other (by omega)).trans hk)⟩
end Go.Proofs.YtbonilmlfelmpaaGreat
namespace Go.Proofs.YtbonilmlfelmpaaGreat
open Go.RowKit

/-- what a holder holds, as the map's element tells it -/
def shareOf (v : Value) : Int × Int :=
  match v with
  | .agg cs => match cs.toList with
    | [.int _ E, .int _ P, .int _ NE, .int _ NP] => holdsV ⟨0, E, P, NE, NP, askB NE NP⟩
    | _ => (0, 1)
  | _ => (0, 1)
theorem share_is {N D : Int} {hs : List Hd} (g : GoodL N D hs) {x : Hd} (h : x ∈ hs) : shareOf x.mv = holdsV x := by
  have := asked_is g h
  obtain ⟨id, E, P, NE, NP, asked⟩ := x
  simp only at this
  show holdsV ⟨0, E, P, NE, NP, askB NE NP⟩ = _
  rw [this]
  rfl
theorem shares_all {N D : Int} {hs : List Hd} (g : GoodL N D hs) {es : List MapEntry} (q : es.map kvE = hs.map Hd.kv) : es.map (fun e => shareOf e.val) = wsL hs := by
  have h1 : es.map (fun e => shareOf e.val) = (es.map kvE).map (fun p => shareOf p.2) := by rw [List.map_map]; rfl
  rw [h1, q, List.map_map]
  unfold wsL
  exact List.map_congr_left fun x hx => share_is g hx
theorem holder_of {hs : List Hd} {es : List MapEntry} (q : es.map kvE = hs.map Hd.kv) {e : MapEntry} (he : e ∈ es) : ∃ x ∈ hs, e.val = x.mv := by
  have : kvE e ∈ hs.map Hd.kv := by rw [← q]; exact List.mem_map_of_mem he
  obtain ⟨x, hx, e1⟩ := List.mem_map.mp this
  exact ⟨x, hx, (Prod.mk.inj e1).2.symm⟩
theorem left_list (es : Array MapEntry) (seen : Array Nat) : (leftOf es seen).toList = es.toList.filter (fun e => !seen.contains e.born) := by simp [leftOf]
theorem left_perm (l : List MapEntry) (nd : (l.map (·.born)).Nodup) (seen : Array Nat) (e : MapEntry) (he : e ∈ l) (h : seen.contains e.born = false) :
    (l.filter (fun x => !seen.contains x.born)).Perm (e :: l.filter (fun x => !(seen.push e.born).contains x.born)) := by
  induction l with
  | nil => cases he
  | cons x l ih =>
    rw [List.map_cons, List.nodup_cons] at nd
    obtain ⟨n1, n2⟩ := nd
    have q : ∀ y : MapEntry, y.born ≠ e.born → (!(seen.push e.born).contains y.born) = !seen.contains y.born := fun y hy => by
      congr 1
      rw [Bool.eq_iff_iff]
      simp [hy]
    rcases List.mem_cons.mp he with rfl | hm
    · rw [List.filter_cons_of_pos (by simp at h ⊢; exact h), List.filter_cons_of_neg (by simp)]
      refine List.Perm.cons _ (List.Perm.of_eq (List.filter_congr fun y hy => (q y (fun e2 => n1 (e2 ▸ List.mem_map_of_mem hy))).symm))
    · have hne : x.born ≠ e.born := fun e2 => n1 (e2 ▸ List.mem_map_of_mem hm)
      have := ih n2 hm
      by_cases hc : seen.contains x.born
      · rw [List.filter_cons_of_neg (by rw [hc]; decide), List.filter_cons_of_neg (by rw [q x hne, hc]; decide)]
        exact this
      · rw [List.filter_cons_of_pos (by simpa using hc), List.filter_cons_of_pos (by rw [q x hne]; simpa using hc)]
        exact (this.cons x).trans (List.Perm.swap e x _)
theorem grown_of_below {w w' : World} (h : Below w.heap.size w w') : w.grownBy w' none := ⟨h.os, h.tape, h.output, h.size, fun i hi _ => h.block i hi⟩
theorem walks_grown {w w' : World} (h : w.grownBy w' none) : KeepsWalks w w' := ⟨h.size, fun k o hk _ => (h.block k (Array.getElem?_eq_some_iff.1 hk).1 (by simp)).trans hk⟩

section
attribute [local go_sem] Oper.semAt_some
set_option maxRecDepth 100000 in
set_option maxHeartbeats 2000000 in
theorem hshares_in (n : Nat) (hn : 1 ≤ n) {w : World} {g m : Nat} {A : Nat → Prop} {an : Option Addr} {ln cn : Nat} {ad : Option Addr} {ld cd : Nat} {N D : Int} {hs : List Hd} (h : LH w g m A an ln cn ad ld cd N D hs) (gd : GoodL N D hs) :
    GivesAll Fence.wide n Tryz.prog 88 #[.pointer (some ⟨g, 0, none⟩)] (fun p : Int × Int => #[.agg #[.int .i64 p.1, .int .i64 p.2]]) (fun ps => ps.Perm (wsL hs)) hs.length w := by
  intro l J W hW hJ hY h0
  have H := Lib.hid (h.below hW)
  clear h
  obtain ⟨es, clock, hm1, hm2, hm3, hm4⟩ := H.out.map
  have c2 := H.out.blk.cell 2
  simp at c2
  have hL := H.out.map.lt
  have hrange := run_range_map (P := Tryz.prog) W 98 _ _ m es clock Tryz.underlying98 hm1
  have GD := Lib.hid gd
  have KV := Lib.hid hm2
  have BO := Lib.hid hm3
  have ND := Lib.hid hm4
  have SZ := Lib.hid (show es.toList.length = hs.length by have := congrArg List.length hm2; rw [List.length_map, List.length_map] at this; exact this)
  clear gd hm2 hm3 hm4
  refine callsIn_of_wp Tryz.func88 rfl trivial ?_ rfl
  simp only [Tryz.ntmps88, List.size_toArray, List.length_cons, List.length_nil, Nat.reduceAdd, Nat.reduceSub, Array.replicate_succ, Array.replicate_zero, List.push_toArray, List.append_toArray, List.nil_append, List.cons_append]
  gi_wp2
  gi_loopw [5] (fun s wr => ∃ (seen : Array Nat) (c0 : Nat) (pre : List (Int × Int)), wr.heap[W.heap.size]? = some (.mapIter (some m) clock seen c0) ∧ clock ≤ c0 ∧ wr.heap[m]? = some (.map es clock) ∧ J pre wr ∧ (pre ++ (leftOf es seen).toList.map (fun e => shareOf e.val)).Perm (wsL hs) ∧ seen.size = pre.length)
    (fun _ wr => hs.length - (wr.iterSeen W.heap.size).size)
  case atStart =>
    refine ⟨#[], clock, [], heap_alloc_new _ _, Nat.le_refl _, (heap_alloc_old _ _ hL).trans hm1, hJ _ _ _ none h0 (World.grownBy_alloc W _ none) (by simp), ?_, rfl⟩
    rw [left_list, ← shares_all GD.out KV.out, List.filter_eq_self.mpr (by simp)]
    exact List.Perm.refl _
  case round =>
    obtain ⟨seen, c0, pre, h1, h2, h3, hJs, hp, hsz⟩ := hrel
    rcases run_next_at (P := Tryz.prog) wr 0 W.heap.size m clock c0 seen es clock h1 h3 BO.out h2 with ⟨hz, hrun⟩ | ⟨e, he, w1, hal, hrun⟩
    · have PP := Lib.hid (show pre.Perm (wsL hs) by
        have : (leftOf es seen).toList = [] := by rw [Array.eq_empty_of_size_eq_zero hz]
        rw [this] at hp
        simpa using hp)
      have JJ := Lib.hid hJs
      clear hz hp hJs
      gi_wp2
      go_end0
      exact ⟨⟨_, rfl⟩, _, PP.out, JJ.out⟩
    · rw [left_list] at he
      obtain ⟨he1, he2⟩ := List.mem_filter.mp he
      have he2 : seen.contains e.born = false := by simpa using he2
      obtain ⟨x, hx, hev⟩ := holder_of KV.out he1
      obtain ⟨W1, hW1⟩ : ∃ W1, ChangeMaps.setBlock w1 W.heap.size (.mapIter (some m) clock (seen.push e.born) clock) = W1 := ⟨_, rfl⟩
      rw [hW1] at hrun
      have a1 : w1.heap[W.heap.size]? = some (.mapIter (some m) clock seen c0) := by rcases hal with rfl | rfl <;> exact h1
      have g1 : wr.grownBy W1 (some W.heap.size) := by
        rw [← hW1]
        have : wr.heap = w1.heap ∧ wr.os = w1.os ∧ wr.tape = w1.tape ∧ wr.output = w1.output := by rcases hal with rfl | rfl <;> exact ⟨rfl, rfl, rfl, rfl⟩
        obtain ⟨q1, q2, q3, q4⟩ := this
        exact ⟨q2.symm, q3.symm, q4.symm, by rw [q1]; simp [ChangeMaps.setBlock], fun k _ hk => by
          have hk' : W.heap.size ≠ k := fun e2 => hk (by rw [e2])
          rw [q1]
          simp [ChangeMaps.setBlock, Array.getElem?_setIfInBounds_ne hk']⟩
      have b1 : W1.heap[W.heap.size]? = some (.mapIter (some m) clock (seen.push e.born) clock) := by
        rw [← hW1]
        simp only [ChangeMaps.setBlock]
        exact (by rw [Array.getElem?_setIfInBounds_self_of_lt (Array.getElem?_eq_some_iff.1 a1).1])
      have b2 : W1.heap[m]? = some (.map es clock) := (g1.block m (Array.getElem?_eq_some_iff.1 h3).1 (fun e2 => by cases e2; omega)).trans h3
      have hen := run_entry_at (P := Tryz.prog) W1 W.heap.size m clock seen es clock e b1 b2 he1 ND.out
      have J1 := Lib.hid (hJ _ _ _ (some W.heap.size) hJs g1 (fun k e2 => by cases e2; exact ⟨Nat.le_refl _, _, h1, rfl⟩))
      have hlp := left_perm es.toList ND.out seen e he1 he2
      have hsh := share_is GD.out hx
      have PP := Lib.hid (show ((pre ++ [holdsV x]) ++ (leftOf es (seen.push e.born)).toList.map (fun e => shareOf e.val)).Perm (wsL hs) by
        refine List.Perm.trans ?_ hp
        rw [left_list, left_list, List.append_assoc]
        refine List.Perm.append_left pre ?_
        have := (hlp.map (fun e => shareOf e.val)).symm
        rw [List.map_cons, hev, hsh] at this
        exact this)
      have PL := Lib.hid (show pre.length < hs.length by
        have := PP.out.length_eq
        rw [List.length_append, List.length_append] at this
        unfold wsL at this
        simp at this
        omega)
      have M1 := Lib.hid b1
      have M2 := Lib.hid b2
      have S1 := Lib.hid hsz
      have X := Lib.hid hx
      obtain ⟨⟨sx, sy⟩, hxy⟩ : ∃ p : Int × Int, holdsV x = p := ⟨_, rfl⟩
      rw [hxy] at PP
      have XY := Lib.hid hxy
      have MS := Lib.hid (show (wr.iterSeen W.heap.size).size = pre.length by unfold World.iterSeen; rw [h1]; exact hsz)
      rw [hev] at hen hrun
      unfold Hd.mv at hen hrun
      clear hW1 a1 g1 b1 b2 hlp hsh hp hJs he he1 he2 hal h1 h2 h3 hsz hx hxy
      gi_wp2_with (refine ⟨trivial, ?_⟩; gi_at_call 96; refine (callsIn_wide.2 (hshare_any x (GD.out.each x X.out) (asked_is GD.out X.out) sx sy XY.out _)).mono ?_; rintro e2 w2 ⟨rfl, hb⟩; have B2 := Lib.hid hb; clear hb)
      have hbx := Lib.hid (wbox W1 (.cells #[.int .i64 x.E, .int .i64 x.P, .int .i64 x.NE, .int .i64 x.NP] 103))
      have B3 := Lib.hid (below_next hbx.out B2.out)
      have J2 := Lib.hid (hJ _ _ _ none J1.out (grown_of_below B3.out) (by simp))
      obtain ⟨fn, tmps, assign, body, hy, hRR⟩ := hY pre (sx, sy) w2 J2.out PL.out
      clear hen hrun
      gi_wp2
      refine hRR.mono ?_
      rintro e3 W3 ⟨rfl, hJ3, hk3⟩
      have k1 := hk3.same _ _ ((B3.out.block _ (Array.getElem?_eq_some_iff.1 M1.out).1).trans M1.out) rfl
      have k2 := hk3.same _ _ ((B3.out.block _ (Array.getElem?_eq_some_iff.1 M2.out).1).trans M2.out) rfl
      have K1 := Lib.hid k1
      have K2 := Lib.hid k2
      have J3 := Lib.hid hJ3
      clear k1 k2 hJ3 hk3 hy hRR
      gi_wp2
      go_roundw
      case rel => exact ⟨seen.push e.born, clock, pre ++ [(sx, sy)], K1.out, Nat.le_refl _, K2.out, J3.out, PP.out, by simp [S1.out]⟩
      case measure =>
        have a := MS.out
        have b := PL.out
        have c : (W3.iterSeen W.heap.size).size = seen.size + 1 := by unfold World.iterSeen; rw [K1.out]; simp
        have d := S1.out
        omega
end
end Go.Proofs.YtbonilmlfelmpaaGreat
namespace Go.Proofs.YtbonilmlfelmpaaGreat
open Go.RowKit Go.Shelf

/-- append of one weight to what is owned, in a round of a loop over a function -/
theorem app_weightIn {F : Fence} {n : Nat} {w : World} {ops : Array Oper} {rest : List Oper} {o : Oper} {act : Act} {Q : Exit → Act → World → Prop} (hgd : o.guard = none) (s x : Operand)
    (ho : o.op = .call { callee := .builtin .append, args := #[s, x], argTypes := #[116, 116] }) (base : Nat)
    (v : Value) (ns : List (Int × Int)) (hs : act.eval s = v) (hown : w.ownsRow base 46 2 v ns.length (cellsW ns)) (g : Nat) (p : Int × Int) (hx : act.eval x = .slice (some ⟨g, 0, none⟩) 1 1)
    (hg : w.heap[g]? = some (.cells #[.int .i64 p.1, .int .i64 p.2] 46 (0, 0))) (hb : base ≤ w.heap.size) (hsm : ns.length ≤ 100000)
    (h : ∀ v' w', w'.ownsRow base 46 2 v' (ns ++ [p]).length (cellsW (ns ++ [p])) → w.grownBy w' v.ownBlock → (v'.ownBlock = v.ownBlock ∨ v'.ownBlock = some w.heap.size) → wpListIn F n Tryz.prog ops Q rest (act.put o.dst v') w') : wpListIn F n Tryz.prog ops Q (o :: rest) act w := by
  obtain ⟨i0, hi, hz0, hz1, hz2⟩ := info_parts Tryz.infoW
  refine wpListIn_append_own_at _ hgd s x _ ho base _ i0 _ 2 16 Tryz.underlying116 hi hz0 hz1 hz2 rfl (by decide) v _ _ hs hown ⟨g, 0, none⟩ 1 1 [.int .i64 p.1, .int .i64 p.2] hx rfl (World.news_of_block (cs := #[.int .i64 p.1, .int .i64 p.2]) (t := 46) (fr := (0, 0)) hg) (by simp [Value.oneCell']) (by unfold maxLen; omega) (by omega) hb ?_
  intro v2 w2 ho2 hg2 _ hat
  refine h v2 w2 ?_ hg2 hat
  rw [List.length_append, cellsW_append]
  exact ho2
/-- a row written: what is no cells is as it was -/
theorem others_row {w w' : World} {base size n : Nat} {e : TypeId} {v : Value} {xs : List Value} (h : w.ownsRow base e size v n xs) (hg : w.grownBy w' v.ownBlock) : KeepsOthers w w' := by
  refine ⟨hg.size, fun k o hk hc => (hg.block k (Array.getElem?_eq_some_iff.1 hk).1 (fun e1 => ?_)).trans hk⟩
  rcases h.2 with q | ⟨g', cap, cur, hv, hbg, hcell, _⟩
  · rw [q.1] at e1; cases e1
  · subst hv
    cases e1
    rw [hcell] at hk
    cases hk
    cases hc
theorem others_alloc (w : World) (o : Obj) : KeepsOthers w (w.alloc o) := ⟨by simp, fun k q hk _ => (Below.heap_alloc _ _ _ (Array.getElem?_eq_some_iff.1 hk).1).trans hk⟩
theorem fit_may {p : Int × Int} (h : MayBe p.1 p.2) : FitW p := by
  obtain ⟨h1, h2, h3⟩ := h
  exact ⟨by omega, by omega, by omega, by omega⟩
theorem box_grown {A w2 : World} {T : TypeId} {B : Nat} {cs : Array Value} {v v0 : Value} (h : Blk A T B cs) (hg : A.grownBy w2 v.ownBlock) (ob : ∀ k, v.ownBlock = some k → v0.ownBlock = some k ∨ B + 2 ≤ k) (lt : ∀ k, v0.ownBlock = some k → k < B) : Blk w2 T B cs :=
  (hg.block _ h.lt (fun e => by
    rcases ob _ e.symm with q | q
    · have := lt _ q; omega
    · omega)).trans h
theorem keeps_high {F : Nat → Prop} {w a b : World} (h : Keeps F w a) (k : Below w.heap.size a b) : Keeps F w b :=
  ⟨k.os.trans h.os, k.tape.trans h.tape, k.output.trans h.output, Nat.le_trans h.size k.size, fun x hx hf => (k.block x hx).trans (h.block x hx hf)⟩
theorem rat_high {a b : World} {Dd L : Nat} {v : Value} {n d : Int} {ds : Option (List Deferred)} (h : Rat a 0 L v n d) (hd : a.heap[Dd]? = some (.deferred ds)) (k : Below Dd a b) (hs : ∀ x, Dd < x → x < a.heap.size → b.heap[x]? = a.heap[x]?) : Rat b 0 L v n d := by
  refine NumsKept.of (G := fun x => x = Dd) ⟨k.os, k.tape, k.output, k.size, fun x hx hf => ?_⟩ (fun x hx j y hc => ?_) 0 L v n d h
  · rcases Nat.lt_or_ge x Dd with q | q
    · exact k.block x q
    · exact hs x (by omega) hx
  · subst hx
    simp [World.cell?, hd] at hc
/-- what is carried from round to round: the row so far, in its box; the answer's box -/
structure Row12 (w : World) (v0 : Value) (B : Nat) (ps : List (Int × Int)) (W : World) : Prop where
  row : ∃ v, Blk W 116 B #[v] ∧ W.ownsRow 0 46 2 v ps.length (cellsW ps) ∧ (∀ k, v.ownBlock = some k → v0.ownBlock = some k ∨ B + 2 ≤ k)
  box : Box W 35 (B + 1) (.slice none 0 0) (.slice none 0 0)
  kept : Keeps (fun k => v0.ownBlock = some k) w W
theorem Row12.grown {w : World} {v0 : Value} {ps : List (Int × Int)} {A B : World} {row : Option Nat} (h : Row12 w v0 w.heap.size ps A) (hg : A.grownBy B row) (hr : ∀ r, row = some r → w.heap.size + 2 ≤ r ∧ ∃ o : Obj, A.heap[r]? = some o ∧ o.isCells = false) : Row12 w v0 w.heap.size ps B := by
  obtain ⟨v, h1, h2, h3⟩ := h.row
  have k : Keeps (fun k => row = some k) A B := (Keeps.refl _ A).grown hg (fun k e => .inl e)
  have ne : ∀ {T : TypeId} {g : Nat} {cs : Array Value}, Blk A T g cs → ¬ row = some g := fun hb e => by
    obtain ⟨_, o, ho, hc⟩ := hr _ e
    rw [show A.heap[_]? = _ from hb] at ho
    cases ho
    cases hc
  refine ⟨⟨v, h1.keeps k (ne h1), owns_keeps h2 k (fun g e1 e2 => ?_), h3⟩, Blk.keeps h.box k (ne h.box), h.kept.grown hg (fun k e => .inr (by have := (hr k e).1; omega))⟩
  obtain ⟨_, o, ho, hc⟩ := hr g e2
  rcases h2.2 with q | ⟨g', cap, cur, hv, hbg, hcell, _⟩
  · rw [q.1] at e1; cases e1
  · subst hv
    cases e1
    rw [hcell] at ho
    cases ho
    cases hc
theorem ownFrom_row12 (w : World) (v0 : Value) (ps : List (Int × Int)) : OwnFrom (w.heap.size + 2) (fun (pre : List (Int × Int)) W => Row12 w v0 w.heap.size (ps ++ pre) W) := fun _ _ _ _ hs hg hr => hs.grown hg hr

section
attribute [local go_sem] Oper.semAt_some
set_option maxRecDepth 100000 in
set_option maxHeartbeats 4000000 in
theorem hsum_any {w : World} {g m : Nat} {A : Nat → Prop} {an : Option Addr} {ln cn : Nat} {ad : Option Addr} {ld cd : Nat} {N D : Int} {hs : List Hd} (h : LH w g m A an ln cn ad ld cd N D hs) (gd : GoodL N D hs)
    (a : Option Addr) (len cap : Nat) (ps : List (Int × Int)) (ho : w.ownsRow 0 46 2 (.slice a len cap) ps.length (cellsW ps)) (hf : ∀ p ∈ ps, FitW p) (hl : ps.length + hs.length ≤ 21) :
    Calls Tryz.prog 75 #[.pointer (some ⟨g, 0, none⟩), .slice a len cap] w fun e w' => ∃ v n d, e = .returned v ∧ Rat w' 0 43 v n d ∧ Lo n d ∧ n * (sumR (ps ++ wsL hs)).2 = (sumR (ps ++ wsL hs)).1 * d ∧ Keeps (fun k => (Value.slice a len cap).ownBlock = some k) w w' := by
  obtain ⟨W0, hW0⟩ : ∃ W0, (w.alloc (.cells #[.slice a len cap] 116)).alloc (.cells #[.slice none 0 0, .slice none 0 0] 35) = W0 := ⟨_, rfl⟩
  have B0 := Lib.hid (show Below w.heap.size w W0 by rw [← hW0]; exact wbox2 _ _ _)
  have Z0 := Lib.hid (show W0.heap.size = w.heap.size + 2 by rw [← hW0]; simp)
  have R0 := Lib.hid (show Row12 w (.slice a len cap) w.heap.size (ps ++ []) W0 from ⟨⟨.slice a len cap, by rw [← hW0]; exact (Blk.new w _ _).alloc _, by rw [List.append_nil, ← hW0]; exact (ho.alloc _).alloc _, fun _ e => .inl e⟩, by rw [← hW0]; exact Blk.new2 w _ _ _, Keeps.of B0.out⟩)
  have H := Lib.hid (h.below B0.out)
  have GD := Lib.hid gd
  have FT := Lib.hid hf
  have LT := Lib.hid (show ∀ k, (Value.slice a len cap).ownBlock = some k → k < w.heap.size from fun k e => (ho.lt k e).2)
  have HL := Lib.hid hl
  clear h gd ho hf hl
  refine (callsIn_wide (n := 3)).1 ?_
  refine callsIn_of_wp_marks Tryz.func75 rfl trivial ?_ rfl
  simp only [Tryz.ntmps75, List.size_toArray, List.length_cons, List.length_nil, Nat.reduceAdd, Nat.reduceSub, Array.replicate_succ, Array.replicate_zero, List.push_toArray, List.append_toArray, List.nil_append, List.cons_append]
  refine wpIn_wide.2 ?_
  go_wp2_with fail
  (try rw [hW0])
  clear hW0
  refine (wpIn_wide (n := 3)).1 ?_
  refine rangeFunc_bound rfl (by omega) (gf := 88) (fb := #[.pointer (some ⟨g, 0, none⟩)]) rfl trivial (enters_of Tryz.func88 (by kernel_rfl) rfl)
    (hshares_in _ (by omega) H.out GD.out) (Below.refl _ _) (fun _ => rfl)
    (fun pre W => Row12 w (.slice a len cap) w.heap.size (ps ++ pre) W) (by rw [Z0.out]; exact ownFrom_row12 w _ ps) R0.out
    (fun x b => { tmps := #[.pointer (some ⟨g, 0, none⟩), .slice a len cap, undef, .pointer (some ⟨w.heap.size, 0, none⟩), .pointer (some ⟨w.heap.size + 1, 0, none⟩), .pointer (some ⟨b, 0, none⟩), .pointer (some ⟨g, 0, none⟩), .func (.func 88) #[.pointer (some ⟨g, 0, none⟩)] #[], .agg #[.int .i64 x.1, .int .i64 x.2], undef, undef, undef, undef, undef, undef], defers := [] })
    (fun x => .cells #[.int .i64 x.1, .int .i64 x.2] 46) ?assign ?body ?done
  case assign =>
    intro l x W K hK
    gi_wp2
    exact hK
  case body =>
    intro l pre x b W hI hlen hb hx
    have RI := Lib.hid hI
    obtain ⟨v, h1, h2, h3⟩ := hI.row
    have c0 := h1.cell 0
    have f0 := h1.free 0
    have X := Lib.hid (show Blk W 46 b #[.int .i64 x.1, .int .i64 x.2] from hx)
    have c1 := X.out.cell 0
    have c2 := X.out.cell 1
    simp at c0 c1 c2
    have O := Lib.hid h2
    have OB := Lib.hid h3
    have V := Lib.hid h1
    clear hI h1 h2 h3 hx
    gi_wp2_with (gi_at_builtin; refine app_weightIn rfl _ _ rfl 0 _ (ps ++ pre) rfl (O.out.alloc _) W.heap.size x rfl (heap_alloc_new _ _) (Nat.zero_le _) (by have := HL.out; rw [List.length_append]; omega) ?_; intro v2 w2 ho2 hg2 hat; obtain ⟨a2, cap2, rfl, _⟩ := rowP_of_owns ho2; have O2 := Lib.hid ho2; have G2 := Lib.hid hg2; have AT := Lib.hid hat; clear ho2 hg2 hat; have V2 := Lib.hid (box_grown (V.out.alloc _) G2.out OB.out LT.out); have c5 := V2.out.cell 0; have f5 := V2.out.free 0; simp at c5)
    have ev : Value.slice a2 (ps.length + (pre.length + 1)) cap2 = Value.slice a2 (ps ++ pre ++ [x]).length cap2 := by
      rw [List.length_append, List.length_append, List.length_singleton, Nat.add_assoc]
    rw [ev]
    have wl : w.heap.size < W.heap.size := V.out.lt
    have no2 : ∀ k, (Value.slice a2 (ps ++ pre ++ [x]).length cap2).ownBlock = some k → (Value.slice a len cap).ownBlock = some k ∨ w.heap.size + 2 ≤ k := fun k e => by
      rcases AT.out with q | q
      · exact OB.out k (q ▸ e)
      · rw [q] at e
        cases e
        refine .inr ?_
        have := RI.out.box
        have := Blk.lt this
        simp; omega
    have nb : ∀ k, (Value.slice a2 (ps ++ pre ++ [x]).length cap2).ownBlock = some k → ¬ k = w.heap.size := fun k e q => by
      rcases no2 k e with r | r
      · have := LT.out k r; omega
      · omega
    have kA : Keeps (fun k => k = w.heap.size) w2 (w2.setCell ⟨w.heap.size, 0, none⟩ (Value.slice a2 (ps ++ pre ++ [x]).length cap2)) := (Keeps.refl (fun k => k = w.heap.size) w2).set (.inl rfl) _ _
    have bxA : Box (W.alloc (.cells #[.int .i64 x.1, .int .i64 x.2] 46)) 35 (w.heap.size + 1) (.slice none 0 0) (.slice none 0 0) := Blk.alloc RI.out.box _
    have bx2 : Box w2 35 (w.heap.size + 1) (.slice none 0 0) (.slice none 0 0) := (G2.out.block _ (Blk.lt bxA) (fun e => by
      rcases OB.out _ e.symm with q | q
      · have := LT.out _ q; omega
      · omega)).trans bxA
    refine ⟨?_, ?_⟩
    · exact ((others_alloc W _).trans (others_row (O.out.alloc _) G2.out)).trans (KeepsOthers.setCell _ _ _)
    · refine ⟨⟨_, V2.out.setH 0 _, ?_, no2⟩, Blk.keeps bx2 kA (fun e => by omega), ?_⟩
      · rw [← List.append_assoc]
        exact owns_keeps O2.out kA nb
      · refine (((RI.out.kept.alloc _).grown G2.out (fun k e => ?_))).set (.inr (Nat.le_refl _)) _ _
        rcases OB.out k e with q | q
        · exact .inl q
        · exact .inr (by omega)
  case done =>
    intro Dd xs W hD hS hI hK
    obtain ⟨v, h1, h2, h3⟩ := hI.row
    obtain ⟨a1, cap1, rfl, hr, _⟩ := rowP_of_owns h2
    have c0 := h1.cell 0
    simp at c0
    have RI := Lib.hid hI
    have HS := Lib.hid hS
    have RP := Lib.hid hr
    have HK := Lib.hid hK
    have HD := Lib.hid hD
    clear h1 h2 h3 hr hK hI hS hD
    have HB := Lib.hid RI.out.box
    obtain ⟨n1, hn1⟩ : ∃ n, (ps ++ xs).length = n := ⟨_, rfl⟩
    rw [hn1] at RP
    rw [← List.length_append, hn1] at c0
    have HN := Lib.hid hn1
    clear hn1
    have HQ := Lib.hid (qsum_any a1 n1 cap1 (ps ++ xs) W RP.out (fun p hp => by
      rcases List.mem_append.mp hp with q | q
      · exact FT.out p q
      · obtain ⟨x, hx, rfl⟩ := List.mem_map.mp (HS.out.mem_iff.mp q)
        exact fit_may (holdsV_may (GD.out.each x hx))) (by
      have := HL.out
      have h1 := HS.out.length_eq
      unfold wsL at h1
      rw [List.length_map] at h1
      have h2 := HN.out
      rw [List.length_append] at h2
      omega))
    have NN := Lib.hid (show n1 ≤ 21 by
      have := HL.out
      have h1 := HS.out.length_eq
      unfold wsL at h1
      rw [List.length_map] at h1
      have h2 := HN.out
      rw [List.length_append] at h2
      omega)
    have SP := Lib.hid (sumR_perm (List.Perm.append_left ps HS.out))
    go_wp2_with fail
    refine HQ.out.mono ?_
    rintro e w2 ⟨_, n, d, rfl, hr, hlo, he, hb⟩
    rw [SP.out] at he
    obtain ⟨p1, p2, p3, z1, q1, q2, q3, z2, rfl, _⟩ := id hr
    have X2 := Lib.hid (Box.below HB.out hb)
    have R2 := Lib.hid (box_set X2.out hr).2
    have BX2 := Lib.hid (box_set X2.out hr).1
    have KD := Lib.hid ((hb.block Dd (Array.getElem?_eq_some_iff.1 HK.out).1).trans HK.out)
    have KE := Lib.hid (RI.out.kept.next hb)
    have LO := Lib.hid hlo
    have EQ := Lib.hid he
    have x0 := X2.out.c0; have x1 := X2.out.c1
    have f0 := Blk.free X2.out 0; have f1 := Blk.free X2.out 1
    clear hr hb hlo he c0
    go_wp2
    have z2 := KD.out
    have ne : w.heap.size + 1 ≠ Dd := by have := HD.out; have := Z0.out; omega
    have KF := (Below.heap_setCell _ ⟨w.heap.size + 1, 1, none⟩ (.slice q1 q2 q3) Dd (fun e => ne e.symm)).trans ((Below.heap_setCell w2 ⟨w.heap.size + 1, 0, none⟩ (.slice p1 p2 p3) Dd (fun e => ne e.symm)).trans z2)
    have KE2 := (KE.out.set (.inr (Nat.le_succ _)) 0 (.slice p1 p2 p3)).set (.inr (Nat.le_succ _)) 1 (.slice q1 q2 q3)
    have RR := R2.out
    obtain ⟨W3, hW3⟩ : ∃ W3, (w2.setCell ⟨w.heap.size + 1, 0, none⟩ (.slice p1 p2 p3)).setCell ⟨w.heap.size + 1, 1, none⟩ (.slice q1 q2 q3) = W3 := ⟨_, rfl⟩
    have BX := BX2.out
    rw [hW3] at KF KE2 RR BX ⊢
    clear hW3
    have hg := grownBy_putObj' W3 Dd (.deferred none)
    have B4 : Below Dd W3 (W3.putObj Dd (.deferred none)) := (Below.refl Dd W3).grown hg (Nat.le_of_lt (Array.getElem?_eq_some_iff.1 KF).1) (fun k e => by cases e; exact Nat.le_refl _)
    have BX4 : Box (W3.putObj Dd (.deferred none)) 35 (w.heap.size + 1) (.slice p1 p2 p3) (.slice q1 q2 q3) := (hg.block _ (Blk.lt BX) (fun e => by cases e; exact ne rfl)).trans BX
    have y0 := BX4.c0; have y1 := BX4.c1
    refine ⟨by simp, .inl ⟨_, _, rfl, run_takeDeferred KF, ?_⟩⟩
    refine ⟨.agg #[.slice p1 p2 p3, .slice q1 q2 q3], by simp [results, Tryz.results75, go_sem, y0, y1], ?_⟩
    exact ⟨_, n, d, rfl, (rat_high RR KF B4 (fun x hx hxs => hg.block x hxs (fun e => by cases e; omega))).mono (Nat.le_refl _) (by have := NN.out; omega), LO.out, EQ.out, keeps_high KE2 (B4.mono (by have := HD.out; have := Z0.out; omega))⟩
end
end Go.Proofs.YtbonilmlfelmpaaGreat
namespace Go.Proofs.YtbonilmlfelmpaaGreat
open Go.RowKit

theorem owns_nil (w : World) (base : Nat) (T : TypeId) (k : Nat) : w.ownsRow base T k (.slice none 0 0) 0 [] := ⟨by simp, .inl ⟨rfl, rfl⟩⟩
theorem keeps_none {w w' : World} {a : Option Addr} (ha : a = none) {len cap : Nat} (k : Keeps (fun k => (Value.slice a len cap).ownBlock = some k) w w') : Below w.heap.size w w' := by
  subst ha
  exact ⟨k.os, k.tape, k.output, k.size, fun x hx => k.block x hx (fun e => by cases e)⟩
theorem hsum0 {w : World} {g m : Nat} {A : Nat → Prop} {an : Option Addr} {ln cn : Nat} {ad : Option Addr} {ld cd : Nat} {N D : Int} {hs : List Hd} (h : LH w g m A an ln cn ad ld cd N D hs) (gd : GoodL N D hs) (hl : hs.length ≤ 21) :
    Calls Tryz.prog 75 #[.pointer (some ⟨g, 0, none⟩), .slice none 0 0] w (GivesLo w 43 (sumH hs).1 (sumH hs).2) :=
  (hsum_any h gd none 0 0 [] (owns_nil w 0 _ 2) (fun _ q => by cases q) (by simpa using hl)).mono fun _ _ ⟨v, n, d, h1, h2, h3, h4, h5⟩ => ⟨v, n, d, h1, h2, h3, h4, keeps_none rfl h5⟩
theorem hheld43 {w : World} {g m : Nat} {A : Nat → Prop} {an : Option Addr} {ln cn : Nat} {ad : Option Addr} {ld cd : Nat} {N D : Int} {hs : List Hd} (h : LH w g m A an ln cn ad ld cd N D hs) (gd : GoodL N D hs) (hl : hs.length ≤ 21) :
    Calls Tryz.prog 56 #[.pointer (some ⟨g, 0, none⟩)] w (GivesLo w 43 (sumH hs).1 (sumH hs).2) := by
  have H := Lib.hid h
  have GD := Lib.hid gd
  have HL := Lib.hid hl
  have X0 := Lib.hid (Box.new w 35 (.slice none 0 0) (.slice none 0 0))
  have B0 := Lib.hid (wbox w (.cells #[.slice none 0 0, .slice none 0 0] 35))
  clear h gd hl
  go_enter Tryz.func56, Tryz.ntmps56
  go_wp2_with fail
  refine (hsum0 (H.out.below B0.out) GD.out HL.out).mono ?_
  rintro e w2 ⟨_, n, d, rfl, hr, hlo, he, hb⟩
  obtain ⟨p1, p2, p3, z1, q1, q2, q3, z2, rfl, _⟩ := id hr
  have X2 := Lib.hid (X0.out.below hb)
  have B2 := Lib.hid (below_next B0.out hb)
  have R1 := Lib.hid (box_set X2.out hr).2
  have LO := Lib.hid hlo
  have EQ := Lib.hid he
  have x0 := X2.out.c0; have x1 := X2.out.c1
  have f0 := Blk.free X2.out 0; have f1 := Blk.free X2.out 1
  clear hr hb hlo he
  go_wp2
  exact bodyPost_ret (v := .agg #[.slice p1 p2 p3, .slice q1 q2 q3]) (by simp [results, Tryz.results56, go_sem, x0, x1]) rfl ⟨_, n, d, rfl, R1.out, LO.out, EQ.out, (B2.out.setCell (Nat.le_refl _) _).setCell (Nat.le_refl _) _⟩
theorem hheld_nil (w : World) : Calls Tryz.prog 56 #[.pointer none] w (GivesQ w 2 0 1) := by
  have X0 := Lib.hid (Box.new w 35 (.slice none 0 0) (.slice none 0 0))
  have B0 := Lib.hid (wbox w (.cells #[.slice none 0 0, .slice none 0 0] 35))
  go_enter Tryz.func56, Tryz.ntmps56
  go_wp2_with fail
  refine (whole_any 0 _ (by omega) (by omega)).mono ?_
  rintro e w2 ⟨_, rfl, hr, hb⟩
  obtain ⟨p1, p2, p3, z1, q1, q2, q3, z2, rfl, _⟩ := id hr
  have X2 := Lib.hid (X0.out.below hb)
  have B2 := Lib.hid (below_next B0.out hb)
  have R1 := Lib.hid (box_set X2.out hr).2
  have x0 := X2.out.c0; have x1 := X2.out.c1
  have f0 := Blk.free X2.out 0; have f1 := Blk.free X2.out 1
  clear hr hb
  go_wp2
  exact bodyPost_ret (v := .agg #[.slice p1 p2 p3, .slice q1 q2 q3]) (by simp [results, Tryz.results56, go_sem, x0, x1]) rfl ⟨_, rfl, R1.out, (B2.out.setCell (Nat.le_refl _) _).setCell (Nat.le_refl _) _⟩
theorem lo_zero {n d : Int} (h : Lo n d) (h0 : n * 1 = 0 * d) : n = 0 ∧ d = 1 := by
  have hn : n = 0 := by omega
  subst hn
  obtain ⟨x, y, e1, e2, hy, hg⟩ := h.nat
  have : x = 0 := by omega
  subst this
  rw [Nat.gcd_zero_left] at hg
  subst hg
  exact ⟨rfl, e2⟩
end Go.Proofs.YtbonilmlfelmpaaGreat
