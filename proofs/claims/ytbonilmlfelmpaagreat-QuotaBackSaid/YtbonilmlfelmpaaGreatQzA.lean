/-
  Package quota as landed: its map of homes in memory; what a tree is in memory.
  Package quota as landed: has, ledger, find, Server, path: contracts.
  Package quota as landed: what path tells of one: the contract of its iterator; slices.Collect of it; Path.
  Package quota as landed: slices.Collect of a path; Path: contract.
  Package quota as landed: what is asked of each ledger, as function values: contracts.
-/
import Derived.Test.YtbonilmlfelmpaaGreatQz0
import Derived.Test.YtbonilmlfelmpaaGreatQaA
import Derived.Test.YtbonilmlfelmpaaGreatQbA
import Derived.RangeFuncNested
import Derived.RangeFuncBound
import Derived.RangeFuncCalls
import Derived.RangeFuncLeaves
import Derived.Shelf.Abstract
import Derived.Shelf.RegionOpen
import Derived.WalkKit
import Derived.OwnWalkIn
import Derived.TacticsInMore
import Derived.LoopNIn
import Derived.LoopIn
import Derived.Maps.OwnIn
import Derived.RangeFuncBox
import Derived.Test.YtbonilmlfelmpaaGreatHzA
namespace Go.Proofs.YtbonilmlfelmpaaGreat
open Go.RowKit

/-! ### homes -/
def kvI (p : Int × Int) : Value × Value := (.int .i64 p.1, .int .i64 p.2)
/-- who joined where, in the order of their joins -/
def homes (hs : List Hq) : List (Int × Int) := hs.map fun q => (q.h.id, q.srv)
def findK (l : List (Int × Int)) (id : Int) : Option Nat := l.findIdx? (fun p => decide (p.1 = id))
theorem findK_homes (hs : List Hq) (id : Int) : findK (homes hs) id = findH (lst hs) id := by
  unfold findK homes findH lst
  rw [List.findIdx?_map, List.findIdx?_map]
  rfl
theorem kvI_cons {e : MapEntry} {es : List MapEntry} {p : Int × Int} {l : List (Int × Int)} (q : (e :: es).map kvE = (p :: l).map kvI) : e.key = .int .i64 p.1 ∧ e.val = .int .i64 p.2 ∧ es.map kvE = l.map kvI := by
  rw [List.map_cons, List.map_cons] at q
  obtain ⟨h1, h2⟩ := List.cons.inj q
  exact ⟨(Prod.mk.inj h1).1, (Prod.mk.inj h1).2, h2⟩
theorem findK_cons (p : Int × Int) (l : List (Int × Int)) (id : Int) : findK (p :: l) id = if p.1 = id then some 0 else (findK l id).map (· + 1) := by
  unfold findK
  rw [List.findIdx?_cons]
  by_cases q : p.1 = id
  · rw [if_pos q]; simp [q]
  · rw [if_neg q]; simp [q]
theorem findNow_K (id : Int) (es : List MapEntry) (l : List (Int × Int)) (i : Nat) (q : es.map kvE = l.map kvI) : Instr.findNow (.int .i64) (.int .i64 id) es i = some ((findK l id).bind fun j => (l[j]?).map fun p => (i + j, .int .i64 p.2)) := by
  induction es generalizing l i with
  | nil =>
    cases l with
    | nil => rfl
    | cons h hs => cases q
  | cons e es ih =>
    cases l with
    | nil => cases q
    | cons h hs =>
      obtain ⟨q1, q2, q3⟩ := kvI_cons q
      have hi := ih hs (i + 1) q3
      rw [findK_cons]
      by_cases k : h.1 = id
      · rw [if_pos k]
        simp [Instr.findNow, Instr.sameNow, q1, q2, k]
      · rw [if_neg k]
        have k' : ¬ id = h.1 := fun e => k e.symm
        simp only [Instr.findNow, Instr.sameNow, q1, if_true, beq_eq_false_iff_ne.mpr k']
        rw [hi]
        cases findK hs id with
        | none => rfl
        | some j =>
          show some ((hs[j]?).map _) = some (((h :: hs)[j + 1]?).map _)
          rw [List.getElem?_cons_succ]
          cases hs[j]? with
          | none => rfl
          | some x => simp only [Option.map_some]; rw [show i + 1 + j = i + (j + 1) by omega]
/-- the block m is a map of these -/
def MapK (w : World) (m : Nat) (l : List (Int × Int)) : Prop := ∃ es clock, w.heap[m]? = some (.map es clock) ∧ es.toList.map kvE = l.map kvI ∧ (∀ x ∈ es.toList, x.born < clock) ∧ (es.toList.map (·.born)).Nodup
theorem MapK.lt {w : World} {m : Nat} {l : List (Int × Int)} (h : MapK w m l) : m < w.heap.size := by
  obtain ⟨es, clock, hb, _⟩ := h
  exact (Array.getElem?_eq_some_iff.1 hb).1
theorem MapK.of_block {w w' : World} {m : Nat} {l : List (Int × Int)} (h : MapK w m l) (hb : w'.heap[m]? = w.heap[m]?) : MapK w' m l := by
  obtain ⟨es, clock, h1, h2, h3, h4⟩ := h
  exact ⟨es, clock, hb.trans h1, h2, h3, h4⟩
theorem MapK.keeps {w w' : World} {m : Nat} {l : List (Int × Int)} {G : Nat → Prop} (h : MapK w m l) (k : Keeps G w w') (hG : ¬ G m) : MapK w' m l := h.of_block (k.block m h.lt hG)
theorem MapK.below {w w' : World} {m : Nat} {l : List (Int × Int)} (h : MapK w m l) (k : Below w.heap.size w w') : MapK w' m l := h.of_block (k.block m h.lt)
theorem MapK.nocell {w : World} {m : Nat} {l : List (Int × Int)} (h : MapK w m l) (j : Nat) (v : Value) : w.cell? ⟨m, j, none⟩ ≠ some v := by
  obtain ⟨es, clock, hb, _⟩ := h
  simp [World.cell?, hb]
theorem lookK_no {w : World} {m : Nat} {l : List (Int × Int)} {id : Int} (h : MapK w m l) (hf : findK l id = none) : (Instr.lookup 68 (.map (some m)) (.int .i64 id) true).run Tryz.prog w = .ok (.tuple #[.int .i64 0, .bool false]) w := by
  obtain ⟨es, clock, h1, h2, _⟩ := h
  have k := findNow_K id es.toList l 0 h2
  rw [hf] at k
  simp [Instr.lookup, run_underlying Tryz.underlying68, MapKept.run_getObj_map h1, MapKept.run_checkKey Tryz.underlying3 (isKeyI id), MapKept.run_findKey Tryz.underlying3 k, Result.andThen]
theorem lookK_yes {w : World} {m : Nat} {l : List (Int × Int)} {id : Int} {j : Nat} {x : Int × Int} (h : MapK w m l) (hf : findK l id = some j) (hx : l[j]? = some x) : (Instr.lookup 68 (.map (some m)) (.int .i64 id) true).run Tryz.prog w = .ok (.tuple #[.int .i64 x.2, .bool true]) w := by
  obtain ⟨es, clock, h1, h2, _⟩ := h
  have k := findNow_K id es.toList l 0 h2
  rw [hf] at k
  simp only [Option.bind_some, hx, Option.map_some] at k
  simp [Instr.lookup, run_underlying Tryz.underlying68, MapKept.run_getObj_map h1, MapKept.run_checkKey Tryz.underlying3 (isKeyI id), MapKept.run_findKey Tryz.underlying3 k, Result.andThen]
theorem putK_new {w : World} {m : Nat} {l : List (Int × Int)} {n : Int × Int} (h : MapK w m l) (hf : findK l n.1 = none) : ∃ w', (Instr.mapUpdate 68 (.map (some m)) (.int .i64 n.1) (.int .i64 n.2)).run Tryz.prog w = .ok () w' ∧ MapK w' m (l ++ [n]) ∧ Keeps (fun k => k = m) w w' ∧ w'.heap.size = w.heap.size := by
  obtain ⟨es, clock, h1, h2, h3, h4⟩ := h
  have k := findNow_K n.1 es.toList l 0 h2
  rw [hf] at k
  refine ⟨ChangeMaps.setBlock w m (.map (es.push { key := .int .i64 n.1, val := .int .i64 n.2, born := clock }) (clock + 1)), ?_, ⟨_, _, (MapKept.heap_set h1).1, ?_, ?_, ?_⟩, keeps_setBlock (F := fun k => k = m) rfl _, size_setBlock _ _ _⟩
  · simp [Instr.mapUpdate, run_underlying Tryz.underlying68, MapKept.run_getObj_map h1, MapKept.run_checkKey Tryz.underlying3 (isKeyI n.1), MapKept.run_findKey Tryz.underlying3 k, MapKept.run_setObj_map _ h1, Result.andThen, ChangeMaps.setBlock]
  · rw [Array.toList_push, List.map_append, List.map_append, h2]; rfl
  · intro x hx
    rw [Array.toList_push] at hx
    rcases List.mem_append.mp hx with q | q
    · have := h3 x q; omega
    · simp at q; subst q; exact Nat.lt_succ_self _
  · rw [Array.toList_push, List.map_append]
    refine List.nodup_append.mpr ⟨h4, by simp, fun a ha b hb => ?_⟩
    obtain ⟨x, hx, rfl⟩ := List.mem_map.mp ha
    simp at hb
    have := h3 x hx
    omega
theorem delK {w : World} {m : Nat} {l : List (Int × Int)} {id : Int} {j : Nat} (ty : TypeId) (h : MapK w m l) (hf : findK l id = some j) : ∃ w', (Builtin.delete_ #[68, 3] ty #[.map (some m), .int .i64 id]).run Tryz.prog w = .ok (.tuple #[]) w' ∧ MapK w' m (l.eraseIdx j) ∧ Keeps (fun k => k = m) w w' ∧ w'.heap.size = w.heap.size := by
  obtain ⟨es, clock, h1, h2, h3, h4⟩ := h
  have k := findNow_K id es.toList l 0 h2
  have hj : j < l.length := (List.findIdx?_eq_some_iff_getElem.mp hf).1
  have hy : l[j]? = some l[j] := List.getElem?_eq_getElem hj
  rw [hf] at k
  simp only [Option.bind_some, hy, Option.map_some, Nat.zero_add] at k
  have he : (es.eraseIdxIfInBounds j).toList = es.toList.eraseIdx j := by
    unfold Array.eraseIdxIfInBounds
    split
    · simp
    · rename_i q
      rw [List.eraseIdx_of_length_le (by simpa using q)]
  refine ⟨ChangeMaps.setBlock w m (.map (es.eraseIdxIfInBounds j) clock), ?_, ⟨_, _, (MapKept.heap_set h1).1, ?_, ?_, ?_⟩, keeps_setBlock (F := fun k => k = m) rfl _, size_setBlock _ _ _⟩
  · simp [Builtin.delete_, run_underlying Tryz.underlying68, MapKept.run_getObj_map h1, MapKept.run_checkKey Tryz.underlying3 (isKeyI id), MapKept.run_findKey Tryz.underlying3 k, MapKept.run_setObj_map _ h1, Result.andThen, ChangeMaps.setBlock]
  · rw [he, map_erase, map_erase, h2]
  · intro x hx
    rw [he] at hx
    exact h3 x (List.mem_of_mem_eraseIdx hx)
  · rw [he, map_erase]
    exact List.Sublist.nodup (List.eraseIdx_sublist _ _) h4
theorem homes_set {hs : List Hq} {j : Nat} {q y : Hq} (hj : hs[j]? = some q) (h1 : y.srv = q.srv) (h2 : y.h.id = q.h.id) : homes (hs.set j y) = homes hs := by
  unfold homes
  rw [List.map_set]
  refine List.ext_getElem? fun i => ?_
  by_cases e : j = i
  · subst e
    have hlt : j < hs.length := by
      rcases Nat.lt_or_ge j hs.length with k | k
      · exact k
      · rw [List.getElem?_eq_none k] at hj; cases hj
    rw [List.getElem?_set_self (by rw [List.length_map]; exact hlt), List.getElem?_map, hj, h1, h2]
    rfl
  · rw [List.getElem?_set_ne e]
theorem homes_erase (hs : List Hq) (j : Nat) : homes (hs.eraseIdx j) = (homes hs).eraseIdx j := by unfold homes; exact map_erase _ _ _
/-! ### the tree -/
/-- where the parts of a tree lie -/
structure TreeW where
  g : Nat
  m : Nat
  pa : Option Addr
  pc : Nat
  G : Nat → Nat
  Fs : Nat → Nat → Prop
  As : Nat → Nat → Prop
/-- a place's ledger, as a value: none where there is no server -/
def ledP (t : TreeW) (n i : Nat) : Value := if i ≤ n then .pointer (some ⟨t.G i, 0, none⟩) else .pointer none
def cellsT (pv : Value) (m : Nat) (f : Nat → Value) : Array Value := #[pv, .map (some m), f 0, f 1, f 2, f 3, f 4, f 5, f 6, f 7, f 8, f 9, f 10, f 11, f 12, f 13, f 14, f 15, f 16]
theorem cellsT_led (pv : Value) (m : Nat) (f : Nat → Value) {i : Nat} (h : i < 17) : (cellsT pv m f)[2 + i]? = some (f i) := by
  match i, h with
  | 0, _ => rfl
  | 1, _ => rfl
  | 2, _ => rfl
  | 3, _ => rfl
  | 4, _ => rfl
  | 5, _ => rfl
  | 6, _ => rfl
  | 7, _ => rfl
  | 8, _ => rfl
  | 9, _ => rfl
  | 10, _ => rfl
  | 11, _ => rfl
  | 12, _ => rfl
  | 13, _ => rfl
  | 14, _ => rfl
  | 15, _ => rfl
  | 16, _ => rfl
  | i + 17, h => omega
/-- a place, as a number from 0 on -/
def plN (x : Int) : Nat := (x + 1).toNat
/-- a tree in memory: each place's ledger has the list Ls of that place -/
structure TT (W : World) (t : TreeW) (S : List Sv) (N D : Int) (Ls : Int → List Hd) : Prop where
  sv : GoodSv S
  blk : Blk W 72 t.g (cellsT (.slice t.pa S.length t.pc) t.m (ledP t S.length))
  par : Row .i64 W t.pa S.length t.pc (S.map Sv.par)
  led : ∀ x : Int, -1 ≤ x → x < (S.length : Int) → HpL W (t.G (plN x)) (t.Fs (plN x)) (t.As (plN x)) (qN S N x) (qD S D x) (Ls x)
  apF : ∀ i j : Nat, i ≤ S.length → j ≤ S.length → i ≠ j → Apart (t.Fs i) (t.Fs j)
  apA : ∀ i j : Nat, i ≤ S.length → j ≤ S.length → i ≠ j → Apart (t.As i) (t.Fs j)
  apO : ∀ i : Nat, i ≤ S.length → ∀ k, t.Fs i k → k ≠ t.g ∧ k ≠ t.m ∧ ∀ ad : Addr, t.pa = some ad → ad.block ≠ k
  nem : t.m ≠ t.g
  nep : ∀ ad : Addr, t.pa = some ad → ad.block ≠ t.m
  apM : ∀ i : Nat, i ≤ S.length → ∀ k, t.As i k → k ≠ t.m
/-- the blocks of a tree that are its own -/
def ownT (t : TreeW) (n : Nat) (k : Nat) : Prop := k = t.g ∨ k = t.m ∨ (∃ ad : Addr, t.pa = some ad ∧ ad.block = k) ∨ ∃ i, i ≤ n ∧ t.Fs i k
/-- .. those that are read alone -/
def readT (t : TreeW) (n : Nat) (k : Nat) : Prop := ∃ i, i ≤ n ∧ t.As i k
theorem plN_le {S : List Sv} {x : Int} (h : -1 ≤ x ∧ x < (S.length : Int)) : plN x ≤ S.length := by unfold plN; omega
theorem plN_inj {x y : Int} (hx : -1 ≤ x) (hy : -1 ≤ y) (h : plN x = plN y) : x = y := by unfold plN at h; omega
theorem place_of {S : List Sv} {i : Nat} (h : i ≤ S.length) : ∃ x : Int, -1 ≤ x ∧ x < (S.length : Int) ∧ plN x = i := ⟨(i : Int) - 1, by omega, by omega, by unfold plN; omega⟩
theorem Row.keepsI {k : IntKind} {W W' : World} {G : Nat → Prop} {a : Option Addr} {len cap : Nat} {zs : List Int} (h : Row k W a len cap zs) (hk : Keeps G W W') (hG : ∀ ad : Addr, a = some ad → ¬ G ad.block) : Row k W' a len cap zs := by
  refine ⟨h.1, h.2.1, h.2.2.1, h.2.2.2.1, fun i hi => ?_⟩
  obtain ⟨b, off, ha, hc⟩ := h.2.2.2.2 i hi
  exact ⟨b, off, ha, (World.cell?_of_block (w := W) (a := ⟨b, off + i, none⟩) (hk.block b (World.block_lt_of_cell? _ _ hc) (hG _ ha))).trans hc⟩
theorem TT.lies {W : World} {t : TreeW} {S : List Sv} {N D : Int} {Ls : Int → List Hd} (h : TT W t S N D Ls) {i : Nat} (hi : i ≤ S.length) : Lies (t.Fs i) W ∧ Lies (t.As i) W := by
  obtain ⟨x, h1, h2, rfl⟩ := place_of hi
  exact (h.led x h1 h2).lies
theorem TT.keeps {W W' : World} {t : TreeW} {S : List Sv} {N D : Int} {Ls : Int → List Hd} {G : Nat → Prop} (h : TT W t S N D Ls) (k : Keeps G W W') (ho : ∀ b, ownT t S.length b → ¬ G b) (hr : ∀ b, readT t S.length b → ¬ G b) : TT W' t S N D Ls :=
  ⟨h.sv, h.blk.keeps k (ho _ (.inl rfl)), h.par.keepsI k (fun ad e => ho _ (.inr (.inr (.inl ⟨ad, e, rfl⟩)))), fun x h1 h2 => (h.led x h1 h2).keeps k (fun b hb => ho b (.inr (.inr (.inr ⟨_, plN_le ⟨h1, h2⟩, hb⟩)))) (fun b hb => hr b ⟨_, plN_le ⟨h1, h2⟩, hb⟩), h.apF, h.apA, h.apO, h.nem, h.nep, h.apM⟩
theorem TT.below {W W' : World} {t : TreeW} {S : List Sv} {N D : Int} {Ls : Int → List Hd} (h : TT W t S N D Ls) (hb : Below W.heap.size W W') : TT W' t S N D Ls :=
  h.keeps (Keeps.of (F := fun _ => False) hb) (fun _ _ q => q) (fun _ _ q => q)
/-- one ledger is changed -/
theorem TT.upd {W W' : World} {t : TreeW} {S : List Sv} {N D : Int} {Ls : Int → List Hd} (h : TT W t S N D Ls) {x : Int} (hx : -1 ≤ x ∧ x < (S.length : Int)) {l : List Hd} (hl : StayF W (t.G (plN x)) (t.Fs (plN x)) (t.As (plN x)) (qN S N x) (qD S D x) l W') : TT W' t S N D (updL Ls x l) := by
  obtain ⟨h1, k⟩ := hl
  have hp := plN_le hx
  refine ⟨h.sv, h.blk.keeps k (fun q => (h.apO _ hp _ q).1 rfl), h.par.keepsI k (fun ad e q => (h.apO _ hp _ q).2.2 ad e rfl), fun y y1 y2 => ?_, h.apF, h.apA, h.apO, h.nem, h.nep, h.apM⟩
  by_cases e : y = x
  · subst e
    rw [updL_at]
    exact h1
  · rw [updL_ne _ _ e]
    have hne : plN y ≠ plN x := fun q => e (plN_inj y1 hx.1 q)
    exact (h.led y y1 y2).keeps k (h.apF _ _ (plN_le ⟨y1, y2⟩) hp hne) (h.apA _ _ (plN_le ⟨y1, y2⟩) hp hne)
/-- the map of homes is changed -/
theorem TT.mapped {W W' : World} {t : TreeW} {S : List Sv} {N D : Int} {Ls : Int → List Hd} (h : TT W t S N D Ls) (k : Keeps (fun k => k = t.m) W W') : TT W' t S N D Ls :=
  ⟨h.sv, h.blk.keeps k (fun e => h.nem e.symm), h.par.keepsI k h.nep, fun x h1 h2 => (h.led x h1 h2).keeps k (fun b hb e => (h.apO _ (plN_le ⟨h1, h2⟩) b hb).2.1 e) (fun b hb e => h.apM _ (plN_le ⟨h1, h2⟩) b hb e), h.apF, h.apA, h.apO, h.nem, h.nep, h.apM⟩
theorem TT.par_cell {W : World} {t : TreeW} {S : List Sv} {N D : Int} {Ls : Int → List Hd} (h : TT W t S N D Ls) {x : Int} {v : Sv} (hv : S[x.toNat]? = some v) : ∃ b off, t.pa = some ⟨b, off, none⟩ ∧ W.cell? ⟨b, off + x.toNat, none⟩ = some (.int .i64 v.par) := by
  have hi : x.toNat < S.length := by
    rcases Nat.lt_or_ge x.toNat S.length with q | q
    · exact q
    · rw [List.getElem?_eq_none q] at hv; cases hv
  obtain ⟨b, off, ha, hc⟩ := h.par.cell hi
  refine ⟨b, off, ha, ?_⟩
  rw [List.getD_eq_getElem?_getD, List.getElem?_map, hv] at hc
  exact hc
theorem TT.led_cell {W : World} {t : TreeW} {S : List Sv} {N D : Int} {Ls : Int → List Hd} (h : TT W t S N D Ls) {x : Int} (hx : -1 ≤ x ∧ x < (S.length : Int)) : W.cell? ⟨t.g, 2 + plN x, none⟩ = some (.pointer (some ⟨t.G (plN x), 0, none⟩)) := by
  have := plN_le hx
  have l := h.sv.len
  rw [h.blk.cell, cellsT_led _ _ _ (by omega)]
  unfold ledP
  rw [if_pos this]
/-- a tree as landed: its own blocks F; those that it reads A; its servers, of how much all is, its holders -/
def HpQ (w : World) (g : Nat) (F A : Nat → Prop) (S : List Sv) (N D : Int) (hs : List Hq) : Prop :=
  ∃ t : TreeW, t.g = g ∧ TT w t S N D (lsOf S hs) ∧ MapK w t.m (homes hs) ∧ GoodQ S N D hs ∧ (∀ k, F k ↔ ownT t S.length k) ∧ (∀ k, A k ↔ readT t S.length k) ∧ ∀ ad : Addr, t.pa = some ad → ad.block < w.heap.size
end Go.Proofs.YtbonilmlfelmpaaGreat
namespace Go.Proofs.YtbonilmlfelmpaaGreat
open Go.RowKit

theorem qhas_nil (x : Int) (w : World) : Calls Tryz.prog 48 #[.pointer none, .int .i64 x] w fun e w' => e = .returned (.bool false) ∧ w = w' := by
  go_enter Tryz.func48, Tryz.ntmps48
  go_wp2
  go_ret
  exact ⟨rfl, rfl⟩
set_option maxHeartbeats 1000000 in
theorem qhas_any {w : World} {t : TreeW} {S : List Sv} {N D : Int} {Ls : Int → List Hd} (h : TT w t S N D Ls) (x : Int) (b : Bool) (hb : hasB S x = b) :
    Calls Tryz.prog 48 #[.pointer (some ⟨t.g, 0, none⟩), .int .i64 x] w fun e w' => e = .returned (.bool b) ∧ w = w' := by
  have c0 := h.blk.cell 0
  simp [cellsT] at c0
  obtain ⟨n, hn⟩ : ∃ n, S.length = n := ⟨_, rfl⟩
  unfold hasB at hb
  rw [hn] at hb c0
  obtain ⟨pa, hpa⟩ : ∃ pa, t.pa = pa := ⟨_, rfl⟩
  obtain ⟨pc, hpc⟩ : ∃ pc, t.pc = pc := ⟨_, rfl⟩
  obtain ⟨g, hg⟩ : ∃ g, t.g = g := ⟨_, rfl⟩
  rw [hpa, hpc, hg] at c0
  rw [hg]
  have ⟨cl1, cl2⟩ := h.par.cap_le
  rw [hn] at cl1
  clear hpa hpc hg hn h
  by_cases h1 : -1 ≤ x
  · have t1 : decide (-1 ≤ x) = true := decide_eq_true h1
    by_cases h2 : x < (n : Int)
    · have t2 : decide (x < (n : Int)) = true := decide_eq_true h2
      obtain rfl : b = true := by rw [← hb]; exact decide_eq_true ⟨h1, h2⟩
      clear hb h1 h2
      go_enter Tryz.func48, Tryz.ntmps48
      go_wp2
      go_ret
      exact ⟨rfl, rfl⟩
    · have t2 : decide (x < (n : Int)) = false := decide_eq_false h2
      obtain rfl : b = false := by rw [← hb]; exact decide_eq_false (fun q => h2 q.2)
      clear hb h1 h2
      go_enter Tryz.func48, Tryz.ntmps48
      go_wp2
      go_ret
      exact ⟨rfl, rfl⟩
  · have t1 : decide (-1 ≤ x) = false := decide_eq_false h1
    obtain rfl : b = false := by rw [← hb]; exact decide_eq_false (fun q => h1 q.1)
    clear hb h1
    go_enter Tryz.func48, Tryz.ntmps48
    go_wp2
    go_ret
    exact ⟨rfl, rfl⟩
set_option maxHeartbeats 1000000 in
theorem qledger_any {w : World} {t : TreeW} {S : List Sv} {N D : Int} {Ls : Int → List Hd} (h : TT w t S N D Ls) {x : Int} (hx : -1 ≤ x ∧ x < (S.length : Int)) :
    Calls Tryz.prog 36 #[.pointer (some ⟨t.g, 0, none⟩), .int .i64 x] w fun e w' => e = .returned (.pointer (some ⟨t.G (plN x), 0, none⟩)) ∧ w = w' := by
  have c := h.led_cell hx
  have l := h.sv.len
  have e : 1 + x = (plN x : Int) := by unfold plN; omega
  have le : plN x < 17 := by have := plN_le hx; omega
  obtain ⟨i, hi⟩ : ∃ i, plN x = i := ⟨_, rfl⟩
  rw [hi] at c e le ⊢
  have wi : IntKind.i64.wrap (1 + x) = (i : Int) := by rw [IntWalk.i64_in _ (by omega), e]
  have j1 : (i : Int) < 17 := by omega
  have j2 : 0 ≤ (i : Int) := by omega
  clear hx l e le h
  go_enter Tryz.func36, Tryz.ntmps36
  go_wp2
  go_ret
  exact ⟨rfl, rfl⟩
theorem qfind_nil (id : Int) (w : World) : Calls Tryz.prog 35 #[.pointer none, .int .i64 id] w fun e w' => e = .returned (.tuple #[.int .i64 0, .int .i64 1]) ∧ w = w' := by
  go_enter Tryz.func35, Tryz.ntmps35
  go_wp2
  exact bodyPost_ret (v := .tuple #[.int .i64 0, .int .i64 1]) (by simp [results, Tryz.results35, go_sem]) rfl ⟨rfl, rfl⟩
theorem qfind_none {w : World} {t : TreeW} {S : List Sv} {N D : Int} {Ls : Int → List Hd} {hs : List Hq} (h : TT w t S N D Ls) (hm : MapK w t.m (homes hs)) (id : Int) (hf : findH (lst hs) id = none) :
    Calls Tryz.prog 35 #[.pointer (some ⟨t.g, 0, none⟩), .int .i64 id] w fun e w' => e = .returned (.tuple #[.int .i64 0, .int .i64 12]) ∧ w = w' := by
  have c1 := h.blk.cell 1
  simp [cellsT] at c1
  have hl := lookK_no hm ((findK_homes hs id).trans hf)
  go_enter Tryz.func35, Tryz.ntmps35
  go_wp2
  exact bodyPost_ret (v := .tuple #[.int .i64 0, .int .i64 12]) (by simp [results, Tryz.results35, go_sem]) rfl ⟨rfl, rfl⟩
theorem qfind_some {w : World} {t : TreeW} {S : List Sv} {N D : Int} {Ls : Int → List Hd} {hs : List Hq} (h : TT w t S N D Ls) (hm : MapK w t.m (homes hs)) (id : Int) (j : Nat) (q : Hq) (hf : findH (lst hs) id = some j) (hj : hs[j]? = some q) :
    Calls Tryz.prog 35 #[.pointer (some ⟨t.g, 0, none⟩), .int .i64 id] w fun e w' => e = .returned (.tuple #[.int .i64 q.srv, .int .i64 0]) ∧ w = w' := by
  have c1 := h.blk.cell 1
  simp [cellsT] at c1
  have hl := lookK_yes (x := (q.h.id, q.srv)) hm ((findK_homes hs id).trans hf) (by unfold homes; rw [List.getElem?_map, hj]; rfl)
  simp only at hl
  go_enter Tryz.func35, Tryz.ntmps35
  go_wp2
  exact bodyPost_ret (v := .tuple #[.int .i64 q.srv, .int .i64 0]) (by simp [results, Tryz.results35, go_sem]) rfl ⟨rfl, rfl⟩
theorem qserver_nil (id : Int) (w : World) : Calls Tryz.prog 23 #[.pointer none, .int .i64 id] w fun e w' => e = .returned (.int .i64 (-2)) ∧ w = w' := by
  go_enter Tryz.func23, Tryz.ntmps23
  go_wp2_with fail
  refine (qfind_nil id _).mono ?_
  rintro e w1 ⟨rfl, rfl⟩
  go_wp2
  go_ret
  exact ⟨rfl, rfl⟩
theorem qserver_any {w : World} {t : TreeW} {S : List Sv} {N D : Int} {Ls : Int → List Hd} {hs : List Hq} (h : TT w t S N D Ls) (hm : MapK w t.m (homes hs)) (id : Int) (s : Int) (hs' : serverQ hs id = s) :
    Calls Tryz.prog 23 #[.pointer (some ⟨t.g, 0, none⟩), .int .i64 id] w fun e w' => e = .returned (.int .i64 s) ∧ w = w' := by
  have H := Lib.hid h
  have M := Lib.hid hm
  unfold serverQ at hs'
  cases hf : findH (lst hs) id with
  | none =>
    rw [hf] at hs'
    have HF := Lib.hid hf
    subst hs'
    clear h hm hf
    go_enter Tryz.func23, Tryz.ntmps23
    go_wp2_with fail
    refine (qfind_none H.out M.out id HF.out).mono ?_
    rintro e w1 ⟨rfl, rfl⟩
    go_wp2
    go_ret
    exact ⟨rfl, rfl⟩
  | some j =>
    obtain ⟨q, hj, _⟩ := find_lst hf
    simp only [hf, hj] at hs'
    have HF := Lib.hid hf
    have HJ := Lib.hid hj
    subst hs'
    clear h hm hf hj
    go_enter Tryz.func23, Tryz.ntmps23
    go_wp2_with fail
    refine (qfind_some H.out M.out id j q HF.out HJ.out).mono ?_
    rintro e w1 ⟨rfl, rfl⟩
    go_wp2
    go_ret
    exact ⟨rfl, rfl⟩
/-- the boxes of a path's function value -/
def pathW (w : World) (g : Nat) (x : Int) : World := (w.alloc (.cells #[.pointer (some ⟨g, 0, none⟩)] 31)).alloc (.cells #[.int .i64 x] 3)
theorem qpath_any (g : Nat) (x : Int) (w : World) :
    Calls Tryz.prog 50 #[.pointer (some ⟨g, 0, none⟩), .int .i64 x] w fun e w' => e = .returned (.func (.func 70) #[] #[.pointer (some ⟨w.heap.size + 1, 0, none⟩), .pointer (some ⟨w.heap.size, 0, none⟩)]) ∧ w' = pathW w g x := by
  go_enter Tryz.func50, Tryz.ntmps50
  go_wp2
  go_ret
  exact ⟨rfl, rfl⟩
end Go.Proofs.YtbonilmlfelmpaaGreat
namespace Go.Proofs.YtbonilmlfelmpaaGreat
open Go.RowKit Go.Shelf

theorem Holds.refl (G : Nat → Prop) (W : World) : Holds G W W := ⟨Nat.le_refl _, fun _ _ => rfl⟩
theorem Holds.trans {G : Nat → Prop} {A B C : World} (h : Holds G A B) (k : Holds G B C) : Holds G A C := ⟨Nat.le_trans h.size k.size, fun x q => (k.block x q).trans (h.block x q)⟩
theorem holds_b {G : Nat → Prop} {w : World} (hG : ∀ k, G k → k < w.heap.size) (W : World) (l : Nat) (o o' : Obj) (hl : w.heap.size ≤ l) (h : W.heap[l]? = some o) (_ : o.isCells = false) (_ : o.isWalk = false) : Holds G W (W.putObj l o') :=
  ⟨by simp, fun k q => (grownBy_putObj' W l o').block k (by have := hG k q; have := (Array.getElem?_eq_some_iff.1 h).1; omega) (fun e => by cases e; have := hG _ q; omega)⟩
theorem Holds.of_keeps {F G : Nat → Prop} {w w' : World} (h : Keeps F w w') (hG : ∀ k, G k → ¬ F k ∧ k < w.heap.size) : Holds G w w' := ⟨h.size, fun k q => h.block k (hG k q).2 (hG k q).1⟩
/-- what the iterator reads: its boxes, the tree's row of parents -/
structure PathF (W : World) (bS bT g n : Nat) (pa : Option Addr) (pc : Nat) (S : List Sv) (s : Int) : Prop where
  bs : Blk W 3 bS #[.int .i64 s]
  bt : Blk W 31 bT #[.pointer (some ⟨g, 0, none⟩)]
  tr : W.cell? ⟨g, 0, none⟩ = some (.slice pa n pc)
  par : Row .i64 W pa n pc (S.map Sv.par)
/-- .. where that lies -/
def pathG (bS bT g : Nat) (pa : Option Addr) (k : Nat) : Prop := k = bS ∨ k = bT ∨ k = g ∨ ∃ ad : Addr, pa = some ad ∧ ad.block = k
theorem PathF.holds {W W' : World} {bS bT g n : Nat} {pa : Option Addr} {pc : Nat} {S : List Sv} {s : Int} (h : PathF W bS bT g n pa pc S s) (k : Holds (pathG bS bT g pa) W W') : PathF W' bS bT g n pa pc S s := by
  refine ⟨k.blk h.bs (.inl rfl), k.blk h.bt (.inr (.inl rfl)), (World.cell?_of_block (w := W) (a := ⟨g, 0, none⟩) (k.block g (.inr (.inr (.inl rfl))))).trans h.tr, ⟨h.par.1, h.par.2.1, h.par.2.2.1, h.par.2.2.2.1, fun i hi => ?_⟩⟩
  obtain ⟨b, off, ha, hc⟩ := h.par.2.2.2.2 i hi
  exact ⟨b, off, ha, (World.cell?_of_block (w := W) (a := ⟨b, off + i, none⟩) (k.block b (.inr (.inr (.inr ⟨_, ha, rfl⟩))))).trans hc⟩
theorem PathF.below {W W' : World} {bS bT g n : Nat} {pa : Option Addr} {pc : Nat} {S : List Sv} {s : Int} (h : PathF W bS bT g n pa pc S s) (hb : Below W.heap.size W W') : PathF W' bS bT g n pa pc S s :=
  ⟨h.bs.below hb, h.bt.below hb, (hb.cell (World.block_lt_of_cell? _ _ h.tr)).trans h.tr, h.par.below hb⟩
theorem TT.pathF {W : World} {t : TreeW} {S : List Sv} {N D : Int} {Ls : Int → List Hd} (h : TT W t S N D Ls) (s : Int) : PathF (pathW W t.g s) (W.heap.size + 1) W.heap.size t.g S.length t.pa t.pc S s := by
  have h2 : TT (pathW W t.g s) t S N D Ls := h.below (wbox2 _ _ _)
  have c0 := h2.blk.cell 0
  simp [cellsT] at c0
  refine ⟨?_, (Blk.new W _ _).alloc _, c0, h2.par⟩
  have := Blk.new (W.alloc (.cells #[.pointer (some ⟨t.g, 0, none⟩)] 31)) 3 #[.int .i64 s]
  rwa [wsize] at this
section
attribute [local go_sem] Oper.semAt_some
set_option maxRecDepth 100000 in
set_option maxHeartbeats 2000000 in
theorem qpath1_in (n : Nat) (hn : 1 ≤ n) (l bS bT g m : Nat) (pa : Option Addr) (pc : Nat) (S : List Sv) (gS : GoodSv S) (hm : S.length = m) (s : Int) (hs : -1 ≤ s ∧ s < (S.length : Int)) (J Jx : List Int → World → Prop)
    (hY : ∀ pre x rest W, pathV S s = pre ++ x :: rest → J pre W → YieldAt Fence.wide (n - 1) Tryz.prog l #[.int .i64 x] W fun e W' =>
      (e = .returned (.bool true) ∧ J (pre ++ [x]) W' ∧ Holds (pathG bS bT g pa) W W') ∨ (e = .returned (.bool false) ∧ Jx (pre ++ [x]) W'))
    (W : World) (hF : PathF W bS bT g m pa pc S s) (h0 : J [] W) :
    CallsIn Fence.wide n Tryz.prog 70 #[.func (.yield l) #[] #[], .pointer (some ⟨bS, 0, none⟩), .pointer (some ⟨bT, 0, none⟩)] W fun e W' => (∃ v, e = .returned v) ∧
      (J (pathV S s) W' ∨ ∃ pre rest, pathV S s = pre ++ rest ∧ Jx pre W') := by
  have b0 := hF.bs.cell 0
  simp at b0
  refine callsIn_of_wp Tryz.func70 rfl trivial ?_ rfl
  simp only [Tryz.ntmps70, List.size_toArray, List.length_cons, List.length_nil, Nat.reduceAdd, Nat.reduceSub, Array.replicate_succ, Array.replicate_zero, List.push_toArray, List.append_toArray, List.nil_append, List.cons_append]
  gi_wp2
  gi_loopw [4] (fun u wr => ∃ (pre : List Int) (c : Int), u = .int .i64 c ∧ (-1 ≤ c ∧ c < (S.length : Int)) ∧ pathV S s = pre ++ pathV S c ∧ J pre wr ∧ PathF wr bS bT g m pa pc S s)
    (fun u _ => (intOf u + 1).toNat)
  case atStart => exact ⟨[], s, rfl, hs, rfl, h0, hF⟩
  case round =>
    obtain ⟨pre, c, rfl, hc, hp, hJs, hFr⟩ := hrel
    rcases place_cases gS hc with rfl | ⟨sv, p0, pv, p1, p2, p3⟩
    · have d : ((-1 : Int) == -1) = true := rfl
      rw [pathV_neg S (s := -1) (by omega)] at hp
      obtain ⟨fn, tmps, assign, body, hy, hR⟩ := hY _ (-1) [] wr hp hJs
      gi_wp2
      refine hR.mono ?_
      rintro e W3 (⟨rfl, hJ3, hk3⟩ | ⟨rfl, hJx3⟩)
      · gi_wp2
        go_end0
        exact ⟨⟨_, rfl⟩, .inl (by rw [hp]; exact hJ3)⟩
      · gi_wp2
        go_end0
        exact ⟨⟨_, rfl⟩, .inr ⟨_, [], by rw [hp, List.append_nil], hJx3⟩⟩
    · have d : (c == -1) = false := by simp; omega
      obtain ⟨k, hk⟩ : ∃ k : Nat, c.toNat = k := ⟨_, rfl⟩
      obtain rfl : c = (k : Int) := by omega
      simp only [Int.toNat_natCast] at pv
      have hp' : pathV S s = (pre ++ [(k : Int)]) ++ pathV S sv.par := by rw [hp, pathV_step gS p0 (by simpa using pv), List.append_assoc]; rfl
      have km : k < m := by
        rw [← hm]
        rcases Nat.lt_or_ge k S.length with q | q
        · exact q
        · rw [List.getElem?_eq_none q] at pv; cases pv
      obtain ⟨fn, tmps, assign, body, hy, hR⟩ := hY _ (k : Int) (pathV S sv.par) wr (by rw [hp', List.append_assoc]; rfl) hJs
      gi_wp2
      refine hR.mono ?_
      rintro e W3 (⟨rfl, hJ3, hk3⟩ | ⟨rfl, hJx3⟩)
      · have F3 := Lib.hid (hFr.holds hk3)
        have t0 := F3.out.bt.cell 0
        have tr := F3.out.tr
        simp at t0
        obtain ⟨b, off, hab, hcell⟩ := F3.out.par.cell km
        rw [List.getD_eq_getElem?_getD, List.getElem?_map, pv] at hcell
        simp only [Option.map_some, Option.getD_some] at hcell
        subst hab
        have ⟨cl1, cl2⟩ := F3.out.par.cap_le
        have j1 : (k : Int) < (m : Int) := by omega
        have j2 : 0 ≤ (k : Int) := by omega
        gi_wp2
        go_roundw
        case rel => exact ⟨pre ++ [(k : Int)], sv.par, rfl, ⟨p1, p3⟩, hp', hJ3, F3.out⟩
        case measure => simp [intOf]; omega
      · gi_wp2
        refine bodyPost_ret (results_none rfl _ _ _) rfl ?_
        exact ⟨⟨_, rfl⟩, .inr ⟨_, pathV S sv.par, hp', hJx3⟩⟩
/-- what path hands back, as a sequence that stops -/
theorem qpath_stops (n : Nat) (hn : 1 ≤ n) (bS bT g m : Nat) (pa : Option Addr) (pc : Nat) (S : List Sv) (gS : GoodSv S) (hm : S.length = m) (s : Int) (hs : -1 ≤ s ∧ s < (S.length : Int)) (w : World) (hF : PathF w bS bT g m pa pc S s) :
    SeqStopsK Fence.wide n Tryz.prog 70 #[.pointer (some ⟨bS, 0, none⟩), .pointer (some ⟨bT, 0, none⟩)] (fun x : Int => #[Value.int .i64 x]) (Holds (pathG bS bT g pa)) (fun ys => ys = pathV S s) (fun pre => ∃ rest, pathV S s = pre ++ rest) 17 w :=
  fun l J Jx W hW _ _ hY h0 => (qpath1_in n hn l bS bT g m pa pc S gS hm s hs J Jx (fun pre x rest W1 e hJ => hY pre x W1 hJ (by
    have PL := path_len gS s hs.1 hs.2
    have SL := gS.len
    have h1 := congrArg List.length e
    rw [List.length_append, List.length_cons] at h1
    omega)) W (hF.below hW) h0).mono fun e W' h => ⟨h.1, by
      rcases h.2 with q | ⟨pre, rest, q1, q2⟩
      · exact .inl ⟨_, rfl, q⟩
      · exact .inr ⟨pre, ⟨rest, q1⟩, q2⟩⟩
/-- a sequence of just these numbers, that may be stopped -/
def SeqOf (F : Fence) (n : Nat) (P : Program) (g : Nat) (lb : Array Value) (ys : List Int) (Kp : World → World → Prop) (w : World) : Prop :=
  ∀ (l : Nat) (J Jx : List Int → World → Prop) (W : World), Below w.heap.size w W →
    (∀ pre x rest W1, ys = pre ++ x :: rest → J pre W1 → YieldAt F (n - 1) P l #[.int .i64 x] W1 fun e W' => (e = .returned (.bool true) ∧ J (pre ++ [x]) W' ∧ Kp W1 W') ∨ (e = .returned (.bool false) ∧ Jx (pre ++ [x]) W')) →
    J [] W →
    CallsIn F n P g (#[.func (.yield l) #[] #[]] ++ lb) W fun e W' => (∃ v, e = .returned v) ∧ (J ys W' ∨ ∃ pre rest, ys = pre ++ rest ∧ Jx pre W')
theorem qpath_of (n : Nat) (hn : 1 ≤ n) (bS bT g m : Nat) (pa : Option Addr) (pc : Nat) (S : List Sv) (gS : GoodSv S) (hm : S.length = m) (s : Int) (hs : -1 ≤ s ∧ s < (S.length : Int)) (w : World) (hF : PathF w bS bT g m pa pc S s) :
    SeqOf Fence.wide n Tryz.prog 70 #[.pointer (some ⟨bS, 0, none⟩), .pointer (some ⟨bT, 0, none⟩)] (pathV S s) (Holds (pathG bS bT g pa)) w :=
  fun l J Jx W hW hY h0 => qpath1_in n hn l bS bT g m pa pc S gS hm s hs J Jx hY W (hF.below hW) h0
end
/-- how a round may be left: it goes on, or the loop is broken off -/
def leftX (B : Nat) (Kp : World → World → Prop) (I : List Int → World → Prop) (Ix : Nat → List Int → World → Prop) (xs : List Int) (W : World) : Exit → Act → World → Prop
  | .normal, _, W' => KeepsFrom B W W' ∧ Kp W W' ∧ I xs W'
  | .exit id, _, W' => KeepsFrom B W W' ∧ Ix id xs W'
  | _, _, _ => False
variable {F : Fence} {n : Nat} {P : Program}
/-- a loop over a sequence of known numbers: each round is told where it stands -/
theorem rangeFunc_of {g : Operand} {ps : Array Tmp} {assign body : Code} {Q : Exit → Act → World → Prop} {a : Act} {w : World}
    (hro : F.round = none) (h1 : 1 ≤ n) {gf : Nat} {lb : Array Value} (hg : a.eval g = .func (.func gf) #[] lb) (hFg : F.fn gf) (eg : ∀ args w, (callFunc gf args).run P w = .ok (.enter gf args) w)
    {ys : List Int} {Kp : World → World → Prop} {w0 : World} (hseq : SeqOf F (n - 1) P gf lb ys Kp w0)
    (hKt : ∀ {A B C : World}, Kp A B → Kp B C → Kp A C) (hKb : ∀ (W : World) (l : Nat) (o o' : Obj), w.heap.size ≤ l → W.heap[l]? = some o → o.isCells = false → o.isWalk = false → Kp W (W.putObj l o')) (hb0 : Below w0.heap.size w0 w) (hps : 1 = ps.size)
    (I : List Int → World → Prop) (Ix : Nat → List Int → World → Prop) (hI : OwnFrom w.heap.size I) (hIx : ∀ c, OwnFrom w.heap.size (Ix c)) (h0 : I [] w) (a₁ : Int → Act)
    (hassign : ∀ (l : Nat) (x : Int) (W : World) (K : Act → World → Prop), K (a₁ x) W →
      assign.wpIn (F.inRound l) (n - 1 - 1) P (Exit.then K (fun _ _ _ => False)) { tmps := (ps.zip #[.int .i64 x]).foldl (fun t (p, v) => t.setIfInBounds p v) a.tmps, defers := [] } W)
    (hbody : ∀ (l : Nat) (pre : List Int) (x : Int) (rest : List Int) (W : World), ys = pre ++ x :: rest → I pre W → body.wpIn (F.inRound l) (n - 1 - 1) P (leftX w.heap.size Kp I Ix (pre ++ [x]) W) (a₁ x) W)
    (hdone : ∀ (D : Nat) (W : World), w.heap.size ≤ D → I ys W → W.heap[D]? = some (.deferred (some [])) → Q .normal { a with defers := { target := .collected D, args := #[] } :: a.defers } W)
    (hstop : ∀ (D : Nat) (c : Nat) (pre rest : List Int) (W : World), w.heap.size ≤ D → ys = pre ++ rest → Ix c pre W → W.heap[D]? = some (.deferred (some [])) → (Code.exit c).wpIn F n P Q { a with defers := { target := .collected D, args := #[] } :: a.defers } W) :
    (Code.rangeFunc g ps assign body).wpIn F n P Q a w := by
  refine wpIn_rangeFunc fun fn hfn => ?_
  rw [hro]
  let rec' : LoopState → Option Code → Loop := fun st pe => { state := st, pending := pe, fn, tmps := a.tmps, params := ps, assign, body, defers := w.heap.size }
  have hrec : ∀ st pe, rec' st pe = { state := st, pending := pe, fn, tmps := a.tmps, params := ps, assign, body, defers := w.heap.size } := fun _ _ => rfl
  let W1 := (w.alloc (.deferred (some []))).alloc (.loop (rec' .ready none))
  have hL1 : W1.heap[w.heap.size + 1]? = some (.loop (rec' .ready none)) := by
    have := World.alloc_heap_new (w.alloc (.deferred (some []))) (.loop (rec' .ready none))
    rwa [World.size_alloc] at this
  have hK1 : W1.heap[w.heap.size]? = some (.deferred (some [])) := (Below.heap_alloc _ _ _ (by simp)).trans (World.alloc_heap_new w _)
  have hb1 : Below w0.heap.size w0 W1 := hb0.trans ((((Below.refl _ w).alloc (Nat.le_refl _) _).alloc (by simp) _).mono hb0.size)
  refine ⟨w.heap.size + 1, [{ target := .collected w.heap.size, args := #[] }], W1, { target := .fn (.func gf) lb, args := #[.func (.yield (w.heap.size + 1)) #[] #[]] }, W1, gf, #[.func (.yield (w.heap.size + 1)) #[] #[]] ++ lb, W1, run_enterLoop_outer _ _ _ _ _, ?_, ?_, ?_, fun _ => h1, ?_⟩
  · simp only [resolve, hg]
    simp [go_sem]
  · intro f' hf'
    simp [Target.leads] at hf'
    subst hf'
    exact hFg
  · simp [invoke, go_sem, eg]
  · refine (hseq (w.heap.size + 1) (fun pre W => I pre W ∧ W.heap[w.heap.size + 1]? = some (.loop (rec' .ready none)) ∧ W.heap[w.heap.size]? = some (.deferred (some [])))
      (fun pre W => ∃ c, Ix c pre W ∧ W.heap[w.heap.size + 1]? = some (.loop (rec' .done (some (.exit c)))) ∧ W.heap[w.heap.size]? = some (.deferred (some []))) W1 hb1 ?_ ⟨hI.alloc _ (hI.alloc _ h0), hL1, hK1⟩).mono ?_
    · rintro pre x rest W hys ⟨hi, hl, hk⟩
      have hlt : w.heap.size + 1 < W.heap.size := (Array.getElem?_eq_some_iff.1 hl).1
      refine ⟨fn, _, assign, body, run_yield (P := P) (args := #[.int .i64 x]) hl (by simpa using hps), roundIn_of_wpIn hfn (hassign _ x W _ ⟨_, run_beginRound hl rfl, ?_⟩)⟩
      let W2 := W.putObj (w.heap.size + 1) (.loop { rec' .ready none with state := .busy })
      have hl2 : W2.heap[w.heap.size + 1]? = some (.loop { rec' .ready none with state := .busy }) := World.putObj_heap_same hlt
      have hk2 : W2.heap[w.heap.size]? = some (.deferred (some [])) := (World.putObj_heap_other (by omega)).trans hk
      have hw2 : Kp W W2 := hKb _ _ _ _ (by omega) hl rfl rfl
      refine wpIn_mono (hbody _ pre x rest W2 hys (hI.putObj _ hi (by omega) hl rfl)) ?_
      rintro e a3 W3 hp
      cases e with
      | normal =>
        obtain ⟨hk3, hkp, hi3⟩ := hp
        have hl3 := hk3.same _ _ (by omega) hl2 rfl
        exact ⟨_, _, run_endRound (P := P) none hl3, .inl ⟨rfl, ⟨hI.putObj _ hi3 (by omega) hl3 rfl, World.putObj_heap_same (Array.getElem?_eq_some_iff.1 hl3).1, (World.putObj_heap_other (by omega)).trans (hk3.same _ _ (Nat.le_refl _) hk2 rfl)⟩, hKt (hKt hw2 hkp) (hKb _ _ _ _ (by omega) hl3 rfl rfl)⟩⟩
      | exit id =>
        obtain ⟨hk3, hi3⟩ := hp
        have hl3 := hk3.same _ _ (by omega) hl2 rfl
        exact ⟨_, _, run_endRound (P := P) (some (.exit id)) hl3, .inr ⟨rfl, id, (hIx id).putObj _ hi3 (by omega) hl3 rfl, World.putObj_heap_same (Array.getElem?_eq_some_iff.1 hl3).1, (World.putObj_heap_other (by omega)).trans (hk3.same _ _ (Nat.le_refl _) hk2 rfl)⟩⟩
      | ret => exact hp.elim
      | goto t => exact hp.elim
      | panic ch => exact hp.elim
      | outgrown => exact hp.elim
    · rintro e W2 ⟨⟨v, rfl⟩, (⟨hi, hl, hk⟩ | ⟨pre, rest, hys, c, hi, hl, hk⟩)⟩
      · exact ⟨none, _, run_endLoop (P := P) hl (by simp [hrec]), hdone _ _ (Nat.le_refl _) (hI.putObj _ hi (by omega) hl rfl) ((World.putObj_heap_other (by omega)).trans hk)⟩
      · exact ⟨some (.exit c), _, run_endLoop (P := P) hl (by simp [hrec]), hstop _ c pre rest _ (Nat.le_refl _) hys ((hIx c).putObj _ hi (by omega) hl rfl) ((World.putObj_heap_other (by omega)).trans hk)⟩
end Go.Proofs.YtbonilmlfelmpaaGreat
namespace Go.Proofs.YtbonilmlfelmpaaGreat
open Go.RowKit Go.Shelf

/-- append of one number to what is owned, in a round of a loop over a function -/
theorem app_intIn {F : Fence} {n : Nat} {w : World} {ops : Array Oper} {rest : List Oper} {o : Oper} {act : Act} {Q : Exit → Act → World → Prop} (hgd : o.guard = none) (s x : Operand)
    (ho : o.op = .call { callee := .builtin .append, args := #[s, x], argTypes := #[22, 22] }) (base : Nat)
    (v : Value) (ns : List Int) (hs : act.eval s = v) (hown : w.ownsRow base 3 1 v ns.length (ns.map (Value.int .i64))) (g : Nat) (p : Int) (hx : act.eval x = .slice (some ⟨g, 0, none⟩) 1 1)
    (hg : w.heap[g]? = some (.cells #[.int .i64 p] 3 (0, 0))) (hb : base ≤ w.heap.size) (hsm : ns.length ≤ 100000)
    (h : ∀ v' w', w'.ownsRow base 3 1 v' (ns ++ [p]).length ((ns ++ [p]).map (Value.int .i64)) → w.grownBy w' v.ownBlock → wpListIn F n Tryz.prog ops Q rest (act.put o.dst v') w') : wpListIn F n Tryz.prog ops Q (o :: rest) act w := by
  obtain ⟨i0, hi, hz0, hz1, hz2⟩ := info_parts Tryz.infoI
  refine wpListIn_append_own_at _ hgd s x _ ho base _ i0 _ 1 8 Tryz.underlying22 hi hz0 hz1 hz2 rfl (by decide) v _ _ hs hown ⟨g, 0, none⟩ 1 1 [.int .i64 p] hx rfl (World.news_of_block (cs := #[.int .i64 p]) (t := 3) (fr := (0, 0)) hg) (by simp [Value.oneCell']) (by unfold maxLen; omega) (by omega) hb ?_
  intro v2 w2 ho2 hg2 _ _
  refine h v2 w2 ?_ hg2
  rw [List.length_append, List.map_append]
  exact ho2
theorem Holds.of_below {G : Nat → Prop} {n : Nat} {w w' : World} (h : Below n w w') (hG : ∀ k, G k → k < n) : Holds G w w' := ⟨h.size, fun k q => h.block k (hG k q)⟩
theorem pathG_lt {W : World} {bS bT g m : Nat} {pa : Option Addr} {pc : Nat} {S : List Sv} {s : Int} (h : PathF W bS bT g m pa pc S s) {n : Nat} (hn : W.heap.size ≤ n) (hp : ∀ ad : Addr, pa = some ad → ad.block < W.heap.size) : ∀ k, pathG bS bT g pa k → k < n := by
  intro k hk
  rcases hk with rfl | rfl | rfl | ⟨ad, e, rfl⟩
  · have := h.bs.lt; omega
  · have := h.bt.lt; omega
  · have : k < W.heap.size := World.block_lt_of_cell? _ _ h.tr; omega
  · have := hp ad e; omega
section
attribute [local go_sem] Oper.semAt_some
set_option maxRecDepth 100000 in
set_option maxHeartbeats 2000000 in
theorem qseq_any (bS bT g m : Nat) (pa : Option Addr) (pc : Nat) (S : List Sv) (gS : GoodSv S) (hm : S.length = m) (s : Int) (hs : -1 ≤ s ∧ s < (S.length : Int)) (w : World) (hF : PathF w bS bT g m pa pc S s) (hpa : ∀ ad : Addr, pa = some ad → ad.block < w.heap.size) :
    Calls Tryz.prog 69 #[.slice none 0 0, .func (.func 70) #[] #[.pointer (some ⟨bS, 0, none⟩), .pointer (some ⟨bT, 0, none⟩)]] w fun e w' => ∃ a len cap, e = .returned (.slice a len cap) ∧ Row .i64 w' a len cap (pathV S s) ∧ Fresh w.heap.size a ∧ Below w.heap.size w w' := by
  refine (callsIn_wide (n := 3)).1 ?_
  refine callsIn_of_wp_marks Tryz.func69 rfl trivial ?_ rfl
  simp only [Tryz.ntmps69, List.size_toArray, List.length_cons, List.length_nil, Nat.reduceAdd, Nat.reduceSub, Array.replicate_succ, Array.replicate_zero, List.push_toArray, List.append_toArray, List.nil_append, List.cons_append]
  refine wpIn_wide.2 ?_
  go_wp2_with fail
  refine (wpIn_wide (n := 3)).1 ?_
  have hF' : PathF (w.alloc (.cells #[.slice none 0 0] 22)) bS bT g m pa pc S s := hF.below (wbox _ _)
  have GL := pathG_lt hF (n := w.heap.size) (Nat.le_refl _) hpa
  refine wpIn_rangeFunc_ownG rfl (by omega) (gf := 70) (lb := #[.pointer (some ⟨bS, 0, none⟩), .pointer (some ⟨bT, 0, none⟩)]) rfl trivial (enters_of Tryz.func70 (by kernel_rfl) rfl)
    (qpath_stops _ (by omega) bS bT g m pa pc S gS hm s hs _ hF') Holds.trans (holds_b (fun k q => by have := GL k q; simp; omega)) (Below.refl _ _) (fun _ => rfl)
    (fun pre W => (∃ v, Boxed W w.heap.size 22 v ∧ W.ownsRow w.heap.size 3 1 v pre.length (pre.map (Value.int .i64)) ∧ True) ∧ Below w.heap.size w W)
    (fun _ _ _ => False)
    (OwnFrom.and (Own.from (holdsRow_own w.heap.size w.heap.size 22 3 1 (fun pre : List Int => pre.length) (fun pre => pre.map (Value.int .i64)) (fun _ _ => True)) _) (ownFrom_below (Nat.le_refl _) (by simp)))
    (fun _ _ _ _ _ hs _ _ => hs)
    ⟨⟨.slice none 0 0, Boxed.new _ _ _, World.ownsRow_nil _ _ _ _, trivial⟩, wbox _ _⟩
    (fun x => { tmps := #[.slice none 0 0, .func (.func 70) #[] #[.pointer (some ⟨bS, 0, none⟩), .pointer (some ⟨bT, 0, none⟩)], .pointer (some ⟨w.heap.size, 0, none⟩), undef, .slice none 0 0, .int .i64 x, .func (.func 70) #[] #[.pointer (some ⟨bS, 0, none⟩), .pointer (some ⟨bT, 0, none⟩)], .int .i64 x, undef, undef, undef, undef, undef], defers := [] }) ?assign ?body ?done ?stop
  case assign =>
    intro l x W K hK
    gi_wp2
    exact hK
  case body =>
    rintro l pre x W ⟨⟨v, hbx, hown, _⟩, hB⟩ hlen
    have c0 := hbx.cell
    have f0 := hbx.frozen
    have O := Lib.hid hown
    have V := Lib.hid hbx
    have BW := Lib.hid hB
    clear hbx hown hB
    gi_wp2_with (gi_at_builtin; refine app_intIn rfl _ _ rfl w.heap.size _ pre rfl (O.out.alloc _) W.heap.size x rfl (heap_alloc_new _ _) (by have := BW.out.size; simp; omega) (by omega) ?_; intro v2 w2 ho2 hg2; obtain ⟨hb1, hb2, hb3, hb4, hb5⟩ := V.out.appended (by decide) O.out BW.out.size (Nat.le_refl _) ho2 hg2; have O2 := Lib.hid hb3; have V2 := Lib.hid hb2; have K2 := Lib.hid hb4; have B2 := Lib.hid hb5; have c5 := hb1.cell; have f5 := hb1.frozen; obtain ⟨g', cap', rfl⟩ := ownsRow_succ (k := pre.length) (by simpa using ho2); clear hb1 hb2 hb3 hb4 hb5 ho2 hg2)
    have ev : (pre ++ [x]).length = pre.length + 1 := by simp
    exact ⟨K2.out.from _, Holds.of_below B2.out GL, ⟨_, V2.out, by simpa using O2.out, trivial⟩, BW.out.trans B2.out⟩
  case done =>
    rintro D ys W hD rfl ⟨⟨v, hbx, hown, _⟩, hB⟩ hK
    obtain ⟨a', cap', rfl, hr, hf⟩ := row_of_owns (ownsRow_putObj hown (Obj.deferred none) hK rfl)
    have c0 := hbx.cell
    have R := Lib.hid hr
    have FR := Lib.hid hf
    clear hr hf hown hbx
    go_wp2
    refine ⟨by simp, .inl ⟨_, _, rfl, run_takeDeferred hK, ?_⟩⟩
    have B2 := belowK_b (n₀ := w.heap.size) (w := w) (Nat.le_refl _) W D _ (Obj.deferred none) (by simp at hD; omega) hK rfl rfl
    exact ⟨_, results_tmp rfl _ _ _, ⟨_, _, _, rfl, R.out, FR.out, hB.trans B2⟩⟩
  case stop =>
    rintro D c pre W _ _ h _
    exact h.elim
end
theorem qcollect_any (bS bT g m : Nat) (pa : Option Addr) (pc : Nat) (S : List Sv) (gS : GoodSv S) (hm : S.length = m) (s : Int) (hs : -1 ≤ s ∧ s < (S.length : Int)) (w : World) (hF : PathF w bS bT g m pa pc S s) (hpa : ∀ ad : Addr, pa = some ad → ad.block < w.heap.size) :
    Calls Tryz.prog 49 #[.func (.func 70) #[] #[.pointer (some ⟨bS, 0, none⟩), .pointer (some ⟨bT, 0, none⟩)]] w fun e w' => ∃ a len cap, e = .returned (.slice a len cap) ∧ Row .i64 w' a len cap (pathV S s) ∧ Fresh w.heap.size a ∧ Below w.heap.size w w' := by
  have HF := Lib.hid hF
  have HS := Lib.hid hs
  have HP := Lib.hid hpa
  clear hF hs hpa
  go_enter Tryz.func49, Tryz.ntmps49
  go_wp2_with fail
  refine (qseq_any bS bT g m pa pc S gS hm s HS.out w HF.out HP.out).mono ?_
  rintro e w1 ⟨a, len, cap, rfl, hr, hf, hb⟩
  have R := Lib.hid hr
  have FR := Lib.hid hf
  have B := Lib.hid hb
  clear hr hf hb
  go_wp2
  go_ret
  exact ⟨_, _, _, rfl, R.out, FR.out, B.out⟩
theorem row_nilQ {W : World} : Row .i64 W none 0 0 [] := ⟨rfl, by omega, by omega, (fun _ => rfl), (fun i hi => by omega)⟩
/-- what Path tells -/
def pathQ (S : List Sv) (s : Int) : List Int := if hasB S s then pathV S s else []
theorem qPath_nil (s : Int) (w : World) : Calls Tryz.prog 18 #[.pointer none, .int .i64 s] w fun e w' => e = .returned (.slice none 0 0) ∧ w = w' := by
  go_enter Tryz.func18, Tryz.ntmps18
  go_wp2_with fail
  refine (qhas_nil s _).mono ?_
  rintro e w1 ⟨rfl, rfl⟩
  go_wp2
  go_ret
  exact ⟨rfl, rfl⟩
set_option maxHeartbeats 1000000 in
theorem qPath_any {w : World} {t : TreeW} {S : List Sv} {N D : Int} {Ls : Int → List Hd} (h : TT w t S N D Ls) (hpa : ∀ ad : Addr, t.pa = some ad → ad.block < w.heap.size) (s : Int) :
    Calls Tryz.prog 18 #[.pointer (some ⟨t.g, 0, none⟩), .int .i64 s] w fun e w' => ∃ a len cap, e = .returned (.slice a len cap) ∧ Row .i64 w' a len cap (pathQ S s) ∧ Fresh w.heap.size a ∧ Below w.heap.size w w' := by
  have H := Lib.hid h
  have HP := Lib.hid hpa
  cases hb : hasB S s with
  | false =>
    have HB := Lib.hid hb
    rw [show pathQ S s = [] by unfold pathQ; rw [hb]; rfl]
    clear h hpa hb
    go_enter Tryz.func18, Tryz.ntmps18
    go_wp2_with fail
    refine (qhas_any H.out s false HB.out).mono ?_
    rintro e w1 ⟨rfl, rfl⟩
    go_wp2
    go_ret
    exact ⟨none, 0, 0, rfl, row_nilQ, Fresh.none, Below.refl _ _⟩
  | true =>
    have HB := Lib.hid hb
    have HS := Lib.hid (has_is.mp hb)
    rw [show pathQ S s = pathV S s by unfold pathQ; rw [hb]; rfl]
    clear h hpa hb
    go_enter Tryz.func18, Tryz.ntmps18
    go_wp2_with fail
    refine (qhas_any H.out s true HB.out).mono ?_
    rintro e w1 ⟨rfl, rfl⟩
    go_wp2_with fail
    refine (qpath_any t.g s w).mono ?_
    rintro e w2 ⟨rfl, rfl⟩
    go_wp2_with fail
    refine (qcollect_any (w.heap.size + 1) w.heap.size t.g S.length t.pa t.pc S H.out.sv rfl s HS.out _ (H.out.pathF s) (fun ad e => by have := HP.out ad e; show _ < (pathW w t.g s).heap.size; simp [pathW]; omega)).mono ?_
    rintro e w3 ⟨a, len, cap, rfl, hr, hf, hb⟩
    have B3 := Lib.hid (show Below w.heap.size w w3 from below_next (show Below w.heap.size w (pathW w t.g s) from wbox2 _ _ _) hb)
    have R := Lib.hid hr
    have FR := Lib.hid (hf.mono (show w.heap.size ≤ (pathW w t.g s).heap.size by simp [pathW]; omega))
    clear hr hf hb
    go_wp2
    go_ret
    exact ⟨_, _, _, rfl, R.out, FR.out, B3.out⟩
end Go.Proofs.YtbonilmlfelmpaaGreat
namespace Go.Proofs.YtbonilmlfelmpaaGreat
open Go.RowKit Go.Shelf

/-- a function value that asks a ledger so -/
structure AskOk (fid : FuncId) (caps : Array Value) (C : Nat → Prop) (w0 : World) (op : OpL) : Prop where
  enters : ∀ args w, (callFunc fid args).run Tryz.prog w = .ok (.enter fid args) w
  tells : ∀ W, Holds C w0 W → ∀ (g : Nat) (F A : Nat → Prop) (N D : Int) (hs : List Hd), HpL W g F A N D hs → hs.length ≤ 19 → Calls Tryz.prog fid (#[.pointer (some ⟨g, 0, none⟩)] ++ caps) W fun z W' => z = .returned (.int .i64 (op N D hs).1) ∧ StayF W g F A N D (op N D hs).2 W'
theorem AskOk.later {fid : FuncId} {caps : Array Value} {C : Nat → Prop} {w0 w1 : World} {op : OpL} (h : AskOk fid caps C w0 op) (k : Holds C w0 w1) : AskOk fid caps C w1 op := ⟨h.enters, fun W hW => h.tells W (k.trans hW)⟩
theorem ask_fits {w0 : World} {bw bi : Nat} {E P E2 P2 : Int} (h1 : Blk w0 46 bw #[.int .i64 E, .int .i64 P]) (h2 : Blk w0 46 bi #[.int .i64 E2, .int .i64 P2]) :
    AskOk 66 #[.pointer (some ⟨bw, 0, none⟩), .pointer (some ⟨bi, 0, none⟩)] (fun k => k = bw ∨ k = bi) w0 (fitsOp E P E2 P2) where
  enters := enters_of Tryz.func66 (by kernel_rfl) rfl
  tells W hW g F A N D hs h hl := by
    have k1 := hW.blk h1 (.inl rfl)
    have k2 := hW.blk h2 (.inr rfl)
    have a0 := k1.cell 0; have a1 := k1.cell 1; have b0 := k2.cell 0; have b1 := k2.cell 1
    simp at a0 a1 b0 b1
    have H := Lib.hid h
    have L := Lib.hid hl
    have FB := Lib.hid (show fitsOp E P E2 P2 N D hs = (if fitsV N D hs E P E2 P2 then 0 else 18, hs) from rfl)
    clear h hl hW h1 h2 k1 k2
    show Calls Tryz.prog 66 #[.pointer (some ⟨g, 0, none⟩), .pointer (some ⟨bw, 0, none⟩), .pointer (some ⟨bi, 0, none⟩)] W _
    go_enter Tryz.func66, Tryz.ntmps66
    go_wp2_with fail
    refine (ffits g F A N D hs E P E2 P2 W H.out (by have := L.out; omega)).mono ?_
    rintro e w1 ⟨rfl, hb⟩
    have B := Lib.hid hb
    clear hb
    cases hf : fitsV N D hs E P E2 P2 with
    | false =>
      have FC := Lib.hid (show fitsOp E P E2 P2 N D hs = (18, hs) by rw [FB.out, hf]; rfl)
      clear hf
      go_wp2
      go_ret
      exact ⟨by rw [FC.out]; rfl, by rw [FC.out]; exact H.out.stayF B.out⟩
    | true =>
      have FC := Lib.hid (show fitsOp E P E2 P2 N D hs = (0, hs) by rw [FB.out, hf]; rfl)
      clear hf
      go_wp2
      go_ret
      exact ⟨by rw [FC.out]; rfl, by rw [FC.out]; exact H.out.stayF B.out⟩
theorem ask_join {w0 : World} {bd bw : Nat} {id E P : Int} (h1 : Blk w0 3 bd #[.int .i64 id]) (h2 : Blk w0 46 bw #[.int .i64 E, .int .i64 P]) :
    AskOk 51 #[.pointer (some ⟨bd, 0, none⟩), .pointer (some ⟨bw, 0, none⟩)] (fun k => k = bd ∨ k = bw) w0 (joinOp id E P) where
  enters := enters_of Tryz.func51 (by kernel_rfl) rfl
  tells W hW g F A N D hs h hl := by
    have k1 := hW.blk h1 (.inl rfl)
    have k2 := hW.blk h2 (.inr rfl)
    have a0 := k1.cell 0; have b0 := k2.cell 0; have b1 := k2.cell 1
    simp at a0 b0 b1
    have H := Lib.hid h
    have L := Lib.hid hl
    have FB := Lib.hid (show joinOp id E P N D hs = joinV N D hs id E P from rfl)
    clear h hl hW h1 h2 k1 k2
    show Calls Tryz.prog 51 #[.pointer (some ⟨g, 0, none⟩), .pointer (some ⟨bd, 0, none⟩), .pointer (some ⟨bw, 0, none⟩)] W _
    go_enter Tryz.func51, Tryz.ntmps51
    go_wp2_with fail
    refine (fjoin g F A N D hs id E P W H.out L.out).mono ?_
    rintro e w1 ⟨rfl, hb⟩
    have B := Lib.hid hb
    clear hb
    go_wp2
    go_ret
    exact ⟨by rw [FB.out]; rfl, by rw [FB.out]; exact B.out⟩
theorem ask_ask {w0 : World} {bd bw : Nat} {id E P : Int} (h1 : Blk w0 3 bd #[.int .i64 id]) (h2 : Blk w0 46 bw #[.int .i64 E, .int .i64 P]) :
    AskOk 40 #[.pointer (some ⟨bd, 0, none⟩), .pointer (some ⟨bw, 0, none⟩)] (fun k => k = bd ∨ k = bw) w0 (askOp id E P) where
  enters := enters_of Tryz.func40 (by kernel_rfl) rfl
  tells W hW g F A N D hs h hl := by
    have k1 := hW.blk h1 (.inl rfl)
    have k2 := hW.blk h2 (.inr rfl)
    have a0 := k1.cell 0; have b0 := k2.cell 0; have b1 := k2.cell 1
    simp at a0 b0 b1
    have H := Lib.hid h
    have L := Lib.hid hl
    have FB := Lib.hid (show askOp id E P N D hs = askV N D hs id E P from rfl)
    clear h hl hW h1 h2 k1 k2
    show Calls Tryz.prog 40 #[.pointer (some ⟨g, 0, none⟩), .pointer (some ⟨bd, 0, none⟩), .pointer (some ⟨bw, 0, none⟩)] W _
    go_enter Tryz.func40, Tryz.ntmps40
    go_wp2_with fail
    refine (fask g F A N D hs id E P W H.out L.out).mono ?_
    rintro e w1 ⟨rfl, hb⟩
    have B := Lib.hid hb
    clear hb
    go_wp2
    go_ret
    exact ⟨by rw [FB.out]; rfl, by rw [FB.out]; exact B.out⟩
theorem ask_settle {w0 : World} {bd : Nat} {id : Int} (h1 : Blk w0 3 bd #[.int .i64 id]) :
    AskOk 44 #[.pointer (some ⟨bd, 0, none⟩)] (fun k => k = bd) w0 (settleOp id) where
  enters := enters_of Tryz.func44 (by kernel_rfl) rfl
  tells W hW g F A N D hs h _ := by
    have k1 := hW.blk h1 rfl
    have a0 := k1.cell 0
    simp at a0
    have H := Lib.hid h
    have FB := Lib.hid (show settleOp id N D hs = settleV hs id from rfl)
    clear h hW h1 k1
    show Calls Tryz.prog 44 #[.pointer (some ⟨g, 0, none⟩), .pointer (some ⟨bd, 0, none⟩)] W _
    go_enter Tryz.func44, Tryz.ntmps44
    go_wp2_with fail
    refine (fsettle g F A N D hs id W H.out).mono ?_
    rintro e w1 ⟨rfl, hb⟩
    have B := Lib.hid hb
    clear hb
    go_wp2
    go_ret
    exact ⟨by rw [FB.out]; rfl, by rw [FB.out]; exact B.out⟩
theorem ask_free {w0 : World} {bd : Nat} {id : Int} (h1 : Blk w0 3 bd #[.int .i64 id]) :
    AskOk 46 #[.pointer (some ⟨bd, 0, none⟩)] (fun k => k = bd) w0 (freeOp id) where
  enters := enters_of Tryz.func46 (by kernel_rfl) rfl
  tells W hW g F A N D hs h _ := by
    have k1 := hW.blk h1 rfl
    have a0 := k1.cell 0
    simp at a0
    have H := Lib.hid h
    have FB := Lib.hid (show freeOp id N D hs = freeV hs id from rfl)
    clear h hW h1 k1
    show Calls Tryz.prog 46 #[.pointer (some ⟨g, 0, none⟩), .pointer (some ⟨bd, 0, none⟩)] W _
    go_enter Tryz.func46, Tryz.ntmps46
    go_wp2_with fail
    refine (ffree g F A N D hs id W H.out).mono ?_
    rintro e w1 ⟨rfl, hb⟩
    have B := Lib.hid hb
    clear hb
    go_wp2
    go_ret
    exact ⟨by rw [FB.out]; rfl, by rw [FB.out]; exact B.out⟩
end Go.Proofs.YtbonilmlfelmpaaGreat
