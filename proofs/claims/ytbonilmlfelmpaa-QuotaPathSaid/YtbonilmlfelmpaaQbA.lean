/-
  The document's own tree (regattaref13): its holders and servers in memory; holds: contract.
  Rows of numbers: one more at the end; two that are the same (regattaref07.Same).
-/
import Derived.Test.YtbonilmlfelmpaaQaA
import Derived.Test.YtbonilmlfelmpaaQu1
import Derived.Test.YtbonilmlfelmpaaWr1
import Derived.Test.YtbonilmlfelmpaaHoB
import Derived.Test.YtbonilmlfelmpaaHoC
import Derived.Deep.AppendLies
import Derived.Deep.AppendSrc
import Derived.Deep.RegionLaw
import Derived.Deep.RegionHeld3
namespace Go.Proofs.Ytbonilmlfelmpaa
open Go.RowKit

abbrev Hq.id (q : Hq) : Int := q.h.id
abbrev Hq.E (q : Hq) : Int := q.h.E
abbrev Hq.P (q : Hq) : Int := q.h.P
abbrev Hq.NE (q : Hq) : Int := q.h.NE
abbrev Hq.NP (q : Hq) : Int := q.h.NP
abbrev Hq.asked (q : Hq) : Bool := q.h.asked
def Hq.cs (q : Hq) : List Value := [.int .i64 q.id, .int .i64 q.srv, .int .i64 q.E, .int .i64 q.P, .int .i64 q.NE, .int .i64 q.NP, .bool q.asked]
theorem wideQ (l : List Hq) : Wide 7 (l.map Hq.cs) := fun r hr => by
  obtain ⟨s, _, rfl⟩ := List.mem_map.mp hr
  rfl
theorem oneQ (h : Hq) : ∀ u ∈ h.cs, u.oneCell' = true := by
  intro u hu
  simp [Hq.cs] at hu
  rcases hu with rfl | rfl | rfl | rfl | rfl | rfl | rfl <;> rfl
theorem onesQ (l : List Hq) : ∀ u ∈ (l.map Hq.cs).flatten, u.oneCell' = true := by
  intro u hu
  obtain ⟨r, hr, hu⟩ := List.mem_flatten.mp hu
  obtain ⟨h, _, rfl⟩ := List.mem_map.mp hr
  exact oneQ h u hu
theorem flatQ_len (l : List Hq) : (l.map Hq.cs).flatten.length = l.length * 7 := by rw [flat_len _ (wideQ l), List.length_map]
theorem flatQ_at {l : List Hq} {i : Nat} {s : Hq} (h : l[i]? = some s) {k : Nat} (hk : k < 7) : (l.map Hq.cs).flatten[i * 7 + k]? = s.cs[k]? := by
  have hi : i < l.length := by
    rcases Nat.lt_or_ge i l.length with q | q
    · exact q
    · rw [List.getElem?_eq_none q] at h; cases h
  rw [flat_at _ (wideQ l) i (by rw [List.length_map]; exact hi) k hk, List.getD_eq_getElem?_getD, List.getElem?_map, h]
  rfl
structure HqAt (W : World) (b o : Nat) (q : Hq) : Prop where
  c0 : W.cell? ⟨b, o, none⟩ = some (.int .i64 q.h.id)
  c1 : W.cell? ⟨b, o + 1, none⟩ = some (.int .i64 q.srv)
  c2 : W.cell? ⟨b, o + 2, none⟩ = some (.int .i64 q.h.E)
  c3 : W.cell? ⟨b, o + 3, none⟩ = some (.int .i64 q.h.P)
  c4 : W.cell? ⟨b, o + 4, none⟩ = some (.int .i64 q.h.NE)
  c5 : W.cell? ⟨b, o + 5, none⟩ = some (.int .i64 q.h.NP)
  c6 : W.cell? ⟨b, o + 6, none⟩ = some (.bool q.h.asked)
/-- a row of holders -/
def RowQ (W : World) (a : Option Addr) (len cap : Nat) (hs : List Hq) : Prop := RowF W a len cap 7 (hs.map Hq.cs)
theorem RowQ.len {W : World} {a : Option Addr} {len cap : Nat} {hs : List Hq} (h : RowQ W a len cap hs) : hs.length = len := by have := h.1; rwa [List.length_map] at this
theorem RowQ.below {W W' : World} {a : Option Addr} {len cap : Nat} {hs : List Hq} (h : RowQ W a len cap hs) (hb : Below W.heap.size W W') : RowQ W' a len cap hs := RowF.below (wideQ hs) h hb
theorem RowQ.at {W : World} {a : Option Addr} {len cap : Nat} {hs : List Hq} (h : RowQ W a len cap hs) {i : Nat} {e : Hq} (he : hs[i]? = some e) : ∃ b off, a = some ⟨b, off, none⟩ ∧ HqAt W b (off + i * 7) e := by
  have hi : i < len := by
    rw [← h.len]
    rcases Nat.lt_or_ge i hs.length with g | g
    · exact g
    · rw [List.getElem?_eq_none g] at he; cases he
  obtain ⟨b, off, ha, hc⟩ := h.2.2.2.2 i hi
  have hg : (hs.map Hq.cs).getD i [] = e.cs := by rw [List.getD_eq_getElem?_getD, List.getElem?_map, he]; rfl
  rw [hg] at hc
  exact ⟨b, off, ha, hc 0 (by omega), hc 1 (by omega), hc 2 (by omega), hc 3 (by omega), hc 4 (by omega), hc 5 (by omega), hc 6 (by omega)⟩
/-! ### servers in memory -/
def Sv.cs (s : Sv) : List Value := [.int .i64 s.par, .int .i64 s.E, .int .i64 s.P]
theorem wideS (l : List Sv) : Wide 3 (l.map Sv.cs) := fun r hr => by
  obtain ⟨s, _, rfl⟩ := List.mem_map.mp hr
  rfl
structure SvAt (W : World) (b o : Nat) (s : Sv) : Prop where
  c0 : W.cell? ⟨b, o, none⟩ = some (.int .i64 s.par)
  c1 : W.cell? ⟨b, o + 1, none⟩ = some (.int .i64 s.E)
  c2 : W.cell? ⟨b, o + 2, none⟩ = some (.int .i64 s.P)
/-- a row of servers -/
def RowS (W : World) (a : Option Addr) (len cap : Nat) (S : List Sv) : Prop := RowF W a len cap 3 (S.map Sv.cs)
theorem RowS.len {W : World} {a : Option Addr} {len cap : Nat} {S : List Sv} (h : RowS W a len cap S) : S.length = len := by have := h.1; rwa [List.length_map] at this
theorem RowS.below {W W' : World} {a : Option Addr} {len cap : Nat} {S : List Sv} (h : RowS W a len cap S) (hb : Below W.heap.size W W') : RowS W' a len cap S := RowF.below (wideS S) h hb
theorem RowS.keeps {W W' : World} {G : Nat → Prop} {a : Option Addr} {len cap : Nat} {S : List Sv} (h : RowS W a len cap S) (k : Keeps G W W') (hG : ∀ ad : Addr, a = some ad → ¬ G ad.block) : RowS W' a len cap S := RowF.keeps h (wideS S) (by omega) k hG
theorem RowS.at {W : World} {a : Option Addr} {len cap : Nat} {S : List Sv} (h : RowS W a len cap S) {i : Nat} {e : Sv} (he : S[i]? = some e) : ∃ b off, a = some ⟨b, off, none⟩ ∧ SvAt W b (off + i * 3) e := by
  have hi : i < len := by
    rw [← h.len]
    rcases Nat.lt_or_ge i S.length with g | g
    · exact g
    · rw [List.getElem?_eq_none g] at he; cases he
  obtain ⟨b, off, ha, hc⟩ := h.2.2.2.2 i hi
  have hg : (S.map Sv.cs).getD i [] = e.cs := by rw [List.getD_eq_getElem?_getD, List.getElem?_map, he]; rfl
  rw [hg] at hc
  exact ⟨b, off, ha, hc 0 (by omega), hc 1 (by omega), hc 2 (by omega)⟩
end Go.Proofs.Ytbonilmlfelmpaa
namespace Go.Proofs.Ytbonilmlfelmpaa
open Go.RowKit

theorem hb_cell {w w2 : World} {p : Addr} {v : Value} (hb : Below w.heap.size w w2) (h : w.cell? p = some v) : w2.cell? p = some v := (hb.cell (World.block_lt_of_cell? _ _ h)).trans h
theorem Try.infoI : (Try.prog.info? 3).map (fun i => (i.zero, i.size, i.bytes)) = some (some (.int .i64 0), 1, 8) := by kernel_rfl
theorem app_int {w : World} {ops : Array Oper} {rest : List Oper} {o : Oper} {act : Act} {Q : Exit → Act → World → Prop} (hgd : o.guard = none) (s x : Operand)
    (ho : o.op = .call { callee := .builtin .append, args := #[s, x], argTypes := #[22, 22] }) (base : Nat)
    (v : Value) (ns : List Int) (hs : act.eval s = v) (hown : w.ownsRow base 3 1 v ns.length (ns.map (Value.int .i64))) (g : Nat) (e : Int) (hx : act.eval x = .slice (some ⟨g, 0, none⟩) 1 1)
    (hg : w.heap[g]? = some (.cells #[.int .i64 e] 3 (0, 0))) (hb : base ≤ w.heap.size) (hsm : ns.length ≤ 100000)
    (h : ∀ v' w', w'.ownsRow base 3 1 v' (ns ++ [e]).length ((ns ++ [e]).map (Value.int .i64)) → w.grownBy w' v.ownBlock → wpList Try.prog ops Q rest (act.put o.dst v') w') : wpList Try.prog ops Q (o :: rest) act w := by
  obtain ⟨i0, hi, hz0, hz1, hz2⟩ := info_parts Try.infoI
  refine wpList_append_own _ hgd s x _ ho base _ i0 _ 1 8 Try.underlying22 hi hz0 hz1 hz2 rfl (by decide) v _ _ hs hown ⟨g, 0, none⟩ 1 1 [.int .i64 e] hx rfl (World.news_of_block (cs := #[.int .i64 e]) (t := 3) (fr := (0, 0)) hg) (by simp [Value.oneCell']) (by unfold maxLen; omega) (by omega) hb ?_
  intro v2 w2 ho2 hg2 _
  refine h v2 w2 ?_ hg2
  rw [List.length_append, List.map_append]
  exact ho2
theorem getI {zs : List Int} {i : Nat} (hi : i < zs.length) : ∃ y, zs.getD i 0 = y ∧ zs.drop i = y :: zs.drop (i + 1) :=
  ⟨zs[i], by rw [List.getD_eq_getElem?_getD, List.getElem?_eq_getElem hi]; rfl, List.drop_eq_getElem_cons hi⟩
set_option maxHeartbeats 2000000 in
/-- of two rows that are the same it tells so -/
theorem r7same_yes (a b : Option Addr) (len ca cb : Nat) (zs : List Int) (w : World) (ha : Row .i64 w a len ca zs) (hb : Row .i64 w b len cb zs) :
    Calls Try.prog 21 #[.slice a len ca, .slice b len cb] w fun e w' => e = .returned (.bool true) ∧ Below w.heap.size w w' := by
  have HA := Lib.hid ha
  have HB := Lib.hid hb
  have ⟨c1, c2⟩ := ha.cap_le
  clear ha hb
  go_enter Try.func21, Try.ntmps21
  go_wp2
  go_loopw [5] (fun u wr => ∃ (i : Nat), u = .int .i64 i ∧ i ≤ len ∧ Below w.heap.size w wr) (fun u _ => len - (intOf u).toNat)
  case atStart => exact ⟨0, rfl, by omega, Below.refl _ _⟩
  case round =>
    obtain ⟨i, rfl, il, hbel⟩ := hrel
    have B := Lib.hid hbel
    clear hbel
    by_cases go : i < len
    · have b1 : decide (i < len) = true := by simp; omega
      have b2 : decide ((i : Int) < (len : Int)) = true := by simp; omega
      obtain ⟨bl, ol, rfl, hat⟩ := HA.out.cell go
      obtain ⟨bo, oo, rfl, hbt⟩ := HB.out.cell go
      obtain ⟨x, hx⟩ : ∃ x, zs.getD i 0 = x := ⟨_, rfl⟩
      rw [hx] at hat hbt
      have XW := Lib.hid hat
      have YW := Lib.hid hbt
      clear hx hat hbt
      have i1 : (i : Int) < (len : Int) := by omega
      have i2 : 0 ≤ (i : Int) := by omega
      go_upto_region 6 with fail
      have KEPT := Lib.hid (show ∀ w' : World, Below w.heap.size w w' → w'.cell? ⟨bl, ol + i, none⟩ = some (.int .i64 x) ∧ w'.cell? ⟨bo, oo + i, none⟩ = some (.int .i64 x) from fun w' h => ⟨hb_cell h XW.out, hb_cell h YW.out⟩)
      have BL := Lib.hid B.out.drew
      go_region_held3 (fun w' => w'.cell? ⟨bl, ol + i, none⟩ = some (.int .i64 x) ∧ w'.cell? ⟨bo, oo + i, none⟩ = some (.int .i64 x))
        (exact KEPT.out _ BL.out)
        (fail)
      all_goals
        go_wp2
        go_roundw
        case rel => exact ⟨i + 1, by go_num, by omega, BL.out⟩
        case measure => simp [intOf]; omega
    · have b1 : decide (i < len) = false := by simp; omega
      have b2 : decide ((i : Int) < (len : Int)) = false := by simp; omega
      go_wp2
      go_ret
      exact ⟨rfl, B.out⟩
end Go.Proofs.Ytbonilmlfelmpaa
