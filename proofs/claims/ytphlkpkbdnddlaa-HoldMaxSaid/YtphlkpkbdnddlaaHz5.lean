/-
  Package hold as landed: what its ledger tells of what each holder holds, one by one, in whatever order the map is gone through.
-/
import Derived.Test.YtphlkpkbdnddlaaHz3
import Derived.Test.YtphlkpkbdnddlaaHz4
namespace Go.Proofs.Ytphlkpkbdnddlaa
open Go.RowKit

/-- what a holder holds, as the map's element tells it -/
def shareOf (v : Value) : Int × Int :=
  match v with
  | .agg cs => match cs.toList with
    | [.int _ E, .int _ P, .int _ NE, .int _ NP] => holdsV ⟨0, E, P, NE, NP, askB NE NP⟩
    | _ => (0, 1)
  | _ => (0, 1)
theorem share_is {N D : Int} {hs : List Hd} (g : GoodL N D hs) {x : Hd} (h : x ∈ hs) : shareOf x.mv = holdsV x := by
  have := asked_is g h
  obtain ⟨id, E, P, NE, NP, asked⟩ := x
  simp only at this
  show holdsV ⟨0, E, P, NE, NP, askB NE NP⟩ = _
  rw [this]
  rfl
theorem shares_all {N D : Int} {hs : List Hd} (g : GoodL N D hs) {es : List MapEntry} (q : es.map kvE = hs.map Hd.kv) : es.map (fun e => shareOf e.val) = wsL hs := by
  have h1 : es.map (fun e => shareOf e.val) = (es.map kvE).map (fun p => shareOf p.2) := by rw [List.map_map]; rfl
  rw [h1, q, List.map_map]
  unfold wsL
  exact List.map_congr_left fun x hx => share_is g hx
theorem holder_of {hs : List Hd} {es : List MapEntry} (q : es.map kvE = hs.map Hd.kv) {e : MapEntry} (he : e ∈ es) : ∃ x ∈ hs, e.val = x.mv := by
  have : kvE e ∈ hs.map Hd.kv := by rw [← q]; exact List.mem_map_of_mem he
  obtain ⟨x, hx, e1⟩ := List.mem_map.mp this
  exact ⟨x, hx, (Prod.mk.inj e1).2.symm⟩
theorem left_list (es : Array MapEntry) (seen : Array Nat) : (leftOf es seen).toList = es.toList.filter (fun e => !seen.contains e.born) := by simp [leftOf]
theorem left_perm (l : List MapEntry) (nd : (l.map (·.born)).Nodup) (seen : Array Nat) (e : MapEntry) (he : e ∈ l) (h : seen.contains e.born = false) :
    (l.filter (fun x => !seen.contains x.born)).Perm (e :: l.filter (fun x => !(seen.push e.born).contains x.born)) := by
  induction l with
  | nil => cases he
  | cons x l ih =>
    rw [List.map_cons, List.nodup_cons] at nd
    obtain ⟨n1, n2⟩ := nd
    have q : ∀ y : MapEntry, y.born ≠ e.born → (!(seen.push e.born).contains y.born) = !seen.contains y.born := fun y hy => by
      congr 1
      rw [Bool.eq_iff_iff]
      simp [hy]
    rcases List.mem_cons.mp he with rfl | hm
    · rw [List.filter_cons_of_pos (by simp at h ⊢; exact h), List.filter_cons_of_neg (by simp)]
      refine List.Perm.cons _ (List.Perm.of_eq (List.filter_congr fun y hy => (q y (fun e2 => n1 (e2 ▸ List.mem_map_of_mem hy))).symm))
    · have hne : x.born ≠ e.born := fun e2 => n1 (e2 ▸ List.mem_map_of_mem hm)
      have := ih n2 hm
      by_cases hc : seen.contains x.born
      · rw [List.filter_cons_of_neg (by rw [hc]; decide), List.filter_cons_of_neg (by rw [q x hne, hc]; decide)]
        exact this
      · rw [List.filter_cons_of_pos (by simpa using hc), List.filter_cons_of_pos (by rw [q x hne]; simpa using hc)]
        exact (this.cons x).trans (List.Perm.swap e x _)
theorem grown_of_below {w w' : World} (h : Below w.heap.size w w') : w.grownBy w' none := ⟨h.os, h.tape, h.output, h.size, fun i hi _ => h.block i hi⟩
theorem walks_grown {w w' : World} (h : w.grownBy w' none) : KeepsWalks w w' := ⟨h.size, fun k o hk _ => (h.block k (Array.getElem?_eq_some_iff.1 hk).1 (by simp)).trans hk⟩

section
attribute [local go_sem] Oper.semAt_some
set_option maxRecDepth 100000 in
set_option maxHeartbeats 2000000 in
theorem hshares_in (n : Nat) (hn : 1 ≤ n) {w : World} {g m : Nat} {A : Nat → Prop} {an : Option Addr} {ln cn : Nat} {ad : Option Addr} {ld cd : Nat} {N D : Int} {hs : List Hd} (h : LH w g m A an ln cn ad ld cd N D hs) (gd : GoodL N D hs) :
    GivesAll Fence.wide n Try.prog 58 #[.pointer (some ⟨g, 0, none⟩)] (fun p : Int × Int => #[.agg #[.int .i64 p.1, .int .i64 p.2]]) (fun ps => ps.Perm (wsL hs)) hs.length w := by
  intro l J W hW hJ hY h0
  have H := Lib.hid (h.below hW)
  clear h
  obtain ⟨es, clock, hm1, hm2, hm3, hm4⟩ := H.out.map
  have c2 := H.out.blk.cell 2
  simp at c2
  have hL := H.out.map.lt
  have hrange := run_range_map (P := Try.prog) W 66 _ _ m es clock Try.underlying66 hm1
  have GD := Lib.hid gd
  have KV := Lib.hid hm2
  have BO := Lib.hid hm3
  have ND := Lib.hid hm4
  have SZ := Lib.hid (show es.toList.length = hs.length by have := congrArg List.length hm2; rw [List.length_map, List.length_map] at this; exact this)
  clear gd hm2 hm3 hm4
  refine callsIn_of_wp Try.func58 rfl trivial ?_ rfl
  simp only [Try.ntmps58, List.size_toArray, List.length_cons, List.length_nil, Nat.reduceAdd, Nat.reduceSub, Array.replicate_succ, Array.replicate_zero, List.push_toArray, List.append_toArray, List.nil_append, List.cons_append]
  gi_wp2
  gi_loopw [5] (fun s wr => ∃ (seen : Array Nat) (c0 : Nat) (pre : List (Int × Int)), wr.heap[W.heap.size]? = some (.mapIter (some m) clock seen c0) ∧ clock ≤ c0 ∧ wr.heap[m]? = some (.map es clock) ∧ J pre wr ∧ (pre ++ (leftOf es seen).toList.map (fun e => shareOf e.val)).Perm (wsL hs) ∧ seen.size = pre.length)
    (fun _ wr => hs.length - (wr.iterSeen W.heap.size).size)
  case atStart =>
    refine ⟨#[], clock, [], heap_alloc_new _ _, Nat.le_refl _, (heap_alloc_old _ _ hL).trans hm1, hJ _ _ _ none h0 (World.grownBy_alloc W _ none) (by simp), ?_, rfl⟩
    rw [left_list, ← shares_all GD.out KV.out, List.filter_eq_self.mpr (by simp)]
    exact List.Perm.refl _
  case round =>
    obtain ⟨seen, c0, pre, h1, h2, h3, hJs, hp, hsz⟩ := hrel
    rcases run_next_at (P := Try.prog) wr 0 W.heap.size m clock c0 seen es clock h1 h3 BO.out h2 with ⟨hz, hrun⟩ | ⟨e, he, w1, hal, hrun⟩
    · have PP := Lib.hid (show pre.Perm (wsL hs) by
        have : (leftOf es seen).toList = [] := by rw [Array.eq_empty_of_size_eq_zero hz]
        rw [this] at hp
        simpa using hp)
      have JJ := Lib.hid hJs
      clear hz hp hJs
      gi_wp2
      go_end0
      exact ⟨⟨_, rfl⟩, _, PP.out, JJ.out⟩
    · rw [left_list] at he
      obtain ⟨he1, he2⟩ := List.mem_filter.mp he
      have he2 : seen.contains e.born = false := by simpa using he2
      obtain ⟨x, hx, hev⟩ := holder_of KV.out he1
      obtain ⟨W1, hW1⟩ : ∃ W1, ChangeMaps.setBlock w1 W.heap.size (.mapIter (some m) clock (seen.push e.born) clock) = W1 := ⟨_, rfl⟩
      rw [hW1] at hrun
      have a1 : w1.heap[W.heap.size]? = some (.mapIter (some m) clock seen c0) := by rcases hal with rfl | rfl <;> exact h1
      have g1 : wr.grownBy W1 (some W.heap.size) := by
        rw [← hW1]
        have : wr.heap = w1.heap ∧ wr.os = w1.os ∧ wr.tape = w1.tape ∧ wr.output = w1.output := by rcases hal with rfl | rfl <;> exact ⟨rfl, rfl, rfl, rfl⟩
        obtain ⟨q1, q2, q3, q4⟩ := this
        exact ⟨q2.symm, q3.symm, q4.symm, by rw [q1]; simp [ChangeMaps.setBlock], fun k _ hk => by
          have hk' : W.heap.size ≠ k := fun e2 => hk (by rw [e2])
          rw [q1]
          simp [ChangeMaps.setBlock, Array.getElem?_setIfInBounds_ne hk']⟩
      have b1 : W1.heap[W.heap.size]? = some (.mapIter (some m) clock (seen.push e.born) clock) := by
        rw [← hW1]
        simp only [ChangeMaps.setBlock]
        exact (by rw [Array.getElem?_setIfInBounds_self_of_lt (Array.getElem?_eq_some_iff.1 a1).1])
      have b2 : W1.heap[m]? = some (.map es clock) := (g1.block m (Array.getElem?_eq_some_iff.1 h3).1 (fun e2 => by cases e2; omega)).trans h3
      have hen := run_entry_at (P := Try.prog) W1 W.heap.size m clock seen es clock e b1 b2 he1 ND.out
      have J1 := Lib.hid (hJ _ _ _ (some W.heap.size) hJs g1 (fun k e2 => by cases e2; exact ⟨Nat.le_refl _, _, h1, rfl⟩))
      have hlp := left_perm es.toList ND.out seen e he1 he2
      have hsh := share_is GD.out hx
      have PP := Lib.hid (show ((pre ++ [holdsV x]) ++ (leftOf es (seen.push e.born)).toList.map (fun e => shareOf e.val)).Perm (wsL hs) by
        refine List.Perm.trans ?_ hp
        rw [left_list, left_list, List.append_assoc]
        refine List.Perm.append_left pre ?_
        have := (hlp.map (fun e => shareOf e.val)).symm
        rw [List.map_cons, hev, hsh] at this
        exact this)
      have PL := Lib.hid (show pre.length < hs.length by
        have := PP.out.length_eq
        rw [List.length_append, List.length_append] at this
        unfold wsL at this
        simp at this
        omega)
      have M1 := Lib.hid b1
      have M2 := Lib.hid b2
      have S1 := Lib.hid hsz
      have X := Lib.hid hx
      obtain ⟨⟨sx, sy⟩, hxy⟩ : ∃ p : Int × Int, holdsV x = p := ⟨_, rfl⟩
      rw [hxy] at PP
      have XY := Lib.hid hxy
      have MS := Lib.hid (show (wr.iterSeen W.heap.size).size = pre.length by unfold World.iterSeen; rw [h1]; exact hsz)
      rw [hev] at hen hrun
      unfold Hd.mv at hen hrun
      clear hW1 a1 g1 b1 b2 hlp hsh hp hJs he he1 he2 hal h1 h2 h3 hsz hx hxy
      gi_wp2_with (refine ⟨trivial, ?_⟩; gi_at_call 75; refine (callsIn_wide.2 (hshare_any x (GD.out.each x X.out) (asked_is GD.out X.out) sx sy XY.out _)).mono ?_; rintro e2 w2 ⟨rfl, hb⟩; have B2 := Lib.hid hb; clear hb)
      have hbx := Lib.hid (wbox W1 (.cells #[.int .i64 x.E, .int .i64 x.P, .int .i64 x.NE, .int .i64 x.NP] 71))
      have B3 := Lib.hid (below_next hbx.out B2.out)
      have J2 := Lib.hid (hJ _ _ _ none J1.out (grown_of_below B3.out) (by simp))
      obtain ⟨fn, tmps, assign, body, hy, hRR⟩ := hY pre (sx, sy) w2 J2.out PL.out
      clear hen hrun
      gi_wp2
      refine hRR.mono ?_
      rintro e3 W3 ⟨rfl, hJ3, hk3⟩
      have k1 := hk3.same _ _ ((B3.out.block _ (Array.getElem?_eq_some_iff.1 M1.out).1).trans M1.out) rfl
      have k2 := hk3.same _ _ ((B3.out.block _ (Array.getElem?_eq_some_iff.1 M2.out).1).trans M2.out) rfl
      have K1 := Lib.hid k1
      have K2 := Lib.hid k2
      have J3 := Lib.hid hJ3
      clear k1 k2 hJ3 hk3 hy hRR
      gi_wp2
      go_roundw
      case rel => exact ⟨seen.push e.born, clock, pre ++ [(sx, sy)], K1.out, Nat.le_refl _, K2.out, J3.out, PP.out, by simp [S1.out]⟩
      case measure =>
        have a := MS.out
        have b := PL.out
        have c : (W3.iterSeen W.heap.size).size = seen.size + 1 := by unfold World.iterSeen; rw [K1.out]; simp
        have d := S1.out
        omega
end
end Go.Proofs.Ytphlkpkbdnddlaa
