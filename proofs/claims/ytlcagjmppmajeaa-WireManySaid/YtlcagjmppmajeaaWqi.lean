/-
  Package wire's Read: contract.
-/
import Derived.Test.YtlcagjmppmajeaaWqh
namespace Go.Proofs.Ytlcagjmppmajeaa
open Go.RowKit

/-- commands that were read: a row of one's own, their parts apart of it -/
structure OutC (base : Nat) (W : World) (v : Value) (L : List (Cm × Value)) : Prop where
  row : W.ownsRow base 37 9 v L.length (L.map px).flatten
  parts : ∀ x ∈ L, PartsAt W x.2 x.1.parts
  far : ∀ x ∈ L, ∀ a len cap, x.2 = .slice a len cap → ∀ ad : Addr, a = some ad → v.ownBlock ≠ some ad.block
theorem OutC.nil (base : Nat) (W : World) : OutC base W (.slice none 0 0) [] := ⟨World.ownsRow_nil _ _ _ _, by simp, by simp⟩
theorem OutC.below {base : Nat} {W W' : World} {v : Value} {L : List (Cm × Value)} (h : OutC base W v L) (hb : Below W.heap.size W W') : OutC base W' v L := ⟨owns_below h.row hb, fun x hx => (h.parts x hx).below hb, h.far⟩
theorem PartsAt.keeps {F : Nat → Prop} {W W' : World} {v : Value} {ps : List (Int × Int)} (h : PartsAt W v ps) (k : Keeps F W W') (hF : ∀ a len cap, v = .slice a len cap → ∀ ad : Addr, a = some ad → ¬ F ad.block) : PartsAt W' v ps := by
  obtain ⟨a, cap, e, hr⟩ := h
  exact ⟨a, cap, e, hr.keeps k (hF _ _ _ e)⟩
theorem OutC.row_ {base : Nat} {W : World} {v : Value} {L : List (Cm × Value)} (h : OutC base W v L) : ∃ a cap, v = .slice a L.length cap ∧ RowC W a L.length cap L := by
  obtain ⟨a, cap, h1, h2, _⟩ := rowF_of_owns (wideC L) h.row (by rw [List.length_map])
  exact ⟨a, cap, h1, h2, h.parts⟩
/-- append of one command to what is owned -/
theorem app_cmd {w : World} {ops : Array Oper} {rest : List Oper} {o : Oper} {act : Act} {Q : Exit → Act → World → Prop} (hgd : o.guard = none) (s x : Operand)
    (ho : o.op = .call { callee := .builtin .append, args := #[s, x], argTypes := #[22, 22] }) (base : Nat)
    (v : Value) (L : List (Cm × Value)) (hs : act.eval s = v) (k id sv m co e p : Int) (early : Bool) (ps : List (Int × Int)) (sa : Option Addr) (sl sc : Nat) (ob : Obj) (W : World) (hw : w = W.alloc ob) (hob : ob = .cells #[.int .i64 k, .int .i64 id, .int .i64 sv, .int .i64 m, .int .i64 co, .int .i64 e, .int .i64 p, .bool early, .slice sa sl sc] 37 (0, 0))
    (hown : OutC base W v L) (hx : act.eval x = .slice (some ⟨W.heap.size, 0, none⟩) 1 1) (hp : PartsAt W (.slice sa sl sc) ps) (hfar : ∀ ad : Addr, sa = some ad → v.ownBlock ≠ some ad.block)
    (hb : base ≤ W.heap.size) (hsm : L.length ≤ 100000)
    (h : ∀ v' w', OutC base w' v' (L ++ [(⟨k, id, sv, m, co, e, p, early, ps⟩, .slice sa sl sc)]) → Below base W w' → (∀ b, v'.ownBlock = some b → v.ownBlock = some b ∨ W.heap.size ≤ b) → wpList Try.prog ops Q rest (act.put o.dst v') w') : wpList Try.prog ops Q (o :: rest) act w := by
  subst hob hw
  obtain ⟨i0, hi, hz0, hz1, hz2⟩ := info_parts Try.infoCm
  have hown2 := hown.below (wbox W (.cells #[.int .i64 k, .int .i64 id, .int .i64 sv, .int .i64 m, .int .i64 co, .int .i64 e, .int .i64 p, .bool early, .slice sa sl sc] 37 (0, 0)))
  refine wpList_append_lies _ hgd s x _ ho base _ i0 _ 9 88 Try.underlying22 hi hz0 hz1 hz2 rfl (by decide) v _ _ hs hown2.row ⟨W.heap.size, 0, none⟩ 1 1 [.int .i64 k, .int .i64 id, .int .i64 sv, .int .i64 m, .int .i64 co, .int .i64 e, .int .i64 p, .bool early, .slice sa sl sc] hx rfl (World.news_of_block (cs := #[.int .i64 k, .int .i64 id, .int .i64 sv, .int .i64 m, .int .i64 co, .int .i64 e, .int .i64 p, .bool early, .slice sa sl sc]) (t := 37) (fr := (0, 0)) (heap_alloc_new _ _)) (by simp [Value.oneCell']) (by decide) (by unfold maxLen; omega) (by omega) (by simp; omega) (W.heap.size + 1) (by simp) ?_
  intro g' cap w2 ho2 hg2 hl hlt
  have kk : Keeps (fun b => v.ownBlock = some b) W w2 := ((Keeps.refl _ W).alloc _).grown hg2 (fun k e => .inl e)
  have own2 : ∀ b, (Value.slice (some ⟨g', 0, none⟩) (L.length + 1) cap).ownBlock = some b → v.ownBlock = some b ∨ W.heap.size ≤ b := fun b eb => by
    simp [Value.ownBlock] at eb
    subst eb
    rcases hl with q | q
    · exact .inl q
    · exact .inr (by omega)
  refine h _ w2 ⟨?_, fun y hy => ?_, fun y hy a' l' c' ey ad ea q => ?_⟩ ?_ own2
  · rw [List.length_append, List.map_append, List.flatten_append]
    exact ho2
  · rcases List.mem_append.mp hy with q | q
    · exact (hown.parts y q).keeps kk (fun a len cap e ad ea z => hown.far y q a len cap e ad ea z)
    · rw [List.mem_singleton] at q
      subst q
      exact hp.keeps kk (fun a len cap e ad ea z => by cases e; exact hfar ad ea z)
  · rcases own2 _ q with z | z
    · rcases List.mem_append.mp hy with t | t
      · exact hown.far y t a' l' c' ey ad ea z
      · rw [List.mem_singleton] at t
        subst t
        cases ey
        exact hfar ad ea z
    · have hb2 : ad.block < W.heap.size := by
        rcases List.mem_append.mp hy with t | t
        · exact parts_blk (hown.parts y t) a' l' c' ey ad ea
        · rw [List.mem_singleton] at t
          subst t
          exact parts_blk hp a' l' c' ey ad ea
      omega
  · exact (((Below.refl base W).alloc hb _)).grown hg2 (by simp; omega) (fun k e => (hown.row.lt k e).1)
set_option maxRecDepth 20000 in
set_option maxHeartbeats 4000000 in
theorem wread_any (s : List UInt8) (w : World) (hl : s.length ≤ 1000000) :
    Calls Try.prog 10 #[.string (BS s)] w fun e w' => ∃ (L : List (Cm × Value)) (a : Option Addr) (cap at_ : Nat) (er : Int), e = .returned (.tuple #[.slice a L.length cap, .int .i64 at_, .int .i64 er]) ∧ ReadO s (L.map Prod.fst) at_ er ∧ RowC w' a L.length cap L ∧ Below w.heap.size w w' := by
  have SZ := Lib.hid (BS_size s)
  have s9 : ((BS s).size : Int) = (s.length : Int) := by rw [BS_size]
  have HL := Lib.hid hl
  have ED := Lib.hid (fun k => ext_drop (BS s) k)
  rw [BS_data] at ED
  clear hl
  go_enter Try.func10, Try.ntmps10
  go_wp2
  go_step3
  go_wp2
  go_step3
  go_wp2
  go_loopw [5, 6, 7] (fun v u er wr => ∃ (at_ : Nat) (L : List (Cm × Value)), u = .int .i64 at_ ∧ er = .int .i64 0 ∧ Took s (L.map Prod.fst) at_ ∧ OutC w.heap.size wr v L ∧ Below w.heap.size w wr) (fun _ u _ _ => s.length - (intOf u).toNat)
  case atStart => exact ⟨0, [], rfl, rfl, Took.nil, OutC.nil _ _, Below.refl _ _⟩
  case round =>
    obtain ⟨at_, L, rfl, rfl, ht, ho, hb⟩ := hrel
    have T := Lib.hid ht
    have O := Lib.hid ho
    have B := Lib.hid hb
    have TI := Lib.hid ht.is
    have al := ht.is.le
    have fw := ht.is.few
    rw [List.length_map] at fw
    obtain ⟨av, cv, rfl, hrc⟩ := ho.row_
    have RC := Lib.hid hrc
    clear ht ho hb hrc
    by_cases go : at_ < s.length
    · have b1 : decide ((at_ : Int) < ((BS s).size : Int)) = true := by rw [BS_size]; simp; omega
      have b1' : decide (at_ < (BS s).size) = true := by rw [BS_size]; simp; omega
      have i0 : 0 ≤ (at_ : Int) := by omega
      have i3 : (at_ : Int) ≤ ((BS s).size : Int) := by rw [BS_size]; omega
      have i4 : at_ ≤ (BS s).size := by rw [BS_size]; omega
      have ed := ED.out at_
      have FL := Lib.hid (show (s.drop at_).length ≤ 1000000000 by rw [List.length_drop]; have := HL.out; omega)
      go_wp2_with fail
      refine (wfirst_any (s.drop at_) wr FL.out).mono ?_
      rintro e1 w1 ⟨hb1, hc⟩
      have B1 := Lib.hid (below_next B.out hb1)
      have O1 := Lib.hid (O.out.below hb1)
      have R1 := Lib.hid (RC.out.below hb1)
      rcases hc with ⟨c, m, v, hf, rfl, hpn⟩ | ⟨hf, rfl⟩
      · obtain ⟨k, id, sv, n, co, e, p, early, parts⟩ := c
        obtain ⟨pa, pc, hv, hpr, hfr⟩ := hpn
        subst hv
        simp only at hpr
        dsimp only [cmV]
        have FI := Lib.hid (first_is hf)
        have HF := Lib.hid hf
        have PR := Lib.hid hpr
        have FR := Lib.hid hfr
        obtain ⟨W2, hW2⟩ : ∃ W2, w1.alloc (.cells #[.int .i64 k, .int .i64 id, .int .i64 sv, .int .i64 n, .int .i64 co, .int .i64 e, .int .i64 p, .bool early, .slice pa parts.length pc] 37) = W2 := ⟨_, rfl⟩
        have B12 := Lib.hid (show Below w1.heap.size w1 W2 by rw [← hW2]; exact wbox _ _)
        have Y2 := Lib.hid (show Blk W2 37 w1.heap.size #[.int .i64 k, .int .i64 id, .int .i64 sv, .int .i64 n, .int .i64 co, .int .i64 e, .int .i64 p, .bool early, .slice pa parts.length pc] by rw [← hW2]; exact Blk.new _ _ _)
        have O2 := Lib.hid (O1.out.below B12.out)
        have BB := Lib.hid (below_next B1.out B12.out)
        have RR := Lib.hid (R1.out.below B12.out)
        have PP := Lib.hid (show PartsAt W2 (.slice pa parts.length pc) parts from ⟨pa, pc, rfl, hpr.below B12.out⟩)
        have HW2 := Lib.hid hW2
        have y0 := Y2.out.cell 0; have y1 := Y2.out.cell 1; have y2 := Y2.out.cell 2; have y3 := Y2.out.cell 3; have y4 := Y2.out.cell 4; have y5 := Y2.out.cell 5; have y6 := Y2.out.cell 6; have y7 := Y2.out.cell 7; have y8 := Y2.out.cell 8
        simp at y0 y1 y2 y3 y4 y5 y6 y7 y8
        clear hf hb1 hpr hfr hW2
        by_cases q : L.length = 4096
        · have q1 : ((L.length : Int) == 4096) = true := by simp; omega
          have RO := Lib.hid (show ReadO s (L.map Prod.fst) at_ 15 from ⟨T.out, .inr (.inl ⟨go, by rw [List.length_map]; exact q, rfl⟩)⟩)
          have RL := Lib.hid q
          clear q
          go_upto_region 5 with fail
          rw [HW2.out]
          go_wp2
          rw [Exit.noGoto_ret]
          exact bodyPost_ret (v := .tuple #[.slice av L.length cv, .int .i64 at_, .int .i64 15]) (by simp [results, Try.results10, go_sem]) rfl ⟨L, av, cv, at_, 15, rfl, RO.out, RR.out, BB.out⟩
        · have q1 : ((L.length : Int) == 4096) = false := by simp; omega
          have q2 : (L.length == 4096) = false := by simp; omega
          have TN := Lib.hid (Took.snoc T.out go HF.out (by rw [List.length_map]; omega))
          obtain ⟨_, _, m1, m2, _⟩ := FI.out
          rw [List.length_drop] at m2
          have wa : IntKind.i64.wrap ((at_ : Int) + (m : Int)) = ((at_ + m : Nat) : Int) := by
            rw [IntWalk.i64_in _ (by have := HL.out; omega)]
            omega
          go_upto_region 5 with fail
          rw [HW2.out]
          go_wp2_with (at_builtin; refine app_cmd rfl _ _ rfl w.heap.size _ L rfl k id sv n co e p early parts pa parts.length pc _ W2 rfl rfl O2.out rfl PP.out (fun ad e q => by have h1 := FR.out ad e; have h2 := (O.out.row.lt _ q).2; omega) BB.out.size (by omega) ?_; intro v2 w2 h1 h2 h3; have O3 := Lib.hid h1; have B3 := Lib.hid h2; clear h1 h2 h3)
          go_roundw
          case rel => exact ⟨at_ + m, _, by rw [← wa]; go_num, rfl, by rw [List.map_append]; exact TN.out, O3.out, BB.out.trans B3.out⟩
          case measure => simp [intOf]; omega
      · have HF := Lib.hid hf
        dsimp only [cmV, cm00]
        obtain ⟨W2, hW2⟩ : ∃ W2, w1.alloc (.cells #[.int .i64 0, .int .i64 0, .int .i64 0, .int .i64 0, .int .i64 0, .int .i64 0, .int .i64 0, .bool false, .slice none 0 0] 37) = W2 := ⟨_, rfl⟩
        have B12 := Lib.hid (show Below w1.heap.size w1 W2 by rw [← hW2]; exact wbox _ _)
        have BB := Lib.hid (below_next B1.out B12.out)
        have RR := Lib.hid (R1.out.below B12.out)
        have HW2 := Lib.hid hW2
        clear hf hb1 hW2
        by_cases q : L.length = 4096
        · have q1 : ((L.length : Int) == 4096) = true := by simp; omega
          have RO := Lib.hid (show ReadO s (L.map Prod.fst) at_ 15 from ⟨T.out, .inr (.inl ⟨go, by rw [List.length_map]; exact q, rfl⟩)⟩)
          clear q
          go_upto_region 5 with fail
          rw [HW2.out]
          go_wp2
          rw [Exit.noGoto_ret]
          exact bodyPost_ret (v := .tuple #[.slice av L.length cv, .int .i64 at_, .int .i64 15]) (by simp [results, Try.results10, go_sem]) rfl ⟨L, av, cv, at_, 15, rfl, RO.out, RR.out, BB.out⟩
        · have q1 : ((L.length : Int) == 4096) = false := by simp; omega
          have q2 : (L.length == 4096) = false := by simp; omega
          have RO := Lib.hid (show ReadO s (L.map Prod.fst) at_ 10 from ⟨T.out, .inr (.inr ⟨go, by rw [List.length_map]; omega, HF.out, rfl⟩)⟩)
          clear q
          go_upto_region 5 with fail
          rw [HW2.out]
          go_wp2
          rw [Exit.noGoto_ret]
          exact bodyPost_ret (v := .tuple #[.slice av L.length cv, .int .i64 at_, .int .i64 10]) (by simp [results, Try.results10, go_sem]) rfl ⟨L, av, cv, at_, 10, rfl, RO.out, RR.out, BB.out⟩
    · have b1 : decide ((at_ : Int) < ((BS s).size : Int)) = false := by rw [BS_size]; simp; omega
      have b1' : decide (at_ < (BS s).size) = false := by rw [BS_size]; simp; omega
      have RO := Lib.hid (show ReadO s (L.map Prod.fst) at_ 0 from ⟨T.out, .inl ⟨by omega, rfl⟩⟩)
      have RR := Lib.hid RC.out
      have BB := Lib.hid B.out
      go_wp2
      rw [Exit.noGoto_ret]
      exact bodyPost_ret (v := .tuple #[.slice av L.length cv, .int .i64 at_, .int .i64 0]) (by simp [results, Try.results10, go_sem]) rfl ⟨L, av, cv, at_, 0, rfl, RO.out, RR.out, BB.out⟩
end Go.Proofs.Ytlcagjmppmajeaa
