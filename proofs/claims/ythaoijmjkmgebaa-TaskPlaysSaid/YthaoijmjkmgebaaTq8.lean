/-
  Package task as landed is as P10.1 to P10.3 say.
-/
import Derived.Test.YthaoijmjkmgebaaTq2
import Derived.Test.YthaoijmjkmgebaaTq3
import Derived.Test.YthaoijmjkmgebaaTq4
import Derived.Test.YthaoijmjkmgebaaTq7
namespace Go.Proofs.Ythaoijmjkmgebaa
open Go.RowKit

theorem taskOk : TaskOk HpT where
  lies h := h.lies
  keeps h k ap := h.keeps k ap
  good h := h.good
  new_yes E P at_ early w hM h0 h1 := tnew_yes E P at_ early w hM h0 h1
  new_no E P at_ early w h := tnew_no E P at_ early w h
  arrive g F ts at_ n w h hc := tarrive_any g F ts at_ n w h hc
  head g F ts w h := (thead_any g F ts w h).mono fun _ _ ⟨a, b⟩ => ⟨a, h.stays b⟩
  ready g F ts at_ w h := (tready_any g F ts w at_ h).mono fun _ _ ⟨a, b⟩ => ⟨a, h.stays b⟩
  when_ g F ts w h := (twhen_any g F ts w h).mono fun _ _ ⟨a, b⟩ => ⟨a, h.stays b⟩
  run g F ts w h hc := trun_any g F ts w h hc
  last g F ts w h := (tlast_any g F ts w h).mono fun _ _ ⟨a, b⟩ => ⟨a, h.stays b⟩
  cut g F ts at_ w h := tcut_any g F ts at_ w h
  waits g F ts w h := (twaits_any g F ts w h).mono fun _ _ ⟨a, b⟩ => ⟨a, by subst b; exact h.stays (Below.refl _ _)⟩
  done g F ts w h := (tdone_any g F ts w h).mono fun _ _ ⟨a, b⟩ => ⟨a, by subst b; exact h.stays (Below.refl _ _)⟩
  weight g F ts w h := (tweight_any g F ts w h).mono fun _ _ ⟨a, b⟩ => ⟨a, h.stays b⟩
  arrive_nil at_ n w := tarrive_nil at_ n w
  head_nil w := thead_nil w
  ready_nil at_ w := tready_nil at_ w
  when_nil w := twhen_nil w
  run_nil w := trun_nil w
  last_nil w := tlast_nil w
  cut_nil at_ w := tcut_nil at_ w
  waits_nil w := (twaits_nil w).mono fun _ _ ⟨a, b⟩ => ⟨a, by subst b; exact Below.refl _ _⟩
  done_nil w := (tdone_nil w).mono fun _ _ ⟨a, b⟩ => ⟨a, by subst b; exact Below.refl _ _⟩
  weight_nil w := tweight_nil w
end Go.Proofs.Ythaoijmjkmgebaa
