/-
  Package calendar as landed is as P8.1 and P8.2 say.
-/
import Derived.Test.YtfeemdljlikpbaaCz5
import Derived.Test.YtfeemdljlikpbaaCi6
namespace Go.Proofs.Ytfeemdljlikpbaa
open Go.RowKit Go.Maps

theorem calOk : CalOk Hp8 := {
  lies := fun h => h.lies
  keeps := fun h k ap => h.keeps k ap
  own := fun h => by obtain ⟨_, _, _, _, _, _, ho⟩ := h; exact ho
  new := cnew_any
  put := fun g F es e w h hl => (cput_any g F es e w h hl).mono fun z w' ⟨c, es', hz, hp, hs⟩ => by
    rcases hp with ⟨h1, rfl, rfl⟩ | ⟨h1, h2, rfl, rfl⟩ | ⟨h1, h2, rfl, rfl⟩
    · exact .inl ⟨h1, hz, hs⟩
    · exact .inr (.inl ⟨h1, h2, hz, hs⟩)
    · exact .inr (.inr ⟨h1, h2, hz, hs⟩)
  drop := fun g F es i k w h _ => (cdrop_any g F es i k w h).mono fun z w' ⟨x, ok, hz, hx, hs⟩ => by
    rcases hx with ⟨h1, rfl, rfl⟩ | ⟨j, h1, h2, rfl⟩
    · rw [droppedV_neg h1] at hs
      exact .inl ⟨h1, hz, hs⟩
    · rw [droppedV_at h1] at hs
      exact .inr ⟨j, x, h1, h2, hz, hs⟩
  due := fun g F es t w h hl => cdue_any g F es t w h hl
  next := fun g F es w h _ => (cnext_any g F es w h).mono fun z w' ⟨x, ok, hz, hx, hs⟩ => by
    rcases hx with ⟨h1, rfl, rfl⟩ | ⟨h1, rfl⟩
    · exact ⟨.inl ⟨h1, hz⟩, hs⟩
    · exact ⟨.inr ⟨x, h1, hz⟩, hs⟩
  at_ := fun g F es i k w h _ => (cat_any g F es i k w h).mono fun z w' ⟨x, ok, hz, hx, hs⟩ => by
    rcases hx with ⟨h1, rfl, rfl⟩ | ⟨j, h1, h2, rfl⟩
    · exact ⟨.inl ⟨h1, hz⟩, hs⟩
    · exact ⟨.inr ⟨j, x, h1, h2, hz⟩, hs⟩
  len := fun g F es w h _ => clen_any g F es w h }
end Go.Proofs.Ytfeemdljlikpbaa
