/- The walks of the laws TermDecodes and TermReads: they answer true and write nothing that was there. -/
import Derived.Test.YtgdmhfdlijeogaaRefAll
import Derived.Test.YtgdmhfdlijeogaaCuts
import Derived.Test.YtgdmhfdlijeogaaMakes
import Derived.Test.YtgdmhfdlijeogaaTmBack
namespace Go.Proofs.Ytgdmhfdlijeogaa.decs
set_option linter.unusedVariables false
set_option linter.unusedSimpArgs false
open Go.RowKit Go.Proofs.Ytgdmhfdlijeogaa.base Go.Proofs.Ytgdmhfdlijeogaa.tm Go.Proofs.Ytgdmhfdlijeogaa.lies Go.Proofs.Ytgdmhfdlijeogaa.rights Go.Proofs.Ytgdmhfdlijeogaa.encs Go.Proofs.Ytgdmhfdlijeogaa.refEncs Go.Proofs.Ytgdmhfdlijeogaa.cuts Go.Proofs.Ytgdmhfdlijeogaa.refReads

theorem refDecode_bad {s : ByteArray} {err : Int} (h : tm.decode s.data.toList = .bad err) (hs : s.size ≤ maxLen) (w : World) :
    Calls Try.prog 31 #[.string s] w fun e w' => e = .returned (.tuple #[.agg #[.int .i64 0, .int .u64 0, .string ⟨#[]⟩, .slice none 0 0], .int .i64 err]) ∧ Below w.heap.size w w' := by
  have := refDecode_any s w hs
  rw [h] at this
  exact this.mono fun e w' ⟨hb, _, he⟩ => ⟨he, hb⟩
theorem refDecode_ok {s : ByteArray} {t : T} (h : tm.decode s.data.toList = .ok t) (hs : s.size ≤ maxLen) (w : World) :
    Calls Try.prog 31 #[.string s] w fun e w' => ∃ (A : Option Addr) (c : Nat), e = .returned (.tuple #[.agg #[.int .i64 t.k, .int .u64 t.n, .string t.s, .slice A t.l.length c], .int .i64 0]) ∧ Lies w' w'.heap.size t (.slice A t.l.length c) ∧ Below w.heap.size w w' := by
  have := refDecode_any s w hs
  rw [h] at this
  exact this.mono fun e w' ⟨hb, A, c, he, hL⟩ => ⟨A, c, he, hL, hb⟩

end Go.Proofs.Ytgdmhfdlijeogaa.decs
