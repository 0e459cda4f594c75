/- The walk of the law DiceFresh: it answers true and writes nothing that was there. -/
import Derived.Test.YtnkpljcfmifinaaFresh
import Derived.Lib.Hide
namespace Go.Proofs.Ytnkpljcfmifinaa.freshLaw
open Go.RowKit Go.Proofs.Ytnkpljcfmifinaa.base Go.Proofs.Ytnkpljcfmifinaa.dice Go.Proofs.Ytnkpljcfmifinaa.fresh

theorem same {p : Prop} {a b : Bool} (h : a = true ↔ p) (k : b = true ↔ p) : b = a := by
  rw [Bool.eq_iff_iff]
  exact k.trans h.symm

theorem fresh_any (A0 : Option Addr) (len0 cap0 : Nat) (z0 : List Int) (w : World)
    (h0 : Rd w w.heap.size A0 (z0.map (Value.int .u64))) (l0 : z0.length = len0) (c0 : len0 ≤ cap0) :
    Calls Try.prog 4 #[.slice A0 len0 cap0] w fun e w' => e = .returned (.bool true) ∧ Below w.heap.size w w' := by
  have hs := short_ok A0 len0 cap0 2000 w.heap.size (z0.map (Value.int .u64)) w h0 (by simpa using l0) c0
  obtain ⟨zs, hzs⟩ : ∃ zs, zs = z0.take 2000 := ⟨_, rfl⟩
  have hlen : min len0 2000 = zs.length := by rw [hzs, List.length_take]; omega
  rw [hlen] at hs
  have hr := h0.take 2000
  rw [← List.map_take, ← hzs] at hr
  have hz : zs.length ≤ 2000 := by omega
  clear hlen hzs h0 c0
  go_enter Try.func4, Try.ntmps4
  go_wp2_with (first
    | (go_at_call 8; refine hs.mono ?_; rintro e w0 ⟨rfl, rfl⟩)
    | (go_at_call 14; ((with_reducible refine (fresh_ok A0 cap0 zs w hr (by omega)).mono ?_); rintro e w1 ⟨⟨y, rfl, hy⟩, hb⟩; have hr1 := hr.below hb; have HY := Lib.hid hy; clear hy))
    | (go_at_call 15; ((with_reducible refine (ref_ok A0 cap0 _ zs _ hr1 (by omega)).mono ?_); rintro e w2 ⟨⟨y2, rfl, hy2⟩, rfl⟩; obtain rfl := same HY.out hy2; clear hy2)))
  go_ret
  exact ⟨rfl, hb⟩
end Go.Proofs.Ytnkpljcfmifinaa.freshLaw
