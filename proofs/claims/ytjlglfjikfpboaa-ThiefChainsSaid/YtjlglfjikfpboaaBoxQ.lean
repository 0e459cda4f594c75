/- The walk of the law BoxSeals: it answers true and writes nothing that was there. -/
import Derived.Test.YtjlglfjikfpboaaBoxP
import Derived.Test.YtjlglfjikfpboaaTermF


namespace Go.Proofs.Ytjlglfjikfpboaa.boxes
set_option linter.unusedVariables false
set_option linter.unusedSimpArgs false
open Go.RowKit Go.Proofs.Ytjlglfjikfpboaa.base Go.Proofs.Ytjlglfjikfpboaa.tm Go.Proofs.Ytjlglfjikfpboaa.lies Go.Proofs.Ytjlglfjikfpboaa.rights Go.Proofs.Ytjlglfjikfpboaa.encs Go.Proofs.Ytjlglfjikfpboaa.copies Go.Proofs.Ytjlglfjikfpboaa.makes Go.Proofs.Ytjlglfjikfpboaa.reads Go.Proofs.Ytjlglfjikfpboaa.likes

/-- the cells of a term's variable -/
abbrev cs (t : T) (A : Option Addr) (c : Nat) : Obj := .cells #[.int .i64 t.k, .int .u64 t.n, .string t.s, .slice A t.l.length c] 39
theorem one_step {w w1 w2 : World} (hb : Below w.heap.size w w1) (o : Obj) (h2 : Below (w1.heap.size + 1) (w1.alloc o) w2) : Below w.heap.size w w2 :=
  (hb.alloc hb.size o).trans (h2.mono (by have := hb.size; omega))

end Go.Proofs.Ytjlglfjikfpboaa.boxes

/- Pack, Unpack, the document's and the program's. -/

namespace Go.Proofs.Ytjlglfjikfpboaa.boxes
set_option linter.unusedVariables false
set_option linter.unusedSimpArgs false
open Go.RowKit Go.Proofs.Ytjlglfjikfpboaa.base Go.Proofs.Ytjlglfjikfpboaa.tm Go.Proofs.Ytjlglfjikfpboaa.bytes Go.Proofs.Ytjlglfjikfpboaa.lies Go.Proofs.Ytjlglfjikfpboaa.rights Go.Proofs.Ytjlglfjikfpboaa.encs Go.Proofs.Ytjlglfjikfpboaa.refEncs Go.Proofs.Ytjlglfjikfpboaa.copies Go.Proofs.Ytjlglfjikfpboaa.makes Go.Proofs.Ytjlglfjikfpboaa.reads Go.Proofs.Ytjlglfjikfpboaa.likes

/-- what is packed -/
def packT (k : Int) (t : T) : ByteArray × Int := if (sealT k t).2 = 0 then (⟨(sealT k t).1.enc.toArray⟩, 0) else (⟨#[]⟩, (sealT k t).2)
/-- what is unpacked -/
def unpackT (k : Int) (s : ByteArray) : T × Int := match tm.decode s.data.toList with
  | .bad err => (zT, err)
  | .ok t => openT k t

theorem seal_right {k : Int} {t : T} (h : (sealT k t).2 = 0) : (sealT k t).1.right = 0 := by
  unfold sealT at h ⊢
  by_cases h1 : t.right = 0
  · rw [if_neg (by simpa using h1)] at h ⊢
    by_cases h2 : (boxT k t).right = 0
    · rw [if_neg (by simpa using h2)]; exact h2
    · rw [if_pos h2] at h; exact absurd h h2
  · rw [if_pos h1] at h; exact absurd h h1

set_option maxRecDepth 100000 in
set_option maxHeartbeats 400000 in
theorem pack_any (k : Int) (t : T) (v : Value) (w : World) (hkk : 0 ≤ k ∧ k < 18446744073709551616) (hL : Lies w w.heap.size t v) :
    Calls Try.prog 30 #[.int .u64 k, T.val t v] w fun e w' => e = .returned (.tuple #[.string (packT k t).1, .int .i64 (packT k t).2]) ∧ Below w.heap.size w w' := by
  obtain ⟨A, c, xs, rfl, hk, hn, hs, hlc, hc, hr, hl⟩ := hL.open_
  have hL1 := hL.later (Nat.le_refl _) (cs t A c)
  have h1 := seal_any k t _ _ hkk hL1
  by_cases hE : (sealT k t).2 = 0
  · have hP : Hid (packT k t = (⟨(sealT k t).1.enc.toArray⟩, 0)) := lay (by unfold packT; rw [if_pos hE])
    have hR := seal_right hE
    generalize sealT k t = r at h1 hE hP hR
    go_enter Try.func30, Try.ntmps30
    go_wp2_with fail
    refine h1.mono ?_
    rintro e w1 ⟨hb1, A1, c1, rfl, hH1, hF1⟩
    rw [hE]
    have hz1 := hb1.size
    simp only [World.size_alloc] at hb1 hz1
    have hB1 := one_step (Below.refl _ _) _ hb1
    have h2 := encode_ok r.1 _ _ ((hH1.lies hF1.1 hF1.2.1 hF1.2.2 (Nat.le_refl _)).later (Nat.le_refl _) (cs r.1 A1 c1)) hR
    clear hE hR
    go_wp2_with fail
    refine h2.mono ?_
    rintro e w2 ⟨rfl, hb2⟩
    simp only [World.size_alloc] at hb2
    go_wp2_with fail
    go_ret2
    exact ⟨by rw [hP.out]; rfl, one_step hB1 _ hb2⟩
  · have hP : Hid (packT k t = (⟨#[]⟩, (sealT k t).2)) := lay (by unfold packT; rw [if_neg hE])
    generalize sealT k t = r at h1 hE hP
    have d1 : (r.2 != 0) = true := by simpa using hE
    clear hE
    go_enter Try.func30, Try.ntmps30
    go_wp2_with fail
    refine h1.mono ?_
    rintro e w1 ⟨hb1, A1, c1, rfl, hH1, hF1⟩
    have hz1 := hb1.size
    simp only [World.size_alloc] at hb1 hz1
    have hB1 := one_step (Below.refl _ _) _ hb1
    go_wp2_with fail
    go_ret2
    exact ⟨by rw [hP.out]; rfl, hB1.alloc hB1.size _⟩

end Go.Proofs.Ytjlglfjikfpboaa.boxes

/- The walk of the law BoxPacks: it answers true and writes nothing that was there. -/

namespace Go.Proofs.Ytjlglfjikfpboaa.boxes
set_option linter.unusedVariables false
set_option linter.unusedSimpArgs false
open Go.RowKit Go.Proofs.Ytjlglfjikfpboaa.base Go.Proofs.Ytjlglfjikfpboaa.tm Go.Proofs.Ytjlglfjikfpboaa.lies Go.Proofs.Ytjlglfjikfpboaa.rights Go.Proofs.Ytjlglfjikfpboaa.encs Go.Proofs.Ytjlglfjikfpboaa.copies Go.Proofs.Ytjlglfjikfpboaa.makes Go.Proofs.Ytjlglfjikfpboaa.reads Go.Proofs.Ytjlglfjikfpboaa.likes

end Go.Proofs.Ytjlglfjikfpboaa.boxes

/- The walk of the law BoxOpens: it answers true and writes nothing that was there. -/

namespace Go.Proofs.Ytjlglfjikfpboaa.boxes
set_option linter.unusedVariables false
set_option linter.unusedSimpArgs false
open Go.RowKit Go.Proofs.Ytjlglfjikfpboaa.base Go.Proofs.Ytjlglfjikfpboaa.tm Go.Proofs.Ytjlglfjikfpboaa.lies Go.Proofs.Ytjlglfjikfpboaa.rights Go.Proofs.Ytjlglfjikfpboaa.encs Go.Proofs.Ytjlglfjikfpboaa.copies Go.Proofs.Ytjlglfjikfpboaa.makes Go.Proofs.Ytjlglfjikfpboaa.reads Go.Proofs.Ytjlglfjikfpboaa.likes

theorem pack_err (k : Int) (t : T) : (packT k t).2 = (sealT k t).2 := by
  unfold packT
  by_cases h : (sealT k t).2 = 0
  · rw [if_pos h, h]
  · rw [if_neg h]
theorem seal_box {k : Int} {t : T} (h : (sealT k t).2 = 0) : sealT k t = (boxT k t, 0) ∧ t.right = 0 ∧ (boxT k t).right = 0 := by
  unfold sealT at h ⊢
  by_cases h1 : t.right = 0
  · rw [if_neg (by simpa using h1)] at h ⊢
    by_cases h2 : (boxT k t).right = 0
    · rw [if_neg (by simpa using h2)]; exact ⟨rfl, h1, h2⟩
    · rw [if_pos h2] at h; exact absurd h h2
  · rw [if_pos h1] at h; exact absurd h h1
theorem open_box {k o : Int} {t : T} (h : (boxT k t).right = 0) : openT o (boxT k t) = if k = o then (t, 0) else (zT, 31) := by
  unfold openT
  rw [if_neg (by simpa using h), if_neg (show ¬ (boxT k t).k ≠ 4 from fun h => h rfl)]
  by_cases h2 : k = o
  · rw [if_neg (show ¬ (boxT k t).n ≠ o from fun h => h h2), if_pos h2]; rfl
  · rw [if_pos (show (boxT k t).n ≠ o from h2), if_neg h2]
theorem unpack_box {k o : Int} {t : T} (h : (boxT k t).right = 0) (hw : (boxT k t).word) : unpackT o ⟨(boxT k t).enc.toArray⟩ = if k = o then (t, 0) else (zT, 31) := by
  unfold unpackT
  have hd := decode_enc h hw []
  rw [List.append_nil, if_pos rfl] at hd
  have e : (⟨(boxT k t).enc.toArray⟩ : ByteArray).data.toList = (boxT k t).enc := by simp
  rw [e, hd]
  exact open_box h
theorem word_box {k : Int} {t : T} (hk : 0 ≤ k ∧ k < 18446744073709551616) (hw : t.word) : (boxT k t).word := ⟨⟨hk, by show 1 < 18446744073709551616; omega⟩, hw, trivial⟩

/-- Ans, of a term and a number -/
def Ans2 (W : World) (t : T) (n : Int) (e : Ending) (w' : World) : Prop :=
  Below W.heap.size W w' ∧ ∃ (A : Option Addr) (c : Nat), e = .returned (.tuple #[T.val t (.slice A t.l.length c), .int .i64 n]) ∧ Held w' W.heap.size w'.heap.size t.l (.slice A t.l.length c) ∧ Fits t

end Go.Proofs.Ytjlglfjikfpboaa.boxes
