/- A medium is made; what was ever written is gone over. -/
import Derived.Test.YtoenkkbcpafanaaMdB
import Derived.RangeFuncNested
import Derived.RangeFuncBound
import Derived.RangeFuncCalls
import Derived.RangeFuncLeaves
import Derived.Shelf.Abstract
import Derived.Shelf.RegionOpen
import Derived.WalkKit
import Derived.OwnWalkIn
import Derived.TacticsInMore
import Derived.LoopNIn
import Derived.LoopIn


namespace Go.Proofs.Ytoenkkbcpafanaa.mediums
set_option linter.unusedVariables false
set_option linter.unusedSimpArgs false
open Go.RowKit Go.Proofs.Ytoenkkbcpafanaa.base Go.Proofs.Ytoenkkbcpafanaa.trees Go.Proofs.Ytoenkkbcpafanaa.powers Go.Lib Go.Shelf
attribute [local go_sem] Oper.semAt_some

theorem made_one (z : Value) (n : Nat) : madeCells #[z] n = (List.replicate n z).toArray := by
  apply Array.ext'
  simp only [madeCells, Array.toList_map, Array.toList_range]
  apply List.ext_getElem
  · simp
  · intro i h1 h2
    simp [Nat.mod_one]
def newM (n size : Nat) : MS := ⟨size, List.replicate n ⟨#[]⟩, []⟩
theorem newM_at (n size j : Nat) : (newM n size).at_ j = ⟨#[]⟩ := by
  unfold MS.at_ newM
  simp only [List.getElem?_replicate]
  split <;> rfl

set_option maxRecDepth 100000 in
set_option maxHeartbeats 2000000 in
theorem mnew_ok (pb : Nat) (n size : Nat) (hn : 1 ≤ n ∧ n ≤ 4096) (hs : 1 ≤ size ∧ size ≤ 1048576) (w : World) (hp : pb < w.heap.size) :
    Calls Try.prog 54 #[.pointer (some ⟨pb, 0, none⟩), .int .i64 (n : Int), .int .i64 (size : Int)] w fun e w' => ∃ g, e = .returned (.tuple #[.pointer (some ⟨g, 0, none⟩), .int .i64 0]) ∧ Md w' (fun k => w.heap.size ≤ k ∧ k < w'.heap.size) pb g (newM n size) ∧ Below w.heap.size w w' := by
  obtain ⟨i0, hi, hz0, hz1, hz2⟩ := info_parts infoSl
  obtain ⟨n1, n2⟩ := hn
  obtain ⟨s1, s2⟩ := hs
  obtain ⟨M, hM⟩ : ∃ M, madeCells (Value.slice none 0 0).cells (((n : Int)).toNat * i0.size) = M := ⟨_, rfl⟩
  have hmk : ∀ u : World, (Instr.makeSlice 131 (.int .i64 (n : Int)) (.int .i64 (n : Int))).run Try.prog u = .ok (.slice (some ⟨u.heap.size, 0, none⟩) n n) (u.alloc (.cells M 260)) := fun u => by
    have h := run_make (P := Try.prog) u 131 260 i0 _ Try.underlying131 hi hz0 .i64 .i64 (n : Int) (n : Int) (by omega) (Int.le_refl _) (by rw [hz2]; omega) (by omega)
    rw [hM] at h
    simpa using h
  have hM' : M = (List.replicate n (Value.slice none 0 0)).toArray := by
    rw [← hM, hz1, Nat.mul_one, Int.toNat_natCast]
    exact made_one _ _
  have HM := powers.lay hM'
  clear hM'
  have kM := Blk.new w 260 M
  have kG := Blk.new (w.alloc (.cells M 260)) 134 #[.pointer (some ⟨pb, 0, none⟩), .int .i64 (size : Int), .slice (some ⟨w.heap.size, 0, none⟩) n n, .slice none 0 0]
  have kM2 := kM.alloc (.cells #[.pointer (some ⟨pb, 0, none⟩), .int .i64 (size : Int), .slice (some ⟨w.heap.size, 0, none⟩) n n, .slice none 0 0] 134)
  have bb : Below w.heap.size w ((w.alloc (.cells M 260)).alloc (.cells #[.pointer (some ⟨pb, 0, none⟩), .int .i64 (size : Int), .slice (some ⟨w.heap.size, 0, none⟩) n n, .slice none 0 0] 134)) := ((Below.refl _ _).alloc (Nat.le_refl _) _).alloc (by simp) _
  clear hM
  go_enter Try.func54, Try.ntmps54
  go_wp2_with fail
  refine bodyPost_ret (v := .tuple #[.pointer (some ⟨w.heap.size + 1, 0, none⟩), .int .i64 0]) (by simp [results, Try.results54, go_sem]) rfl ⟨_, rfl, ?_, bb⟩
  simp only [World.size_alloc] at kG ⊢
  refine ⟨w.heap.size, List.replicate n (.slice none 0 0), .slice none 0 0, ?_⟩
  have hl : (List.replicate n (Value.slice none 0 0)).length = n := List.length_replicate
  refine ⟨(by rw [hl]; exact kG), (by rw [← HM.out]; exact kM2), (by rw [hl]; simp [newM]), fun j hj => ?_, fun i j hi hj _ b hb => ?_, World.ownsRow_nil _ _ _ _, ⟨⟨by omega, by omega⟩, ⟨by omega, by omega⟩, by omega⟩, fun j hj b hb => ?_, (fun b hb => by cases hb), (fun b hb => by simp; omega), (fun h => by omega), (by simp; omega), ⟨s1, s2⟩, (by rw [hl]; exact ⟨n1, n2⟩), (fun j => by rw [newM_at]; exact Nat.zero_le _), by simp [newM]⟩
  · rw [newM_at]
    simp only [List.getElem_replicate]
    exact World.ownsRow_nil _ _ _ _
  · simp only [List.getElem_replicate] at hb
    cases hb
  · simp only [List.getElem_replicate] at hb
    cases hb

/-- raw writes in a row, in blocks of F -/
def RsF (w : World) (F : Nat → Prop) (l : List RW) (A : Option Addr) (c : Nat) : Prop := l.length ≤ c ∧ l.length * 32 ≤ 140737488355328 ∧ (A = none → c = 0) ∧ RdF w F A (cellsR l)
theorem RsF.agree {w w' : World} {F : Nat → Prop} {l : List RW} {A : Option Addr} {c : Nat} (h : RsF w F l A c) (hk : Agree w w' F) : RsF w' F l A c := ⟨h.1, h.2.1, h.2.2.1, h.2.2.2.agree hk⟩
theorem RsF.mono {w : World} {F G : Nat → Prop} {l : List RW} {A : Option Addr} {c : Nat} (h : RsF w F l A c) (hG : ∀ g, F g → G g) : RsF w G l A c := ⟨h.1, h.2.1, h.2.2.1, h.2.2.2.mono hG⟩
theorem RsF.at_ {w : World} {F : Nat → Prop} {l : List RW} {A : Option Addr} {c : Nat} (h : RsF w F l A c) {j : Nat} (hj : j < l.length) : ∃ b off, A = some ⟨b, off, none⟩ ∧ F b ∧ w.cell? ⟨b, off + j * 3, none⟩ = some (.int .i64 l[j].g) ∧ w.cell? ⟨b, off + j * 3 + 1, none⟩ = some (.int .i64 l[j].o) ∧ w.cell? ⟨b, off + j * 3 + 2, none⟩ = some (.string l[j].b) := by
  obtain ⟨c0, c1, c2⟩ := cellsR_at l hj
  obtain ⟨b, off, e, hb, h0⟩ := h.2.2.2 _ _ c0
  obtain ⟨b1, off1, e1, hb1, h1⟩ := h.2.2.2 _ _ c1
  obtain ⟨b2, off2, e2, hb2, h2⟩ := h.2.2.2 _ _ c2
  rw [e] at e1 e2
  cases e1
  cases e2
  exact ⟨b, off, e, hb, h0, by rw [Nat.add_assoc]; exact h1, by rw [Nat.add_assoc]; exact h2⟩
theorem rsF_of_row {w : World} {lo : Nat} {v : Value} {l : List RW} (h : w.ownsRow lo 263 3 v l.length (cellsR l)) (hl : l.length * 32 ≤ 140737488355328) : ∃ A c, v = .slice A l.length c ∧ RsF w (fun k => v.ownBlock = some k) l A c := by
  obtain ⟨A, c, e, h1, h2, h3⟩ := row_rdF h
  exact ⟨A, c, e, h1, hl, h2, h3⟩
theorem take_snoc {l : List RW} {k : Nat} (hk : k < l.length) : l.take k ++ [l[k]] = l.take (k + 1) := by rw [List.take_add_one, List.getElem?_eq_getElem hk]; rfl

/-- what Past goes over: its row and the box that holds it -/
def GP (b : Nat) (vp : Value) (k : Nat) : Prop := k = b ∨ vp.ownBlock = some k

def bytesP (l : List RW) : Nat := (l.map fun x => x.b.size).foldl (· + ·) 0
theorem bytesP_snoc (l : List RW) (x : RW) : bytesP (l ++ [x]) = bytesP l + x.b.size := by simp [bytesP, List.foldl_append]
end Go.Proofs.Ytoenkkbcpafanaa.mediums
