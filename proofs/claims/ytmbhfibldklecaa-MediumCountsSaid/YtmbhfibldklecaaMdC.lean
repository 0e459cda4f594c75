/- A medium is made; what was ever written is gone over. -/
import Derived.Test.YtmbhfibldklecaaMdB
import Derived.RangeFuncNested
import Derived.RangeFuncBound
import Derived.RangeFuncCalls
import Derived.RangeFuncLeaves
import Derived.Shelf.Abstract
import Derived.Shelf.RegionOpen
import Derived.WalkKit
import Derived.OwnWalkIn
import Derived.TacticsInMore
import Derived.LoopNIn
import Derived.LoopIn


namespace Go.Proofs.Ytmbhfibldklecaa.mediums
set_option linter.unusedVariables false
set_option linter.unusedSimpArgs false
open Go.RowKit Go.Proofs.Ytmbhfibldklecaa.base Go.Proofs.Ytmbhfibldklecaa.trees Go.Proofs.Ytmbhfibldklecaa.powers Go.Lib Go.Shelf
attribute [local go_sem] Oper.semAt_some

theorem made_one (z : Value) (n : Nat) : madeCells #[z] n = (List.replicate n z).toArray := by
  apply Array.ext'
  simp only [madeCells, Array.toList_map, Array.toList_range]
  apply List.ext_getElem
  · simp
  · intro i h1 h2
    simp [Nat.mod_one]
def newM (n size : Nat) : MS := ⟨size, List.replicate n ⟨#[]⟩, []⟩
theorem newM_at (n size j : Nat) : (newM n size).at_ j = ⟨#[]⟩ := by
  unfold MS.at_ newM
  simp only [List.getElem?_replicate]
  split <;> rfl

set_option maxRecDepth 100000 in
set_option maxHeartbeats 2000000 in
theorem mnew_ok (pb : Nat) (n size : Nat) (hn : 1 ≤ n ∧ n ≤ 4096) (hs : 1 ≤ size ∧ size ≤ 1048576) (w : World) (hp : pb < w.heap.size) :
    Calls Try.prog 28 #[.pointer (some ⟨pb, 0, none⟩), .int .i64 (n : Int), .int .i64 (size : Int)] w fun e w' => ∃ g, e = .returned (.tuple #[.pointer (some ⟨g, 0, none⟩), .int .i64 0]) ∧ Md w' (fun k => w.heap.size ≤ k ∧ k < w'.heap.size) pb g (newM n size) ∧ Below w.heap.size w w' := by
  obtain ⟨i0, hi, hz0, hz1, hz2⟩ := info_parts infoSl
  obtain ⟨n1, n2⟩ := hn
  obtain ⟨s1, s2⟩ := hs
  obtain ⟨M, hM⟩ : ∃ M, madeCells (Value.slice none 0 0).cells (((n : Int)).toNat * i0.size) = M := ⟨_, rfl⟩
  have hmk : ∀ u : World, (Instr.makeSlice 85 (.int .i64 (n : Int)) (.int .i64 (n : Int))).run Try.prog u = .ok (.slice (some ⟨u.heap.size, 0, none⟩) n n) (u.alloc (.cells M 141)) := fun u => by
    have h := run_make (P := Try.prog) u 85 141 i0 _ Try.underlying85 hi hz0 .i64 .i64 (n : Int) (n : Int) (by omega) (Int.le_refl _) (by rw [hz2]; omega) (by omega)
    rw [hM] at h
    simpa using h
  have hM' : M = (List.replicate n (Value.slice none 0 0)).toArray := by
    rw [← hM, hz1, Nat.mul_one, Int.toNat_natCast]
    exact made_one _ _
  have HM := powers.lay hM'
  clear hM'
  have kM := Blk.new w 141 M
  have kG := Blk.new (w.alloc (.cells M 141)) 87 #[.pointer (some ⟨pb, 0, none⟩), .int .i64 (size : Int), .slice (some ⟨w.heap.size, 0, none⟩) n n, .slice none 0 0]
  have kM2 := kM.alloc (.cells #[.pointer (some ⟨pb, 0, none⟩), .int .i64 (size : Int), .slice (some ⟨w.heap.size, 0, none⟩) n n, .slice none 0 0] 87)
  have bb : Below w.heap.size w ((w.alloc (.cells M 141)).alloc (.cells #[.pointer (some ⟨pb, 0, none⟩), .int .i64 (size : Int), .slice (some ⟨w.heap.size, 0, none⟩) n n, .slice none 0 0] 87)) := ((Below.refl _ _).alloc (Nat.le_refl _) _).alloc (by simp) _
  clear hM
  go_enter Try.func28, Try.ntmps28
  go_wp2_with fail
  refine bodyPost_ret (v := .tuple #[.pointer (some ⟨w.heap.size + 1, 0, none⟩), .int .i64 0]) (by simp [results, Try.results28, go_sem]) rfl ⟨_, rfl, ?_, bb⟩
  simp only [World.size_alloc] at kG ⊢
  refine ⟨w.heap.size, List.replicate n (.slice none 0 0), .slice none 0 0, ?_⟩
  have hl : (List.replicate n (Value.slice none 0 0)).length = n := List.length_replicate
  refine ⟨(by rw [hl]; exact kG), (by rw [← HM.out]; exact kM2), (by rw [hl]; simp [newM]), fun j hj => ?_, fun i j hi hj _ b hb => ?_, World.ownsRow_nil _ _ _ _, ⟨⟨by omega, by omega⟩, ⟨by omega, by omega⟩, by omega⟩, fun j hj b hb => ?_, (fun b hb => by cases hb), (fun b hb => by simp; omega), (fun h => by omega), (by simp; omega), ⟨s1, s2⟩, (by rw [hl]; exact ⟨n1, n2⟩), (fun j => by rw [newM_at]; exact Nat.zero_le _), by simp [newM]⟩
  · rw [newM_at]
    simp only [List.getElem_replicate]
    exact World.ownsRow_nil _ _ _ _
  · simp only [List.getElem_replicate] at hb
    cases hb
  · simp only [List.getElem_replicate] at hb
    cases hb

/-- raw writes in a row, in blocks of F -/
def RsF (w : World) (F : Nat → Prop) (l : List RW) (A : Option Addr) (c : Nat) : Prop := l.length ≤ c ∧ l.length * 32 ≤ 140737488355328 ∧ (A = none → c = 0) ∧ RdF w F A (cellsR l)
theorem RsF.agree {w w' : World} {F : Nat → Prop} {l : List RW} {A : Option Addr} {c : Nat} (h : RsF w F l A c) (hk : Agree w w' F) : RsF w' F l A c := ⟨h.1, h.2.1, h.2.2.1, h.2.2.2.agree hk⟩
theorem RsF.mono {w : World} {F G : Nat → Prop} {l : List RW} {A : Option Addr} {c : Nat} (h : RsF w F l A c) (hG : ∀ g, F g → G g) : RsF w G l A c := ⟨h.1, h.2.1, h.2.2.1, h.2.2.2.mono hG⟩
theorem RsF.at_ {w : World} {F : Nat → Prop} {l : List RW} {A : Option Addr} {c : Nat} (h : RsF w F l A c) {j : Nat} (hj : j < l.length) : ∃ b off, A = some ⟨b, off, none⟩ ∧ F b ∧ w.cell? ⟨b, off + j * 3, none⟩ = some (.int .i64 l[j].g) ∧ w.cell? ⟨b, off + j * 3 + 1, none⟩ = some (.int .i64 l[j].o) ∧ w.cell? ⟨b, off + j * 3 + 2, none⟩ = some (.string l[j].b) := by
  obtain ⟨c0, c1, c2⟩ := cellsR_at l hj
  obtain ⟨b, off, e, hb, h0⟩ := h.2.2.2 _ _ c0
  obtain ⟨b1, off1, e1, hb1, h1⟩ := h.2.2.2 _ _ c1
  obtain ⟨b2, off2, e2, hb2, h2⟩ := h.2.2.2 _ _ c2
  rw [e] at e1 e2
  cases e1
  cases e2
  exact ⟨b, off, e, hb, h0, by rw [Nat.add_assoc]; exact h1, by rw [Nat.add_assoc]; exact h2⟩
theorem rsF_of_row {w : World} {lo : Nat} {v : Value} {l : List RW} (h : w.ownsRow lo 83 3 v l.length (cellsR l)) (hl : l.length * 32 ≤ 140737488355328) : ∃ A c, v = .slice A l.length c ∧ RsF w (fun k => v.ownBlock = some k) l A c := by
  obtain ⟨A, c, e, h1, h2, h3⟩ := row_rdF h
  exact ⟨A, c, e, h1, hl, h2, h3⟩
theorem take_snoc {l : List RW} {k : Nat} (hk : k < l.length) : l.take k ++ [l[k]] = l.take (k + 1) := by rw [List.take_add_one, List.getElem?_eq_getElem hk]; rfl

set_option maxRecDepth 100000 in
set_option maxHeartbeats 2000000 in
theorem vals1_in (F : Fence) (n : Nat) (hF : F.fn 88) (hro : F.round = none) (hn : 1 ≤ n) (l Bs : Nat) (G : Nat → Prop) (ks : List RW) (A : Option Addr) (c : Nat) (J Jx : List RW → World → Prop)
    (hY : ∀ pre x W, J pre W → pre.length < ks.length → YieldAt F (n - 1) Try.prog l #[x.v] W fun e W' =>
      (e = .returned (.bool true) ∧ J (pre ++ [x]) W' ∧ Agree W W' G) ∨ (e = .returned (.bool false) ∧ Jx (pre ++ [x]) W'))
    (W : World) (hJ : AbidesFrom W.heap.size J) (hBs : W.cell? ⟨Bs, 0, none⟩ = some (.slice A ks.length c)) (hG : G Bs) (hGl : ∀ k, G k → k < W.heap.size) (hK : RsF W G ks A c) (h0 : J [] W) :
    CallsIn F n Try.prog 88 #[.func (.yield l) #[] #[], .pointer (some ⟨Bs, 0, none⟩)] W fun e W' => (∃ v, e = .returned v) ∧
      ((∃ ys, ys = ks ∧ J ys W') ∨ (∃ pre, (∃ k, k < ks.length ∧ pre = ks.take (k + 1)) ∧ Jx pre W')) := by
  have hlen : ks.length ≤ 140737488355328 := by have := hK.2.1; omega
  refine callsIn_of_wp Try.func88 rfl hF ?_ hro
  simp only [Try.ntmps88, List.size_toArray, List.length_cons, List.length_nil, Nat.reduceAdd, Nat.reduceSub, Array.replicate_succ, Array.replicate_zero, List.push_toArray, List.append_toArray, List.nil_append, List.cons_append]
  gi_wp2
  gi_loopw [7] (fun i wr => ∃ k : Nat, k ≤ ks.length ∧ i = .int .i64 (k : Int) ∧ J (ks.take k) wr ∧ Agree W wr G)
    (fun i _ => ks.length - (RowKit.intOf i).toNat)
  case atStart => exact ⟨0, by omega, rfl, h0, Agree.refl _ _⟩
  case round =>
    obtain ⟨k, hk, rfl, hJs, hag⟩ := hrel
    by_cases hlt : k < ks.length
    · have hKr := hK.agree hag
      have hGr : ∀ g, G g → g < wr.heap.size := fun g hg => by
        rcases Nat.lt_or_ge g wr.heap.size with h | h
        · exact h
        · have h1 := hag g hg
          rw [Array.getElem?_eq_none h, Array.getElem?_eq_getElem (hGl g hg)] at h1
          cases h1
      have hb1 : wr.cell? ⟨Bs, 0, none⟩ = some (.slice A ks.length c) := (hag.cell (p := ⟨Bs, 0, none⟩) hG).trans hBs
      obtain ⟨bk, off, rfl, _, c0, c1, c2⟩ := hKr.at_ hlt
      have hta := take_snoc hlt
      have HT := powers.lay hta
      have e1 : IntKind.i64.wrap ((k : Int) + 1) = (k : Int) + 1 := IntWalk.i64_in _ (by omega)
      obtain ⟨x, hx⟩ : ∃ x, x = ks[k] := ⟨_, rfl⟩
      rw [← hx] at c0 c1 c2 hta
      obtain ⟨xg, xo, xb⟩ := x
      have kA := Blk.new wr 83 #[.int .i64 xg, .int .i64 xo, .string xb]
      have hgA := World.grownBy_alloc wr (.cells #[.int .i64 xg, .int .i64 xo, .string xb] 83) none
      obtain ⟨WA, hWA⟩ : ∃ WA, wr.alloc (.cells #[.int .i64 xg, .int .i64 xo, .string xb] 83) = WA := ⟨_, rfl⟩
      have hJa : J (ks.take k) WA := hJ _ _ _ none hJs (by rw [← hWA]; exact hgA) (fun r e => by cases e)
      have haA : Agree wr WA G := fun g hg => by rw [← hWA]; exact Below.heap_alloc wr _ g (hGr g hg)
      rw [hWA] at kA
      obtain ⟨fn, tmps, assign, body, hy, hR⟩ := hY _ ⟨xg, xo, xb⟩ WA hJa (by rw [List.length_take]; omega)
      try dsimp only at hy hR
      have a0 := kA.cell 0
      have a1 := kA.cell 1
      have a2 := kA.cell 2
      simp only [List.getElem?_toArray, List.getElem?_cons_zero, List.getElem?_cons_succ] at a0 a1 a2
      have HX := powers.lay hx
      clear hx hta kA hgA
      gi_wp2
      refine hR.mono ?_
      rintro e W3 (⟨rfl, hJ3, hk3⟩ | ⟨rfl, hJx3⟩)
      · gi_wp2
        go_roundw
        case rel => exact ⟨k + 1, by omega, by go_num, by rw [← HT.out, ← HX.out]; exact hJ3, (hag.trans haA).trans hk3⟩
        case measure => first | (simp [RowKit.intOf]; done) | (simp [RowKit.intOf]; omega) | omega
      · gi_wp2
        refine bodyPost_ret (results_none rfl _ _ _) rfl ?_
        exact ⟨⟨_, rfl⟩, .inr ⟨_, ⟨k, hlt, by rw [← HT.out, ← HX.out]⟩, hJx3⟩⟩
    · obtain rfl : k = ks.length := by omega
      gi_wp2
      go_end0
      exact ⟨⟨_, rfl⟩, .inl ⟨_, rfl, by rw [List.take_of_length_le (Nat.le_refl _)] at hJs; exact hJs⟩⟩

set_option maxRecDepth 100000 in
set_option maxHeartbeats 2000000 in
theorem vals_in (F : Fence) (n : Nat) (hF : F.fn 64) (hro : F.round = none) (a : Option Addr) (len cap : Nat) (w : World) :
    CallsIn F n Try.prog 64 #[.slice a len cap] w fun e w' => e = .returned (.func (.func 88) #[] #[.pointer (some ⟨w.heap.size, 0, none⟩)]) ∧ w' = w.alloc (.cells #[.slice a len cap] 77) := by
  refine callsIn_of_wp Try.func64 rfl hF ?_ hro
  simp only [Try.ntmps64, List.size_toArray, List.length_cons, List.length_nil, Nat.reduceAdd, Nat.reduceSub, Array.replicate_succ, Array.replicate_zero, List.push_toArray, List.append_toArray, List.nil_append, List.cons_append]
  gi_wp2
  go_ret
  exact ⟨rfl, rfl⟩
theorem vals_stops (F : Fence) (n : Nat) (hF : F.fn 88) (hro : F.round = none) (hn : 1 ≤ n) (Bs : Nat) (G : Nat → Prop) (ks : List RW) (A : Option Addr) (c : Nat) (w : World) (hG : G Bs) (hGl : ∀ g, G g → g < w.heap.size)
    (hc : w.cell? ⟨Bs, 0, none⟩ = some (.slice A ks.length c)) (hK : RsF w G ks A c) :
    SeqStopsK F n Try.prog 88 #[.pointer (some ⟨Bs, 0, none⟩)] (fun x : RW => #[x.v]) (fun X Y => Agree X Y G) (fun ys => ys = ks)
      (fun pre => ∃ k, k < ks.length ∧ pre = ks.take (k + 1)) ks.length w := fun l J Jx W hW hJ _ hY h0 => by
  have hag : Agree w W G := Agree.of_below hW hGl
  exact vals1_in F n hF hro hn l Bs G ks A c J Jx hY W hJ ((hag.cell (p := ⟨Bs, 0, none⟩) hG).trans hc) hG (fun k hk => Nat.lt_of_lt_of_le (hGl k hk) hW.size) (hK.agree hag) h0

set_option maxRecDepth 100000 in
set_option maxHeartbeats 2000000 in
theorem past_in (F : Fence) (n : Nat) (h1 : F.fn 38) (h2 : F.fn 64) (hro : F.round = none) (hn : 2 ≤ n) {w : World} {S : Nat → Prop} {p g : Nat} {m : MS} {sb : Nat} {vs : List Value} {vp : Value} (h : MdAt w S p g m sb vs vp) :
    CallsIn F n Try.prog 38 #[.pointer (some ⟨g, 0, none⟩)] w fun e w' => e = .returned (.func (.func 88) #[] #[.pointer (some ⟨w.heap.size, 0, none⟩)]) ∧ w' = w.alloc (.cells #[vp] 77) := by
  obtain ⟨A, c, rfl, _, _, _⟩ := row_rdF h.past
  have x3 := h.head.cell 3
  simp only [List.getElem?_toArray, List.getElem?_cons_zero, List.getElem?_cons_succ] at x3
  generalize m.past.length = pl at x3 ⊢
  clear h
  have hn1 : 1 ≤ n := by omega
  have c1 := vals_in F (n - 1) h2 hro A pl c w
  refine callsIn_of_wp Try.func38 rfl h1 ?_ hro
  simp only [Try.ntmps38, List.size_toArray, List.length_cons, List.length_nil, Nat.reduceAdd, Nat.reduceSub, Array.replicate_succ, Array.replicate_zero, List.push_toArray, List.append_toArray, List.nil_append, List.cons_append]
  gi_wp2_with (gi_at_call 64; refine c1.mono ?_; rintro e w' ⟨rfl, rfl⟩)
  go_ret
  exact ⟨rfl, rfl⟩
/-- what Past goes over: its row and the box that holds it -/
def GP (b : Nat) (vp : Value) (k : Nat) : Prop := k = b ∨ vp.ownBlock = some k

def bytesP (l : List RW) : Nat := (l.map fun x => x.b.size).foldl (· + ·) 0
theorem bytesP_snoc (l : List RW) (x : RW) : bytesP (l ++ [x]) = bytesP l + x.b.size := by simp [bytesP, List.foldl_append]
end Go.Proofs.Ytmbhfibldklecaa.mediums
