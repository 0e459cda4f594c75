/- What letheref06's toKid and toEntry answer. -/
import Derived.Test.YtanfjnahdnafnaaGreatNdX
import Derived.Test.YtanfjnahdnafnaaGreatNdQb
import Derived.Test.YtanfjnahdnafnaaGreatMixC


namespace Go.Proofs.YtanfjnahdnafnaaGreat.nodes
set_option linter.unusedVariables false
set_option linter.unusedSimpArgs false
open Go.RowKit Go.Proofs.YtanfjnahdnafnaaGreat.base Go.Proofs.YtanfjnahdnafnaaGreat.quotas Go.Proofs.YtanfjnahdnafnaaGreat.vers Go.Proofs.YtanfjnahdnafnaaGreat.tm Go.Proofs.YtanfjnahdnafnaaGreat.lies Go.Proofs.YtanfjnahdnafnaaGreat.copies Go.Proofs.YtanfjnahdnafnaaGreat.makes

/-- behind the reference's making -/
def Kb6 (w : World) (b o g : Nat) (s : ByteArray) (n1 n2 n3 n4 : Int) (u : Value) (wr : World) : Prop := Kb5 w b o g s n1 n2 n3 n4 wr ∧ wr.cell? ⟨w.heap.size, 3, none⟩ = some u
theorem Kb6.next {w wr w' : World} {b o g : Nat} {s : ByteArray} {n1 n2 n3 n4 : Int} {u : Value} (h : Kb6 w b o g s n1 n2 n3 n4 u wr) (hb : Below wr.heap.size wr w') : Kb6 w b o g s n1 n2 n3 n4 u w' := by
  obtain ⟨h1, h2⟩ := h
  have := h1.2.2.2.1.lt
  exact ⟨h1.next hb, by rw [hb.cell (by simp; omega)]; exact h2⟩

set_option maxRecDepth 100000 in
set_option maxHeartbeats 1000000 in
theorem toKid_yes (m : Int) (s : ByteArray) (x0 x1 x2 x3 x4 : T) (b off c : Nat) (u0 u1 u2 u3 u4 : Value) (w : World) (hb : b < w.heap.size) (hl : L5 w b off x0 x1 x2 x3 x4 u0 u1 u2 u3 u4) (h2 : 0 ≤ x2.n ∧ x2.n ≤ 2147483647) (h3 : 0 ≤ x3.n ∧ x3.n ≤ 2147483647) (h4 : 0 ≤ x4.n ∧ x4.n ≤ 2147483647) :
    Calls Tryz.prog 39 #[.agg #[.int .i64 5, .int .u64 m, .string s, .slice (some ⟨b, off, none⟩) 5 c]] w fun e w' => e = .returned (.agg #[.string x0.s, .int .u64 x1.n, .int .i64 x2.n, .int .i64 x3.n, .int .i64 x4.n]) ∧ Below w.heap.size w w' := by
  have k1 := Blk.new (w.alloc (.cells #[.int .i64 5, .int .u64 m, .string s, .slice (some ⟨b, off, none⟩) 5 c] 38)) 50 #[.string ⟨#[]⟩, .int .u64 0, .int .i64 0, .int .i64 0, .int .i64 0]
  have t1 := (Blk.new w 38 #[.int .i64 5, .int .u64 m, .string s, .slice (some ⟨b, off, none⟩) 5 c]).alloc (.cells #[.string ⟨#[]⟩, .int .u64 0, .int .i64 0, .int .i64 0, .int .i64 0] 50)
  have b1 : Below w.heap.size w ((w.alloc (.cells #[.int .i64 5, .int .u64 m, .string s, .slice (some ⟨b, off, none⟩) 5 c] 38)).alloc (.cells #[.string ⟨#[]⟩, .int .u64 0, .int .i64 0, .int .i64 0, .int .i64 0] 50)) := ((Below.refl _ _).alloc (Nat.le_refl _) _).alloc (by simp) _
  simp only [World.size_alloc] at k1
  have hl1 := hl.next b1 hb
  have y3 : ((w.alloc (.cells #[.int .i64 5, .int .u64 m, .string s, .slice (some ⟨b, off, none⟩) 5 c] 38)).alloc (.cells #[.string ⟨#[]⟩, .int .u64 0, .int .i64 0, .int .i64 0, .int .i64 0] 50)).cell? ⟨w.heap.size, 3, none⟩ = some (.slice (some ⟨b, off, none⟩) 5 c) := t1.cell 3
  have e2 : IntKind.i64.wrap x2.n = x2.n := IntWalk.i64_in _ (by omega)
  have e3 : IntKind.i64.wrap x3.n = x3.n := IntWalk.i64_in _ (by omega)
  have e4 : IntKind.i64.wrap x4.n = x4.n := IntWalk.i64_in _ (by omega)
  obtain ⟨⟨a00, a01, a02, a03⟩, ⟨a10, a11, a12, a13⟩, ⟨a20, a21, a22, a23⟩, ⟨a30, a31, a32, a33⟩, ⟨a40, a41, a42, a43⟩⟩ := hl1
  have lb : b < ((w.alloc (.cells #[.int .i64 5, .int .u64 m, .string s, .slice (some ⟨b, off, none⟩) 5 c] 38)).alloc (.cells #[.string ⟨#[]⟩, .int .u64 0, .int .i64 0, .int .i64 0, .int .i64 0] 50)).heap.size := Nat.lt_of_lt_of_le hb b1.size
  have lt1 := k1.lt
  clear hl h2 h3 h4 t1
  go_enter Tryz.func39, Tryz.ntmps39
  generalize hW : (w.alloc (.cells #[.int .i64 5, .int .u64 m, .string s, .slice (some ⟨b, off, none⟩) 5 c] 38)).alloc (.cells #[.string ⟨#[]⟩, .int .u64 0, .int .i64 0, .int .i64 0, .int .i64 0] 50) = W at *
  go_wp2_with fail
  go_region_held3 (fun w' => w'.cell? ⟨w.heap.size, 3, none⟩ = some (.slice (some ⟨b, off, none⟩) 5 c) ∧ w'.cell? ⟨b, off + 4 + 1, none⟩ = some (.int .u64 x1.n) ∧ w'.cell? ⟨b, off + 8 + 1, none⟩ = some (.int .u64 x2.n) ∧ w'.cell? ⟨b, off + 12 + 1, none⟩ = some (.int .u64 x3.n) ∧ w'.cell? ⟨b, off + 16 + 1, none⟩ = some (.int .u64 x4.n)) (go_keep) (fail)
  have R5 : Kb6 w b (off + 2) W.heap.size x0.s x1.n x2.n x3.n x4.n (.slice (some ⟨b, off, none⟩) 5 c) ((W.alloc (.cells #[.int .u64 x1.n, .int .i64 x2.n, .int .i64 x3.n, .int .i64 x4.n] 48)).drew) := by
    have kr := Blk.new W 48 #[.int .u64 x1.n, .int .i64 x2.n, .int .i64 x3.n, .int .i64 x4.n]
    have D : Below W.heap.size W (W.alloc (.cells #[.int .u64 x1.n, .int .i64 x2.n, .int .i64 x3.n, .int .i64 x4.n] 48)).drew := ((Below.refl _ _).alloc (Nat.le_refl _) _).drew
    exact ⟨⟨⟨(D.cell (by simpa using lb)).trans a02, kr.cell 0, kr.cell 1, kr.cell 2, kr.cell 3⟩, by simp, Nat.lt_of_lt_of_le lb D.size, k1.below D k1.lt, b1.trans (D.mono b1.size)⟩, (D.cell (by simp; omega)).trans y3⟩
  clear a00 a01 a02 a03 a10 a11 a12 a13 a20 a21 a22 a23 a30 a31 a32 a33 a40 a41 a42 a43 k1 b1 lb y3 lt1
  go_wp2_with fail
  clear hW
  generalize W.heap.size = g at R5 ⊢
  obtain ⟨N, hN, hM⟩ := norms _ _ R5
  have hne : Nonempty World := ⟨w⟩
  have q0 := fun n => (hN n).1.1.1
  have q1 := fun n => (hN n).1.1.2.1
  have q2 := fun n => (hN n).1.1.2.2.1
  have q3 := fun n => (hN n).1.1.2.2.2.1
  have q4 := fun n => (hN n).1.1.2.2.2.2
  have q5 := fun n => (hN n).1.2.1
  have q6 := fun n => (hN n).1.2.2.1
  have q7 := fun n => (hN n).2
  refine mix.region_tail 6 N (by kernel_rfl) (by kernel_rfl) (hM _ (R5.next ((Below.refl _ _).drew))) ?_
  simp only [List.take_succ_cons, List.take_zero, List.drop_succ_cons, List.drop_zero]
  clear R5
  repeat (go_big_quiet_step (fail))
  refine wpQuiet_nil ?_
  rintro _ ⟨n, rfl⟩
  have V9 := hN n
  generalize N n = w9 at V9 ⊢
  clear hM hN N n hne q0 q1 q2 q3 q4 q5 q6 q7
  obtain ⟨⟨_, _, _, k9, b9⟩, _⟩ := V9
  have lt1 := k9.lt
  have z0 := k9.cell 0
  have z1 := k9.cell 1
  have z2 := k9.cell 2
  have z3 := k9.cell 3
  have z4 := k9.cell 4
  simp at z0 z1 z2 z3 z4
  have f0 := k9.frozen 0
  have f1 := k9.frozen 1
  have f2 := k9.frozen 2
  have f3 := k9.frozen 3
  have f4 := k9.frozen 4
  go_wp2_with fail
  refine bodyPost_ret (v := .agg #[.string x0.s, .int .u64 x1.n, .int .i64 x2.n, .int .i64 x3.n, .int .i64 x4.n]) (by simp [results, Tryz.results39, go_sem, z0, z1, z2, z3, z4, e2, e3, e4]) rfl ⟨rfl, ?_⟩
  repeat (first | exact b9 | refine Below.setCell ?_ (Nat.le_succ _) _)

theorem toKid_any (t : T) (A : Option Addr) (c : Nat) (w : World) (h : LiesS w w.heap.size t.l A c) (hv : kidB t = true) :
    Calls Tryz.prog 39 #[.agg #[.int .i64 t.k, .int .u64 t.n, .string t.s, .slice A t.l.length c]] w fun e w' => e = .returned (.agg #[.string (toK t).s, .int .u64 ((toK t).k : Int), .int .i64 (toK t).g, .int .i64 (toK t).o, .int .i64 (toK t).n]) ∧ Below w.heap.size w w' := by
  obtain ⟨m, s, x0, x1, x2, x3, x4, rfl, n2, n3, n4⟩ := kidB_shape hv
  obtain ⟨b, off, u0, u1, u2, u3, u4, rfl, hb, hl⟩ := S_5 (show LiesS w w.heap.size [x0, x1, x2, x3, x4] A c from h)
  have f1 := S_fits h (x := x1) (by simp [T.l])
  have f2 := S_fits h (x := x2) (by simp [T.l])
  have f3 := S_fits h (x := x3) (by simp [T.l])
  have f4 := S_fits h (x := x4) (by simp [T.l])
  have hk : ((toK (T.mk 5 m s [x0, x1, x2, x3, x4])).k : Int) = x1.n := Int.toNat_of_nonneg f1.1.1
  rw [hk]
  exact toKid_yes m s x0 x1 x2 x3 x4 b off c u0 u1 u2 u3 u4 w hb hl ⟨f2.1.1, numB_le n2⟩ ⟨f3.1.1, numB_le n3⟩ ⟨f4.1.1, numB_le n4⟩
/-- what toEntry answers -/
def TEAns (w : World) (y : ByteArray × List V) (e : Ending) (w' : World) : Prop := ∃ A c, e = .returned (.agg #[.string y.1, .slice A y.2.length c]) ∧ HVs w' w.heap.size w'.heap.size y.2 A c ∧ Below w.heap.size w w'
/-- behind an element's box: what is read -/
def Ts (W1 : World) (g : Nat) (u : Value) (q b3 off3 c2 : Nat) (n0 : Int) (s1 s2 : ByteArray) (wr : World) : Prop := (wr.cell? ⟨g, 1, none⟩ = some u ∧ wr.cell? ⟨q, 3, none⟩ = some (.slice (some ⟨b3, off3, none⟩) 3 c2) ∧ wr.cell? ⟨b3, off3 + 1, none⟩ = some (.int .u64 n0) ∧ wr.cell? ⟨b3, off3 + 4 + 2, none⟩ = some (.string s1) ∧ wr.cell? ⟨b3, off3 + 8 + 2, none⟩ = some (.string s2)) ∧ (g < wr.heap.size ∧ q < wr.heap.size ∧ b3 < wr.heap.size) ∧ Below W1.heap.size W1 wr
theorem Ts.next {W1 wr w' : World} {g : Nat} {u : Value} {q b3 off3 c2 : Nat} {n0 : Int} {s1 s2 : ByteArray} (h : Ts W1 g u q b3 off3 c2 n0 s1 s2 wr) (hb : Below wr.heap.size wr w') : Ts W1 g u q b3 off3 c2 n0 s1 s2 w' := by
  obtain ⟨⟨h0, h1, h2, h3, h4⟩, ⟨g1, g2, g3⟩, hw⟩ := h
  have hs := hb.size
  refine ⟨⟨?_, ?_, ?_, ?_, ?_⟩, ⟨by omega, by omega, by omega⟩, hw.trans (hb.mono hw.size)⟩ <;> (rw [hb.cell (by simpa using (by assumption))]; assumption)
/-- a round's head of toEntry -/
def EHd (w : World) (s : ByteArray) (r : List T) (i : Value) (wr : World) : Prop := ∃ (j : Nat) (u : Value), j ≤ r.length ∧ i = .int .i64 j ∧ Blk wr (w.heap.size + 2) 64 #[.string s, u] ∧ OwnV (w.heap.size + 3) wr ((r.take j).map toV) u ∧ Blk wr (w.heap.size + 1) 64 #[.string ⟨#[]⟩, .slice none 0 0] ∧ Below w.heap.size w wr ∧ w.heap.size + 3 ≤ wr.heap.size

set_option maxRecDepth 100000 in
set_option maxHeartbeats 1000000 in
theorem toEntry_yes (m : Int) (s : ByteArray) (x : T) (r : List T) (b off c : Nat) (w : World) (h : LiesS w w.heap.size (x :: r) (some ⟨b, off, none⟩) c) (hall : ∀ y ∈ r, verB y = true) :
    Calls Tryz.prog 38 #[.agg #[.int .i64 5, .int .u64 m, .string s, .slice (some ⟨b, off, none⟩) (r.length + 1) c]] w (TEAns w (x.s, r.map toV)) := by
  obtain ⟨A', c', hrun, hS⟩ := run_tail h
  obtain ⟨b', off', A1, c1, e, hb, hl0, p0⟩ := S_at h (j := 0) (by simp)
  cases e
  clear hl0
  simp only [Nat.zero_mul, Nat.add_zero, List.getElem_cons_zero] at p0
  obtain ⟨_, _, p02, _⟩ := p0
  have hlen : r.length + 1 ≤ 140737488355328 := by obtain ⟨_, _, h2, _⟩ := h; simp at h2; omega
  have hlen56 : Hid ((r.length + 1) * 56 ≤ 140737488355328) := vers.lay (by obtain ⟨_, _, h2, _⟩ := h; simpa using h2)
  have d3 : (0 : Int) < (r.length : Int) + 1 := by omega
  have kR := (Blk.new (w.alloc (.cells #[.int .i64 5, .int .u64 m, .string s, .slice (some ⟨b, off, none⟩) (r.length + 1) c] 38)) 64 #[.string ⟨#[]⟩, .slice none 0 0]).alloc (.cells #[.string x.s, .slice none 0 0] 64)
  have kE := Blk.new ((w.alloc (.cells #[.int .i64 5, .int .u64 m, .string s, .slice (some ⟨b, off, none⟩) (r.length + 1) c] 38)).alloc (.cells #[.string ⟨#[]⟩, .slice none 0 0] 64)) 64 #[.string x.s, .slice none 0 0]
  have b0 : Below w.heap.size w (((w.alloc (.cells #[.int .i64 5, .int .u64 m, .string s, .slice (some ⟨b, off, none⟩) (r.length + 1) c] 38)).alloc (.cells #[.string ⟨#[]⟩, .slice none 0 0] 64)).alloc (.cells #[.string x.s, .slice none 0 0] 64)) := (((Below.refl _ _).alloc (Nat.le_refl _) _).alloc (by simp) _).alloc (by simp; omega) _
  simp only [World.size_alloc] at kR kE
  have E0 : EHd w x.s r (.int .i64 0) _ := ⟨0, _, Nat.zero_le _, rfl, kE, OwnV.nil _ _, kR, b0, by simp⟩
  clear h kR kE b0
  go_enter Tryz.func38, Tryz.ntmps38
  go_wp2_with fail
  go_loopw [16] (fun i wr => EHd w x.s r i wr) (fun i _ => r.length - (intOf i).toNat)
  case atStart => exact E0
  case round =>
    clear E0
    obtain ⟨j, u, hj, rfl, kE, hO, kR, bw, hsz⟩ := hrel
    obtain ⟨AX, nX, cX, rfl, hnX⟩ := hO.shape
    by_cases hlt : j < r.length
    · obtain ⟨b2, off2, A2, c2, rfl, hb2, hL, p0, p1, p2, p3⟩ := S_at (S_keep hS bw) hlt
      have hvj := hall _ (List.getElem_mem hlt)
      have hfit := toV_fits (S_of hL).1 hvj
      have htk := vers.lay (map_take toV r hlt)
      have hj0 : (0 : Int) ≤ (j : Int) := by omega
      obtain ⟨m1, s9, x0, x1, x2, htj, hn0⟩ := verB_shape hvj
      rw [htj] at hL p0 p1 p2 p3 hfit htk
      simp only [T.k, T.n, T.s, T.l] at p0 p1 p2 p3
      obtain ⟨b3, off3, u0, u1, u2, rfl, hb3, ⟨⟨_, a01, _, _⟩, ⟨_, _, a12, _⟩, ⟨_, _, a22, _⟩⟩⟩ := S_3 (show LiesS wr w.heap.size [x0, x1, x2] A2 c2 from (S_of hL).1)
      have f0 := S_fits (show LiesS wr w.heap.size [x0, x1, x2] (some ⟨b3, off3, none⟩) c2 from (S_of hL).1) (x := x0) (by simp)
      have e0 : IntKind.i64.wrap x0.n = x0.n := IntWalk.i64_in _ (by have := numB_le hn0; omega)
      change V.fits ⟨x0.n, x1.s, x2.s⟩ at hfit
      have D1 : Below wr.heap.size wr (wr.alloc (.cells #[.int .i64 5, .int .u64 m1, .string s9, .slice (some ⟨b3, off3, none⟩) 3 c2] 38)).drew := ((Below.refl _ _).alloc (Nat.le_refl _) _).drew
      have hl40 : Hid ((((r.take j).map toV).length + 1) * 40 ≤ 140737488355328) := vers.lay (by have := hlen56.out; rw [List.length_map, List.length_take]; omega)
      have hwq : r[j].l.length = 3 := by rw [htj]; rfl
      have hwk : r[j].k = 5 := by rw [htj]; rfl
      have hwn : r[j].n = m1 := by rw [htj]; rfl
      have hws : r[j].s = s9 := by rw [htj]; rfl
      have hown0 : ∀ k, (Value.slice AX nX cX).ownBlock = some k → w.heap.size + 3 ≤ k ∧ k < wr.heap.size := hO.own
      have hneE : some (w.heap.size + 2) ≠ (Value.slice AX nX cX).ownBlock := fun e => by have := hown0 _ e.symm; omega
      have hneX : some wr.heap.size ≠ (Value.slice AX nX cX).ownBlock := fun e => by have := hown0 _ e.symm; omega
      have hneB : some b3 ≠ (Value.slice AX nX cX).ownBlock := fun e => by have := hown0 _ e.symm; omega
      have hO9 := hO.below D1
      have b9 := bw.trans (D1.mono bw.size)
      have kE9 := kE.below D1 kE.lt
      have kR9 := kR.below D1 kR.lt
      have hlo9 : w.heap.size + 3 ≤ (wr.alloc (.cells #[.int .i64 5, .int .u64 m1, .string s9, .slice (some ⟨b3, off3, none⟩) 3 c2] 38)).drew.heap.size := Nat.le_trans hsz D1.size
      have hle := hl40.out
      have kX := kE.cell 1
      simp at kX
      have hwb2 : w.heap.size + 2 < wr.heap.size := by omega
      have hwb3 : b3 < wr.heap.size := by omega
      have l0 : b3 < (wr.alloc (.cells #[.int .i64 5, .int .u64 m1, .string s9, .slice (some ⟨b3, off3, none⟩) 3 c2] 38)).heap.size := by simp; omega
      have l1 : w.heap.size + 2 < (wr.alloc (.cells #[.int .i64 5, .int .u64 m1, .string s9, .slice (some ⟨b3, off3, none⟩) 3 c2] 38)).heap.size := by simp; omega
      have hf0 := kE9.frozen 1
      have g0 : (wr.alloc (.cells #[.int .i64 5, .int .u64 m1, .string s9, .slice (some ⟨b3, off3, none⟩) 3 c2] 38)).drew.cell? ⟨w.heap.size + 2, 1, none⟩ = some (.slice AX nX cX) := kE9.cell 1
      have g1 : (wr.alloc (.cells #[.int .i64 5, .int .u64 m1, .string s9, .slice (some ⟨b3, off3, none⟩) 3 c2] 38)).drew.cell? ⟨wr.heap.size, 3, none⟩ = some (.slice (some ⟨b3, off3, none⟩) 3 c2) := (Blk.new wr 38 #[.int .i64 5, .int .u64 m1, .string s9, .slice (some ⟨b3, off3, none⟩) 3 c2]).cell 3
      have g2 : (wr.alloc (.cells #[.int .i64 5, .int .u64 m1, .string s9, .slice (some ⟨b3, off3, none⟩) 3 c2] 38)).drew.cell? ⟨b3, off3 + 1, none⟩ = some (.int .u64 x0.n) := (D1.cell (by simpa using hwb3)).trans a01
      have g3 : (wr.alloc (.cells #[.int .i64 5, .int .u64 m1, .string s9, .slice (some ⟨b3, off3, none⟩) 3 c2] 38)).drew.cell? ⟨b3, off3 + 4 + 2, none⟩ = some (.string x1.s) := (D1.cell (by simpa using hwb3)).trans a12
      have g4 : (wr.alloc (.cells #[.int .i64 5, .int .u64 m1, .string s9, .slice (some ⟨b3, off3, none⟩) 3 c2] 38)).drew.cell? ⟨b3, off3 + 8 + 2, none⟩ = some (.string x2.s) := (D1.cell (by simpa using hwb3)).trans a22
      have g9 : ((wr.alloc (.cells #[.int .i64 5, .int .u64 m1, .string s9, .slice (some ⟨b3, off3, none⟩) 3 c2] 38)).alloc (.cells #[.int .i64 x0.n, .string x1.s, .string x2.s] 72)).cell? ⟨w.heap.size + 1 + 1, 1, none⟩ = some (.slice AX nX cX) := (World.cell?_alloc_lt _ _ _ l1).trans g0
      have l5 : w.heap.size + 2 < (wr.alloc (.cells #[.int .i64 5, .int .u64 m1, .string s9, .slice (some ⟨b3, off3, none⟩) 3 c2] 38)).drew.heap.size := l1
      have l6 : wr.heap.size < (wr.alloc (.cells #[.int .i64 5, .int .u64 m1, .string s9, .slice (some ⟨b3, off3, none⟩) 3 c2] 38)).drew.heap.size := by simp
      have l7 : b3 < (wr.alloc (.cells #[.int .i64 5, .int .u64 m1, .string s9, .slice (some ⟨b3, off3, none⟩) 3 c2] 38)).drew.heap.size := l0
      clear hL f0 hn0 htj hvj hO kE kR hown0 D1 hl40
      go_wp2_with fail
      refine mix.region_D (fun w' => w'.cell? ⟨w.heap.size + 2, 1, none⟩ = some (.slice AX nX cX) ∧ w'.cell? ⟨wr.heap.size, 3, none⟩ = some (.slice (some ⟨b3, off3, none⟩) 3 c2) ∧ w'.cell? ⟨b3, off3 + 1, none⟩ = some (.int .u64 x0.n) ∧ w'.cell? ⟨b3, off3 + 4 + 2, none⟩ = some (.string x1.s) ∧ w'.cell? ⟨b3, off3 + 8 + 2, none⟩ = some (.string x2.s)) (fun j => j == 22) (by kernel_rfl) ?_
      refine mix.D_take (i := 0) (v := ?_) rfl (by kernel_rfl) (by kernel_rfl) (fun _ _ _ h => h) (Or.inl ⟨by rfl, ?_⟩) ⟨g0, g1, g2, g3, g4⟩ ?_
      rotate_left
      · intro w' hSw
        go_split_ands
        try simp only [List.getElem_toArray, List.getElem_cons_zero, List.getElem_cons_succ]
        go_simp
        exact rfl
      try simp only [Act.put, List.getElem_toArray, List.getElem_cons_zero, List.getElem_cons_succ, List.setIfInBounds_toArray, List.set_cons_zero, List.set_cons_succ]
      refine mix.D_take (i := 1) (v := ?_) rfl (by kernel_rfl) (by kernel_rfl) (fun _ _ _ h => h) (Or.inl ⟨by rfl, ?_⟩) ⟨g0, g1, g2, g3, g4⟩ ?_
      rotate_left
      · intro w' hSw
        go_split_ands
        try simp only [List.getElem_toArray, List.getElem_cons_zero, List.getElem_cons_succ]
        go_simp
        exact rfl
      try simp only [Act.put, List.getElem_toArray, List.getElem_cons_zero, List.getElem_cons_succ, List.setIfInBounds_toArray, List.set_cons_zero, List.set_cons_succ]
      refine mix.D_take (i := 2) (v := ?_) rfl (by kernel_rfl) (by kernel_rfl) (fun _ _ _ h => h) (Or.inl ⟨by rfl, ?_⟩) ⟨g0, g1, g2, g3, g4⟩ ?_
      rotate_left
      · intro w' hSw
        go_split_ands
        try simp only [List.getElem_toArray, List.getElem_cons_zero, List.getElem_cons_succ]
        go_simp
        exact rfl
      try simp only [Act.put, List.getElem_toArray, List.getElem_cons_zero, List.getElem_cons_succ, List.setIfInBounds_toArray, List.set_cons_zero, List.set_cons_succ]
      refine mix.D_take (i := 3) (v := ?_) rfl (by kernel_rfl) (by kernel_rfl) (fun _ _ _ h => h) (Or.inl ⟨by rfl, ?_⟩) ⟨g0, g1, g2, g3, g4⟩ ?_
      rotate_left
      · intro w' hSw
        go_split_ands
        try simp only [List.getElem_toArray, List.getElem_cons_zero, List.getElem_cons_succ]
        go_simp
        exact rfl
      try simp only [Act.put, List.getElem_toArray, List.getElem_cons_zero, List.getElem_cons_succ, List.setIfInBounds_toArray, List.set_cons_zero, List.set_cons_succ]
      refine mix.D_take (i := 4) (v := ?_) rfl (by kernel_rfl) (by kernel_rfl) (fun _ _ _ h => h) (Or.inl ⟨by rfl, ?_⟩) ⟨g0, g1, g2, g3, g4⟩ ?_
      rotate_left
      · intro w' hSw
        go_split_ands
        try simp only [List.getElem_toArray, List.getElem_cons_zero, List.getElem_cons_succ]
        go_simp
        exact rfl
      try simp only [Act.put, List.getElem_toArray, List.getElem_cons_zero, List.getElem_cons_succ, List.setIfInBounds_toArray, List.set_cons_zero, List.set_cons_succ]
      refine mix.D_take (i := 5) (v := ?_) rfl (by kernel_rfl) (by kernel_rfl) (fun _ _ _ h => h) (Or.inl ⟨by rfl, ?_⟩) ⟨g0, g1, g2, g3, g4⟩ ?_
      rotate_left
      · intro w' hSw
        go_split_ands
        try simp only [List.getElem_toArray, List.getElem_cons_zero, List.getElem_cons_succ]
        go_simp
        exact rfl
      try simp only [Act.put, List.getElem_toArray, List.getElem_cons_zero, List.getElem_cons_succ, List.setIfInBounds_toArray, List.set_cons_zero, List.set_cons_succ]
      refine mix.D_take (i := 6) (v := ?_) rfl (by kernel_rfl) (by kernel_rfl) (fun _ _ _ h => h) (Or.inl ⟨by rfl, ?_⟩) ⟨g0, g1, g2, g3, g4⟩ ?_
      rotate_left
      · intro w' hSw
        go_split_ands
        try simp only [List.getElem_toArray, List.getElem_cons_zero, List.getElem_cons_succ]
        go_simp
        exact rfl
      try simp only [Act.put, List.getElem_toArray, List.getElem_cons_zero, List.getElem_cons_succ, List.setIfInBounds_toArray, List.set_cons_zero, List.set_cons_succ]
      refine mix.D_take (i := 7) (v := ?_) rfl (by kernel_rfl) (by kernel_rfl) (fun _ _ _ h => h) (Or.inl ⟨by rfl, ?_⟩) ⟨g0, g1, g2, g3, g4⟩ ?_
      rotate_left
      · intro w' hSw
        go_split_ands
        try simp only [List.getElem_toArray, List.getElem_cons_zero, List.getElem_cons_succ]
        go_simp
        exact rfl
      try simp only [Act.put, List.getElem_toArray, List.getElem_cons_zero, List.getElem_cons_succ, List.setIfInBounds_toArray, List.set_cons_zero, List.set_cons_succ]
      refine mix.D_take (i := 8) (v := ?_) rfl (by kernel_rfl) (by kernel_rfl) (fun _ _ _ h => h) (Or.inl ⟨by rfl, ?_⟩) ⟨g0, g1, g2, g3, g4⟩ ?_
      rotate_left
      · intro w' hSw
        go_split_ands
        try simp only [List.getElem_toArray, List.getElem_cons_zero, List.getElem_cons_succ]
        go_simp
        exact rfl
      try simp only [Act.put, List.getElem_toArray, List.getElem_cons_zero, List.getElem_cons_succ, List.setIfInBounds_toArray, List.set_cons_zero, List.set_cons_succ]
      refine mix.D_take (i := 9) (v := ?_) rfl (by kernel_rfl) (by kernel_rfl) (fun _ _ _ h => h) (Or.inl ⟨by rfl, ?_⟩) ⟨g0, g1, g2, g3, g4⟩ ?_
      rotate_left
      · intro w' hSw
        go_split_ands
        try simp only [List.getElem_toArray, List.getElem_cons_zero, List.getElem_cons_succ]
        go_simp
        exact rfl
      try simp only [Act.put, List.getElem_toArray, List.getElem_cons_zero, List.getElem_cons_succ, List.setIfInBounds_toArray, List.set_cons_zero, List.set_cons_succ]
      refine mix.D_take (i := 10) (v := ?_) rfl (by kernel_rfl) (by kernel_rfl) (fun _ _ _ h => h) (Or.inl ⟨by rfl, ?_⟩) ⟨g0, g1, g2, g3, g4⟩ ?_
      rotate_left
      · intro w' hSw
        go_split_ands
        try simp only [List.getElem_toArray, List.getElem_cons_zero, List.getElem_cons_succ]
        go_simp
        exact rfl
      try simp only [Act.put, List.getElem_toArray, List.getElem_cons_zero, List.getElem_cons_succ, List.setIfInBounds_toArray, List.set_cons_zero, List.set_cons_succ]
      refine mix.D_take (i := 11) (v := ?_) rfl (by kernel_rfl) (by kernel_rfl) (fun _ _ _ h => h) (Or.inl ⟨by rfl, ?_⟩) ⟨g0, g1, g2, g3, g4⟩ ?_
      rotate_left
      · intro w' hSw
        go_split_ands
        try simp only [List.getElem_toArray, List.getElem_cons_zero, List.getElem_cons_succ]
        go_simp
        exact rfl
      try simp only [Act.put, List.getElem_toArray, List.getElem_cons_zero, List.getElem_cons_succ, List.setIfInBounds_toArray, List.set_cons_zero, List.set_cons_succ]
      refine mix.D_take (i := 12) (v := ?_) rfl (by kernel_rfl) (by kernel_rfl) (fun _ _ _ h => h) (Or.inl ⟨by rfl, ?_⟩) ⟨g0, g1, g2, g3, g4⟩ ?_
      rotate_left
      · intro w' hSw
        go_split_ands
        try simp only [List.getElem_toArray, List.getElem_cons_zero, List.getElem_cons_succ]
        go_simp
        exact rfl
      try simp only [Act.put, List.getElem_toArray, List.getElem_cons_zero, List.getElem_cons_succ, List.setIfInBounds_toArray, List.set_cons_zero, List.set_cons_succ]
      refine mix.D_take (i := 13) (v := ?_) rfl (by kernel_rfl) (by kernel_rfl) (fun _ _ _ h => h) (Or.inl ⟨by rfl, ?_⟩) ⟨g0, g1, g2, g3, g4⟩ ?_
      rotate_left
      · intro w' hSw
        go_split_ands
        try simp only [List.getElem_toArray, List.getElem_cons_zero, List.getElem_cons_succ]
        go_simp
        exact rfl
      try simp only [Act.put, List.getElem_toArray, List.getElem_cons_zero, List.getElem_cons_succ, List.setIfInBounds_toArray, List.set_cons_zero, List.set_cons_succ]
      refine mix.D_take (i := 14) (v := ?_) rfl (by kernel_rfl) (by kernel_rfl) (fun _ _ _ h => h) (Or.inl ⟨by rfl, ?_⟩) ⟨g0, g1, g2, g3, g4⟩ ?_
      rotate_left
      · intro w' hSw
        go_split_ands
        try simp only [List.getElem_toArray, List.getElem_cons_zero, List.getElem_cons_succ]
        go_simp
        exact rfl
      try simp only [Act.put, List.getElem_toArray, List.getElem_cons_zero, List.getElem_cons_succ, List.setIfInBounds_toArray, List.set_cons_zero, List.set_cons_succ]
      refine mix.D_take (i := 15) (v := ?_) rfl (by kernel_rfl) (by kernel_rfl) (fun _ _ _ h => h) (Or.inl ⟨by rfl, ?_⟩) ⟨g0, g1, g2, g3, g4⟩ ?_
      rotate_left
      · intro w' hSw
        go_split_ands
        try simp only [List.getElem_toArray, List.getElem_cons_zero, List.getElem_cons_succ]
        go_simp
        exact rfl
      try simp only [Act.put, List.getElem_toArray, List.getElem_cons_zero, List.getElem_cons_succ, List.setIfInBounds_toArray, List.set_cons_zero, List.set_cons_succ]
      refine mix.D_take (i := 16) (v := ?_) rfl (by kernel_rfl) (by kernel_rfl) (fun _ _ _ h => h) (Or.inl ⟨by rfl, ?_⟩) ⟨g0, g1, g2, g3, g4⟩ ?_
      rotate_left
      · intro w' hSw
        go_split_ands
        try simp only [List.getElem_toArray, List.getElem_cons_zero, List.getElem_cons_succ]
        go_simp
        exact rfl
      try simp only [Act.put, List.getElem_toArray, List.getElem_cons_zero, List.getElem_cons_succ, List.setIfInBounds_toArray, List.set_cons_zero, List.set_cons_succ]
      refine mix.D_take (i := 17) (v := ?_) rfl (by kernel_rfl) (by kernel_rfl) (fun _ _ _ h => h) (Or.inl ⟨by rfl, ?_⟩) ⟨g0, g1, g2, g3, g4⟩ ?_
      rotate_left
      · intro w' hSw
        go_split_ands
        try simp only [List.getElem_toArray, List.getElem_cons_zero, List.getElem_cons_succ]
        go_simp
        exact rfl
      try simp only [Act.put, List.getElem_toArray, List.getElem_cons_zero, List.getElem_cons_succ, List.setIfInBounds_toArray, List.set_cons_zero, List.set_cons_succ]
      refine mix.D_take (i := 18) (v := ?_) rfl (by kernel_rfl) (by kernel_rfl) (fun _ _ _ h => h) (Or.inl ⟨by rfl, ?_⟩) ⟨g0, g1, g2, g3, g4⟩ ?_
      rotate_left
      · intro w' hSw
        go_split_ands
        try simp only [List.getElem_toArray, List.getElem_cons_zero, List.getElem_cons_succ]
        go_simp
        exact rfl
      try simp only [Act.put, List.getElem_toArray, List.getElem_cons_zero, List.getElem_cons_succ, List.setIfInBounds_toArray, List.set_cons_zero, List.set_cons_succ]
      refine mix.D_op (k := 19) rfl rfl (by kernel_rfl) (fun K' hK => ?_)
      simp only [List.getElem_toArray, List.getElem_cons_zero, List.getElem_cons_succ]
      go_wp2_with fail
      refine hK.out _ _ (fun _ => ⟨(World.cell?_alloc_lt _ _ _ l5).trans g0, (World.cell?_alloc_lt _ _ _ l6).trans g1, (World.cell?_alloc_lt _ _ _ l7).trans g2, (World.cell?_alloc_lt _ _ _ l7).trans g3, (World.cell?_alloc_lt _ _ _ l7).trans g4⟩) ?_
      clear hK K'
      try simp only [Act.put, List.setIfInBounds_toArray, List.set_cons_zero, List.set_cons_succ]
      refine mix.D_op (k := 20) rfl rfl (by kernel_rfl) (fun K' hK => ?_)
      simp only [List.getElem_toArray, List.getElem_cons_zero, List.getElem_cons_succ]
      refine wp_V (.tmp 21) (.tmp 39) rfl hO9 rfl hlo9 hfit (cs := #[.int .i64 x0.n, .string x1.s, .string x2.s]) rfl rfl (by simp) hle ?_
      intro v5 w5 hO5 hb5 hz5 hk5 hkeep
      obtain ⟨A5, n5, c5, rfl, hn5⟩ := hO5.shape
      have kE5 := hkeep _ _ _ (by decide) kE9
      have kR5 := hkeep _ _ _ (by decide) kR9
      have f1 := kE5.frozen 1
      have z1 : w5.cell? ⟨w.heap.size + 2, 1, none⟩ = some (.slice AX nX cX) := kE5.cell 1
      refine hK.out _ _ (fun _ => ⟨z1, (hk5 _ l6 hneX).trans g1, (hk5 _ l7 hneB).trans g2, (hk5 _ l7 hneB).trans g3, (hk5 _ l7 hneB).trans g4⟩) ?_
      clear hK K'
      try simp only [Act.put, List.setIfInBounds_toArray, List.set_cons_zero, List.set_cons_succ]
      refine mix.D_take (i := 21) (v := ?_) rfl (by kernel_rfl) (by kernel_rfl) (fun _ _ _ h => h) (Or.inl ⟨by rfl, ?_⟩) ⟨z1, (hk5 _ l6 hneX).trans g1, (hk5 _ l7 hneB).trans g2, (hk5 _ l7 hneB).trans g3, (hk5 _ l7 hneB).trans g4⟩ ?_
      rotate_left
      · intro w' hSw
        go_split_ands
        try simp only [List.getElem_toArray, List.getElem_cons_zero, List.getElem_cons_succ]
        go_simp
        exact rfl
      try simp only [Act.put, List.getElem_toArray, List.getElem_cons_zero, List.getElem_cons_succ, List.setIfInBounds_toArray, List.set_cons_zero, List.set_cons_succ]
      refine mix.D_op (k := 22) rfl rfl (by kernel_rfl) (fun K' hK => ?_)
      simp only [List.getElem_toArray, List.getElem_cons_zero, List.getElem_cons_succ]
      have lE5 := kE5.lt
      have b5 : Below w.heap.size w w5 := b9.trans (hb5.mono (by omega))
      have hsz5 := b5.size
      go_wp2_with fail
      refine hK.out _ _ (fun h => by simp at h) ?_
      clear hK K'
      refine mix.D_done (by kernel_rfl) ?_ _
      go_wp2_with fail
      refine ⟨⟨j + 1, .slice A5 n5 c5, hlt, by go_num, by simpa using kE5.put 1 (.slice A5 n5 c5), ?_, kR5.far (by show w.heap.size + 1 ≠ w.heap.size + 2; omega) _, b5.setCell (by show w.heap.size ≤ w.heap.size + 2; omega) _, by simp; omega⟩, by simp [intOf]; omega⟩
      rw [htk.out]
      exact OwnV.setCell hO5 (by show w.heap.size + 2 < w.heap.size + 3; omega) _
    · rw [List.take_of_length_le (by omega)] at hO
      have lE := kE.lt
      have lR := kR.lt
      have y0 := kE.cell 0
      have y1 := kE.cell 1
      simp at y0 y1
      have z0 := kR.cell 0
      have z1 := kR.cell 1
      simp at z0 z1
      have f0 := kR.frozen 0
      have f1 := kR.frozen 1
      go_wp2_with fail
      refine bodyPost_ret (v := .agg #[.string x.s, .slice AX nX cX]) (by simp [results, Tryz.results38, go_sem, z0, z1]) rfl ?_
      obtain ⟨A6, c6, e6, hH⟩ := OwnV.hvs hO
      refine ⟨A6, c6, by rw [e6], ?_, (bw.setCell (by show w.heap.size ≤ w.heap.size + 1; omega) _).setCell (by show w.heap.size ≤ w.heap.size + 1; omega) _⟩
      exact hH.move (by omega) (by simp) (fun p p1 p2 => by
        rw [World.cell?_setCell_far _ _ _ _ (by intro e; simp at e; omega), World.cell?_setCell_far _ _ _ _ (by intro e; simp at e; omega)])

theorem toEntry_any (t : T) (A : Option Addr) (c : Nat) (w : World) (h : LiesS w w.heap.size t.l A c) (hv : entB t = true) :
    Calls Tryz.prog 38 #[.agg #[.int .i64 t.k, .int .u64 t.n, .string t.s, .slice A t.l.length c]] w (TEAns w (toEP t)) := by
  cases hh : headB t 2 with
  | false => rw [entB_head hh] at hv; cases hv
  | true =>
    obtain ⟨m, s, x, r, rfl, hk⟩ := headB_shape hh
    obtain ⟨b', off', A1, c1, e, hb, _, _⟩ := S_at h (j := 0) (by simp [T.l])
    cases e
    rw [entB_yes m s r hk] at hv
    exact toEntry_yes m s x r b' off' c w h (List.all_eq_true.1 hv)

end Go.Proofs.YtanfjnahdnafnaaGreat.nodes
