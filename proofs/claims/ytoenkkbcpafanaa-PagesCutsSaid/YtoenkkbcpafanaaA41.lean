/- Pages.Write. -/
import Derived.Test.YtoenkkbcpafanaaA25
import Derived.Test.YtoenkkbcpafanaaA40
import Derived.Test.YtoenkkbcpafanaaA11


namespace Go.Proofs.Ytoenkkbcpafanaa.pags
set_option linter.unusedVariables false
set_option linter.unusedSimpArgs false
open Go.RowKit Go.Proofs.Ytoenkkbcpafanaa.base Go.Proofs.Ytoenkkbcpafanaa.vers Go.Proofs.Ytoenkkbcpafanaa.nodes Go.Proofs.Ytoenkkbcpafanaa.trees Go.Proofs.Ytoenkkbcpafanaa.mediums Go.Proofs.Ytoenkkbcpafanaa.segs Go.Proofs.Ytoenkkbcpafanaa.caches Go.Proofs.Ytoenkkbcpafanaa.dice Go.Lib

/-- a node's bytes under a key; why it may not be -/
def pgB (key : Int) (lf : Bool) (es : List E) (ks : List K) : ByteArray := ⟨(boxes.boxT key (nodeT lf es ks)).enc.toArray⟩
def pgE (q : Q7) (lf : Bool) (es : List E) (ks : List K) : Int := ndbad q.a q.b q.c q.d q.e q.f q.h lf es ks
def zR : R := ⟨0, 0, 0, 0⟩
/-- behind an append -/
def PV.app (v : PV) (b : ByteArray) : PV := { v with k := v.k + 1, m := apM v.m v.s v.L b, s := apS v.m v.s v.L b, L := apL v.m v.s v.L b, W := apW v.m v.s v.L v.W b }
/-- what Write answers and leaves -/
def WrP (q : Q7) (v : PV) (lf : Bool) (es : List E) (ks : List K) (e : Int) (r : R) (v' : PV) : Prop :=
  (pgE q lf es ks ≠ 0 ∧ e = pgE q lf es ks ∧ r = zR ∧ v' = v) ∨
  (pgE q lf es ks = 0 ∧ ∃ b, b = pgB (draw v.zs v.k) lf es ks ∧ e = apE v.m v.s v.L b ∧
    ((e ≠ 0 ∧ r = zR ∧ v' = v.app b) ∨
     (e = 0 ∧ (r.k : Int) = draw v.zs v.k ∧ apV v.m v.s v.L b = ⟨r.g, r.o, r.n⟩ ∧ ∃ l', l'.map H.ph = (putP v.room (v.l.map H.ph) r (lf, es.map pe, ks)).2 ∧ v' = { v.app b with l := l' })))
def WrPost (B : Nat) (w0 w : World) (q : Q7) (x : PL) (v : PV) (lf : Bool) (es : List E) (ks : List K) (e : Ending) (w' : World) : Prop :=
  ∃ (n : Int) (r : R) (S' Z' : Nat → Prop) (v' : PV), e = .returned (.tuple #[r.val, .int .i64 n]) ∧ Pg B w0 w' q { x with S := S', Z := Z' } v' ∧ Keep x.T w w' ∧ (∀ b, S' b → x.S b ∨ w.heap.size ≤ b) ∧ (∀ b, Z' b → x.Z b ∨ w.heap.size ≤ b) ∧ WrP q v lf es ks n r v'
theorem draw_in {zs : List Int} (hz : ∀ z ∈ zs, 0 ≤ z ∧ z < 18446744073709551616) {k : Nat} (hk : k ≤ 1000000) : 0 ≤ draw zs k ∧ draw zs k < 18446744073709551616 := by
  unfold draw
  split
  · rename_i h
    rw [List.getElem?_eq_getElem h]
    exact hz _ (List.getElem_mem h)
  · omega
theorem apV_fits {m : MS} {s : LS} (h : OkL s) (hs : m.size ≤ 1048576) {L : Int} {b : ByteArray} (he : apE m s L b = 0) : ∃ j o : Nat, apV m s L b = ⟨(j : Int), (o : Int), (b.size : Int)⟩ ∧ j < s.ac.length ∧ o ≤ 1048576 ∧ 1 ≤ b.size ∧ b.size ≤ m.size := by
  have hE : roomE m.size s b.size = 0 := by
    unfold apE at he
    split at he
    · assumption
    · exact he
  obtain ⟨n1, n2, hj, hfit, _⟩ := room_facts h hE
  have hu := h.used _ hj
  obtain ⟨o, ho⟩ := Int.eq_ofNat_of_zero_le (show 0 ≤ apU m s b from hu.1)
  refine ⟨apJ m s b, o, ?_, hj, ?_, n1, n2⟩
  · unfold apV; rw [if_pos he, ho]
  · have : apU m s b ≤ 1048576 := hu.2
    omega

/-- where Write stands: the pages, the node's box, the answer's box -/
structure Wx (B : Nat) (w0 w : World) (q : Q7) (x : PL) (y : N) (F : Nat → Prop) (nb rb : Nat) (wr : World) (S Z : Nat → Prop) (v : PV) : Prop where
  le : B ≤ w.heap.size
  pg : Pg B w0 wr q { x with S := S, Z := Z } v
  nk : Blk wr nb 87 #[.bool y.lf, .slice y.A y.es.length y.c, .slice y.Q y.ks.length y.m]
  rk : Blk wr rb 27 #[.int .u64 0, .int .i64 0, .int .i64 0, .int .i64 0]
  y : NsF wr F y
  hF : ∀ b, F b → b < w.heap.size ∧ ¬ x.T b
  kw : Keep x.T w wr
  sS : ∀ b, S b → x.S b ∨ w.heap.size ≤ b
  sZ : ∀ b, Z b → x.Z b ∨ w.heap.size ≤ b
  fresh : (w.heap.size ≤ nb ∧ w.heap.size ≤ rb) ∧ ¬ PL.T { x with S := S, Z := Z } nb ∧ ¬ PL.T { x with S := S, Z := Z } rb
section
variable {B : Nat} {w0 w wr w' : World} {q : Q7} {x : PL} {y : N} {F : Nat → Prop} {nb rb : Nat} {S Z S' Z' : Nat → Prop} {v v' : PV}
theorem PL.T_of {b n : Nat} (hS : ∀ k, S' k → S k ∨ n ≤ k) (hZ : ∀ k, Z' k → Z k ∨ n ≤ k) (h : PL.T { x with S := S', Z := Z' } b) : PL.T { x with S := S, Z := Z } b ∨ n ≤ b := by
  rcases h with h | h | (h | h) | h
  · exact .inl (.inl h)
  · exact .inl (.inr (.inl h))
  · rcases hS _ h with h | h
    · exact .inl (.inr (.inr (.inl (.inl h))))
    · exact .inr h
  · exact .inl (.inr (.inr (.inl (.inr h))))
  · rcases hZ _ h with h | h
    · exact .inl (.inr (.inr (.inr h)))
    · exact .inr h
theorem Wx.step (h : Wx B w0 w q x y F nb rb wr S Z v) (hp : Pg B w0 w' q { x with S := S', Z := Z' } v') (hk : Keep (PL.T { x with S := S, Z := Z }) wr w') (hS : ∀ k, S' k → S k ∨ wr.heap.size ≤ k) (hZ : ∀ k, Z' k → Z k ∨ wr.heap.size ≤ k) :
    Wx B w0 w q x y F nb rb w' S' Z' v' := by
  have hs := h.kw.size
  have ht : ∀ b, PL.T { x with S := S, Z := Z } b → x.T b ∨ w.heap.size ≤ b := fun b hb => PL.T_of (x := x) (S := x.S) (Z := x.Z) h.sS h.sZ hb
  refine ⟨h.le, hp, hk.blk h.nk h.fresh.2.1, hk.blk h.rk h.fresh.2.2, h.y.agree (hk.agree fun b hb => ⟨Nat.lt_of_lt_of_le (h.hF b hb).1 hs, fun e => ?_⟩), h.hF, h.kw.trans hk fun b hb hl => ?_, fun b hb => ?_, fun b hb => ?_, h.fresh.1, fun e => ?_, fun e => ?_⟩
  · rcases ht b e with e | e
    · exact (h.hF b hb).2 e
    · have := (h.hF b hb).1; omega
  · rcases ht b hb with e | e
    · exact e
    · omega
  · rcases hS b hb with e | e
    · exact h.sS b e
    · exact .inr (Nat.le_trans hs e)
  · rcases hZ b hb with e | e
    · exact h.sZ b e
    · exact .inr (Nat.le_trans hs e)
  · rcases PL.T_of hS hZ e with e | e
    · exact h.fresh.2.1 e
    · have := h.nk.lt; omega
  · rcases PL.T_of hS hZ e with e | e
    · exact h.fresh.2.2 e
    · have := h.rk.lt; omega
theorem Wx.below (h : Wx B w0 w q x y F nb rb wr S Z v) (hb : Below wr.heap.size wr w') : Wx B w0 w q x y F nb rb w' S Z v :=
  h.step (h.pg.below hb) (Keep.of_below hb) (fun _ e => .inl e) (fun _ e => .inl e)
theorem Wx.cells (h : Wx B w0 w q x y F nb rb wr S Z v) : (x.pp < wr.heap.size ∧ wr.cell? ⟨x.pp, 0, none⟩ = some (.pointer (some ⟨x.lg, 0, none⟩)) ∧ wr.cell? ⟨x.pp, 1, none⟩ = some (.pointer (some ⟨x.cp, 0, none⟩)) ∧ wr.cell? ⟨x.pp, 2, none⟩ = some (.pointer (some ⟨x.gd, 0, none⟩)) ∧
    wr.cell? ⟨x.pp, 3, none⟩ = some (.int .i64 q.a) ∧ wr.cell? ⟨x.pp, 4, none⟩ = some (.int .i64 q.b) ∧ wr.cell? ⟨x.pp, 5, none⟩ = some (.int .i64 q.c) ∧ wr.cell? ⟨x.pp, 6, none⟩ = some (.int .i64 q.d) ∧ wr.cell? ⟨x.pp, 7, none⟩ = some (.int .i64 q.e) ∧ wr.cell? ⟨x.pp, 8, none⟩ = some (.int .i64 q.f) ∧ wr.cell? ⟨x.pp, 9, none⟩ = some (.int .i64 q.h)) ∧
    (nb < wr.heap.size ∧ wr.cell? ⟨nb, 0, none⟩ = some (.bool y.lf) ∧ wr.cell? ⟨nb, 1, none⟩ = some (.slice y.A y.es.length y.c) ∧ wr.cell? ⟨nb, 2, none⟩ = some (.slice y.Q y.ks.length y.m)) ∧
    (wr.cell? ⟨rb, 0, none⟩ = some (.int .u64 0) ∧ wr.cell? ⟨rb, 1, none⟩ = some (.int .i64 0) ∧ wr.cell? ⟨rb, 2, none⟩ = some (.int .i64 0) ∧ wr.cell? ⟨rb, 3, none⟩ = some (.int .i64 0) ∧ wr.frozen? ⟨rb, 0, none⟩ = false ∧ wr.frozen? ⟨rb, 1, none⟩ = false ∧ wr.frozen? ⟨rb, 2, none⟩ = false ∧ wr.frozen? ⟨rb, 3, none⟩ = false) :=
  ⟨h.pg.head, ⟨h.nk.lt, h.nk.cell 0, h.nk.cell 1, h.nk.cell 2⟩, ⟨h.rk.cell 0, h.rk.cell 1, h.rk.cell 2, h.rk.cell 3, h.rk.frozen 0, h.rk.frozen 1, h.rk.frozen 2, h.rk.frozen 3⟩⟩
/-- the answer's box is written -/
theorem four_done (w : World) (g : Nat) (a b c d : Value) : Below 0 w (copies.four w g 0 a b c d) ∧ (∀ k, k ≠ g → (copies.four w g 0 a b c d).heap[k]? = w.heap[k]?) ∧ w.heap.size = (copies.four w g 0 a b c d).heap.size := by
  refine ⟨copies.four_below (Below.refl 0 w) (Nat.zero_le _) a b c d, fun k hk => ?_, (copies.four_size w g 0 a b c d).symm⟩
  unfold copies.four
  rw [Below.heap_setCell _ _ _ _ (by simpa using hk), Below.heap_setCell _ _ _ _ (by simpa using hk), Below.heap_setCell _ _ _ _ (by simpa using hk), Below.heap_setCell _ _ _ _ (by simpa using hk)]
theorem Wx.done (h : Wx B w0 w q x y F nb rb wr S Z v) (hw : Below 0 wr w') (hh : ∀ b, b ≠ rb → w'.heap[b]? = wr.heap[b]?) (hsz : wr.heap.size = w'.heap.size) :
    Pg B w0 w' q { x with S := S, Z := Z } v ∧ Keep x.T w w' := by
  have hk : Keep (fun b => b = rb) wr w' := ⟨hw.os, hw.tape, hw.output, hw.size, fun b _ hn => hh b hn⟩
  have hge : B ≤ rb := Nat.le_trans h.le h.fresh.1.2
  exact ⟨h.pg.agree hk (fun b hb e => h.fresh.2.2 (e ▸ hb)) (fun b e => e ▸ hge), h.kw.trans hk fun b e hl => by have := h.fresh.1.2; omega⟩
end

set_option maxRecDepth 100000 in
set_option maxHeartbeats 16000000 in
theorem write_ok (B : Nat) (w0 w : World) (q : Q7) (x : PL) (v : PV) (hP : Pg B w0 w q x v) (hz : ∀ z ∈ v.zs, 0 ≤ z ∧ z < 18446744073709551616) (hk : v.k ≤ 1000000) (hl : (v.m.past.length + 1) * 32 ≤ 140737488355328) (hms : v.m.size ≤ 1048576)
    (lf : Bool) (es : List E) (ks : List K) (A : Option Addr) (c : Nat) (Q : Option Addr) (m : Nat) (F : Nat → Prop) (hy : NsF w F ⟨lf, es, ks, A, c, Q, m⟩) (hF : ∀ b, F b → b < w.heap.size ∧ ¬ x.T b) :
    Calls Try.prog 65 #[.pointer (some ⟨x.pp, 0, none⟩), .agg #[.bool lf, .slice A es.length c, .slice Q ks.length m]] w (WrPost B w0 w q x v lf es ks) := by
  obtain ⟨pp, gd, gl, p, g, lg, ab, cc, cp, cg, S0, Z0⟩ := x
  have HT := vers.lay hP.tlt
  simp only at hP ⊢
  have hdr := draw_in hz hk
  have HL := vers.lay (And.intro hl hms)
  have hle := Nat.le_trans hP.le.1 hP.le.2
  have k1 := (Blk.new w 87 #[.bool lf, .slice A es.length c, .slice Q ks.length m]).alloc (.cells #[.int .u64 0, .int .i64 0, .int .i64 0, .int .i64 0] 27)
  have k2 := Blk.new (w.alloc (.cells #[.bool lf, .slice A es.length c, .slice Q ks.length m] 87)) 27 #[.int .u64 0, .int .i64 0, .int .i64 0, .int .i64 0]
  rw [World.size_alloc] at k2
  have b1 : Below w.heap.size w ((w.alloc (.cells #[.bool lf, .slice A es.length c, .slice Q ks.length m] 87)).alloc (.cells #[.int .u64 0, .int .i64 0, .int .i64 0, .int .i64 0] 27)) := ((Below.refl _ _).alloc (Nat.le_refl _) _).alloc (by simp) _
  have HX0 := vers.lay (show Wx B w0 w q ⟨pp, gd, gl, p, g, lg, ab, cc, cp, cg, S0, Z0⟩ ⟨lf, es, ks, A, c, Q, m⟩ F w.heap.size (w.heap.size + 1) ((w.alloc (.cells #[.bool lf, .slice A es.length c, .slice Q ks.length m] 87)).alloc (.cells #[.int .u64 0, .int .i64 0, .int .i64 0, .int .i64 0] 27)) S0 Z0 v from
    ⟨hle, hP.below b1, k1, k2, hy.agree (Agree.of_below b1 fun b hb => (hF b hb).1), hF, Keep.of_below b1, fun _ e => .inl e, fun _ e => .inl e, ⟨Nat.le_refl _, by omega⟩, fun e => by have := HT.out _ e; omega, fun e => by have := HT.out _ e; omega⟩)
  clear hF hy hz hP k1 k2 b1 hl hms hle
  go_enter Try.func65, Try.ntmps65
  go_upto_region 1 with (fail)
  generalize (w.alloc (.cells #[.bool lf, .slice A es.length c, .slice Q ks.length m] 87)).alloc (.cells #[.int .u64 0, .int .i64 0, .int .i64 0, .int .i64 0] 27) = Wc at HX0 ⊢
  obtain ⟨nb, hnb⟩ : ∃ nb, w.heap.size = nb := ⟨_, rfl⟩
  obtain ⟨rb, hrb⟩ : ∃ rb, w.heap.size + 1 = rb := ⟨_, rfl⟩
  rw [hrb, hnb] at HX0
  rw [hnb] at hrb
  rw [hnb, hrb]
  have HNB := vers.lay hnb
  clear hrb hnb
  obtain ⟨⟨hpl, y0, y1, y2, y3, y4, y5, y6, y7, y8, y9⟩, ⟨hnl, n0, n1, n2⟩, ⟨r0, r1, r2, r3, f0, f1, f2, f3⟩⟩ := HX0.out.cells
  simp only at hpl y0 y1 y2 y3 y4 y5 y6 y7 y8 y9
  have hright := fun wx (hb : Below Wc.heap.size Wc wx) => rightIs q.a q.b q.c q.d q.e q.f q.h lf es ks A c Q m wx ((HX0.out.below hb).y.1.es) ((HX0.out.below hb).y.2.ks)
  rw [show ndbad q.a q.b q.c q.d q.e q.f q.h lf es ks = pgE q lf es ks from rfl] at hright
  have hS0 : Below Wc.heap.size Wc Wc.drew := (Below.refl _ _).drew
  refine mix.region_D (fun w' => Below Wc.heap.size Wc w') (fun _ => false) (by kernel_rfl) ?_
  generalize Wc.drew = Wd at *
  refine mix.D_takeT (i := 0) (v := ?_) rfl (by kernel_rfl) (by kernel_rfl) (fun _ _ _ h => h) (Or.inl ⟨by first | rfl | simp [Region.wanted, yielded], ?_⟩) hS0 ?_
  rotate_left
  · intro w' hSw
    have z3 := (hSw.cell (p := ⟨pp, 3, none⟩) hpl).trans y3
    have z4 := (hSw.cell (p := ⟨pp, 4, none⟩) hpl).trans y4
    have z5 := (hSw.cell (p := ⟨pp, 5, none⟩) hpl).trans y5
    have z6 := (hSw.cell (p := ⟨pp, 6, none⟩) hpl).trans y6
    have z7 := (hSw.cell (p := ⟨pp, 7, none⟩) hpl).trans y7
    have z8 := (hSw.cell (p := ⟨pp, 8, none⟩) hpl).trans y8
    have z9 := (hSw.cell (p := ⟨pp, 9, none⟩) hpl).trans y9
    have u0 := (hSw.cell (p := ⟨nb, 0, none⟩) hnl).trans n0
    have u1 := (hSw.cell (p := ⟨nb, 1, none⟩) hnl).trans n1
    have u2 := (hSw.cell (p := ⟨nb, 2, none⟩) hnl).trans n2
    try simp only [List.getElem_toArray, List.getElem_cons_zero, List.getElem_cons_succ]
    go_simp
    exact rfl
  try simp only [Act.put, List.setIfInBounds_toArray, List.set_cons_zero, List.set_cons_succ, List.getElem_toArray, List.getElem_cons_zero, List.getElem_cons_succ]
  refine mix.D_takeT (i := 1) (v := ?_) rfl (by kernel_rfl) (by kernel_rfl) (fun _ _ _ h => h) (Or.inl ⟨by first | rfl | simp [Region.wanted, yielded], ?_⟩) hS0 ?_
  rotate_left
  · intro w' hSw
    have z3 := (hSw.cell (p := ⟨pp, 3, none⟩) hpl).trans y3
    have z4 := (hSw.cell (p := ⟨pp, 4, none⟩) hpl).trans y4
    have z5 := (hSw.cell (p := ⟨pp, 5, none⟩) hpl).trans y5
    have z6 := (hSw.cell (p := ⟨pp, 6, none⟩) hpl).trans y6
    have z7 := (hSw.cell (p := ⟨pp, 7, none⟩) hpl).trans y7
    have z8 := (hSw.cell (p := ⟨pp, 8, none⟩) hpl).trans y8
    have z9 := (hSw.cell (p := ⟨pp, 9, none⟩) hpl).trans y9
    have u0 := (hSw.cell (p := ⟨nb, 0, none⟩) hnl).trans n0
    have u1 := (hSw.cell (p := ⟨nb, 1, none⟩) hnl).trans n1
    have u2 := (hSw.cell (p := ⟨nb, 2, none⟩) hnl).trans n2
    try simp only [List.getElem_toArray, List.getElem_cons_zero, List.getElem_cons_succ]
    go_simp
    exact rfl
  try simp only [Act.put, List.setIfInBounds_toArray, List.set_cons_zero, List.set_cons_succ, List.getElem_toArray, List.getElem_cons_zero, List.getElem_cons_succ]
  refine mix.D_takeT (i := 2) (v := ?_) rfl (by kernel_rfl) (by kernel_rfl) (fun _ _ _ h => h) (Or.inl ⟨by first | rfl | simp [Region.wanted, yielded], ?_⟩) hS0 ?_
  rotate_left
  · intro w' hSw
    have z3 := (hSw.cell (p := ⟨pp, 3, none⟩) hpl).trans y3
    have z4 := (hSw.cell (p := ⟨pp, 4, none⟩) hpl).trans y4
    have z5 := (hSw.cell (p := ⟨pp, 5, none⟩) hpl).trans y5
    have z6 := (hSw.cell (p := ⟨pp, 6, none⟩) hpl).trans y6
    have z7 := (hSw.cell (p := ⟨pp, 7, none⟩) hpl).trans y7
    have z8 := (hSw.cell (p := ⟨pp, 8, none⟩) hpl).trans y8
    have z9 := (hSw.cell (p := ⟨pp, 9, none⟩) hpl).trans y9
    have u0 := (hSw.cell (p := ⟨nb, 0, none⟩) hnl).trans n0
    have u1 := (hSw.cell (p := ⟨nb, 1, none⟩) hnl).trans n1
    have u2 := (hSw.cell (p := ⟨nb, 2, none⟩) hnl).trans n2
    try simp only [List.getElem_toArray, List.getElem_cons_zero, List.getElem_cons_succ]
    go_simp
    exact rfl
  try simp only [Act.put, List.setIfInBounds_toArray, List.set_cons_zero, List.set_cons_succ, List.getElem_toArray, List.getElem_cons_zero, List.getElem_cons_succ]
  refine mix.D_takeT (i := 3) (v := ?_) rfl (by kernel_rfl) (by kernel_rfl) (fun _ _ _ h => h) (Or.inl ⟨by first | rfl | simp [Region.wanted, yielded], ?_⟩) hS0 ?_
  rotate_left
  · intro w' hSw
    have z3 := (hSw.cell (p := ⟨pp, 3, none⟩) hpl).trans y3
    have z4 := (hSw.cell (p := ⟨pp, 4, none⟩) hpl).trans y4
    have z5 := (hSw.cell (p := ⟨pp, 5, none⟩) hpl).trans y5
    have z6 := (hSw.cell (p := ⟨pp, 6, none⟩) hpl).trans y6
    have z7 := (hSw.cell (p := ⟨pp, 7, none⟩) hpl).trans y7
    have z8 := (hSw.cell (p := ⟨pp, 8, none⟩) hpl).trans y8
    have z9 := (hSw.cell (p := ⟨pp, 9, none⟩) hpl).trans y9
    have u0 := (hSw.cell (p := ⟨nb, 0, none⟩) hnl).trans n0
    have u1 := (hSw.cell (p := ⟨nb, 1, none⟩) hnl).trans n1
    have u2 := (hSw.cell (p := ⟨nb, 2, none⟩) hnl).trans n2
    try simp only [List.getElem_toArray, List.getElem_cons_zero, List.getElem_cons_succ]
    go_simp
    exact rfl
  try simp only [Act.put, List.setIfInBounds_toArray, List.set_cons_zero, List.set_cons_succ, List.getElem_toArray, List.getElem_cons_zero, List.getElem_cons_succ]
  refine mix.D_takeT (i := 4) (v := ?_) rfl (by kernel_rfl) (by kernel_rfl) (fun _ _ _ h => h) (Or.inl ⟨by first | rfl | simp [Region.wanted, yielded], ?_⟩) hS0 ?_
  rotate_left
  · intro w' hSw
    have z3 := (hSw.cell (p := ⟨pp, 3, none⟩) hpl).trans y3
    have z4 := (hSw.cell (p := ⟨pp, 4, none⟩) hpl).trans y4
    have z5 := (hSw.cell (p := ⟨pp, 5, none⟩) hpl).trans y5
    have z6 := (hSw.cell (p := ⟨pp, 6, none⟩) hpl).trans y6
    have z7 := (hSw.cell (p := ⟨pp, 7, none⟩) hpl).trans y7
    have z8 := (hSw.cell (p := ⟨pp, 8, none⟩) hpl).trans y8
    have z9 := (hSw.cell (p := ⟨pp, 9, none⟩) hpl).trans y9
    have u0 := (hSw.cell (p := ⟨nb, 0, none⟩) hnl).trans n0
    have u1 := (hSw.cell (p := ⟨nb, 1, none⟩) hnl).trans n1
    have u2 := (hSw.cell (p := ⟨nb, 2, none⟩) hnl).trans n2
    try simp only [List.getElem_toArray, List.getElem_cons_zero, List.getElem_cons_succ]
    go_simp
    exact rfl
  try simp only [Act.put, List.setIfInBounds_toArray, List.set_cons_zero, List.set_cons_succ, List.getElem_toArray, List.getElem_cons_zero, List.getElem_cons_succ]
  refine mix.D_op (k := 5) rfl rfl (by kernel_rfl) (fun K' hK => ?_)
  simp only [List.getElem_toArray, List.getElem_cons_zero, List.getElem_cons_succ]
  go_wp2_with fail
  refine (hright Wd hS0).mono ?_
  rintro e w4 ⟨rfl, hb4⟩
  have hs4 : Below Wc.heap.size Wc w4 := hS0.trans (hb4.mono hS0.size)
  refine hK.out _ _ (fun _ => hs4) ?_
  clear hK K'
  try simp only [Act.put, List.setIfInBounds_toArray, List.set_cons_zero, List.set_cons_succ]
  refine mix.D_takeT (i := 6) (v := ?_) rfl (by kernel_rfl) (by kernel_rfl) (fun _ _ _ h => h) (Or.inl ⟨by first | rfl | simp [Region.wanted, yielded], ?_⟩) hs4 ?_
  rotate_left
  · intro w' hSw
    have z3 := (hSw.cell (p := ⟨pp, 3, none⟩) hpl).trans y3
    have z4 := (hSw.cell (p := ⟨pp, 4, none⟩) hpl).trans y4
    have z5 := (hSw.cell (p := ⟨pp, 5, none⟩) hpl).trans y5
    have z6 := (hSw.cell (p := ⟨pp, 6, none⟩) hpl).trans y6
    have z7 := (hSw.cell (p := ⟨pp, 7, none⟩) hpl).trans y7
    have z8 := (hSw.cell (p := ⟨pp, 8, none⟩) hpl).trans y8
    have z9 := (hSw.cell (p := ⟨pp, 9, none⟩) hpl).trans y9
    have u0 := (hSw.cell (p := ⟨nb, 0, none⟩) hnl).trans n0
    have u1 := (hSw.cell (p := ⟨nb, 1, none⟩) hnl).trans n1
    have u2 := (hSw.cell (p := ⟨nb, 2, none⟩) hnl).trans n2
    try simp only [List.getElem_toArray, List.getElem_cons_zero, List.getElem_cons_succ]
    go_simp
    exact rfl
  try simp only [Act.put, List.setIfInBounds_toArray, List.set_cons_zero, List.set_cons_succ, List.getElem_toArray, List.getElem_cons_zero, List.getElem_cons_succ]
  refine mix.D_done (by kernel_rfl) ?_ _
  try simp only [Act.put, List.setIfInBounds_toArray, List.set_cons_zero, List.set_cons_succ, List.getElem_toArray, List.getElem_cons_zero, List.getElem_cons_succ]
  have HX4 := vers.lay (HX0.out.below hs4)
  clear hright hs4 hS0
  clear hpl y0 y1 y2 y3 y4 y5 y6 y7 y8 y9 hnl n0 n1 n2 r0 r1 r2 r3 f0 f1 f2 f3
  by_cases he : pgE q lf es ks = 0
  · rw [he]
    obtain ⟨⟨hpl, y0, y1, y2, y3, y4, y5, y6, y7, y8, y9⟩, ⟨hnl, n0, n1, n2⟩, ⟨r0, r1, r2, r3, f0, f1, f2, f3⟩⟩ := HX4.out.cells
    simp only at hpl y0 y1 y2 y3 y4 y5 y6 y7 y8 y9
    have hnx := dice.next_ok _ _ _ _ _ _ HX4.out.pg.dice hk
    simp only at hnx
    obtain ⟨kk, hkk⟩ := Int.eq_ofNat_of_zero_le hdr.1
    have hk18 : kk < 18446744073709551616 := by omega
    rw [hkk] at hnx
    have HKK := vers.lay hkk
    go_upto_region 5 with (go_at_call 126; refine hnx.mono ?_; rintro e w5 ⟨rfl, rfl⟩)
    have hn5 := HX4.out.pg.next
    simp only at hn5
    rw [show ((v.k + 1 : Nat) : Int) = (v.k : Int) + 1 from rfl] at hn5
    have HX5 := vers.lay (HX4.out.step hn5.1 hn5.2 (fun _ e => .inl e) (fun _ e => .inl e))
    clear hn5 hnx
    generalize w4.setCell ⟨gd, 1, none⟩ (.int .i64 ((v.k : Int) + 1)) = w5 at HX5 ⊢
    clear hpl y0 y1 y2 y3 y4 y5 y6 y7 y8 y9 hnl n0 n1 n2 r0 r1 r2 r3 f0 f1 f2 f3
    obtain ⟨⟨hpl, y0, y1, y2, y3, y4, y5, y6, y7, y8, y9⟩, ⟨hnl, n0, n1, n2⟩, ⟨r0, r1, r2, r3, f0, f1, f2, f3⟩⟩ := HX5.out.cells
    simp only at hpl y0 y1 y2 y3 y4 y5 y6 y7 y8 y9
    obtain ⟨b, hb⟩ : ∃ b, b = pgB (draw v.zs v.k) lf es ks := ⟨_, rfl⟩
    have hsz := nodes.size_ok (show ndbad q.a q.b q.c q.d q.e q.f q.h lf es ks = 0 from he) (fun x hx => (HX0.out.y.2.2.2.2.2 x hx)) hdr
    have hseal := fun wx (hbx : Below w5.heap.size w5 wx) => ownSeal_any q.a q.b q.c q.d q.e q.f q.h kk lf es ks A c Q m wx ⟨by omega, by omega⟩ ((HX5.out.below hbx).y.1.es) ((HX5.out.below hbx).y.2.ks)
    rw [sealP_ok (show ndbad q.a q.b q.c q.d q.e q.f q.h lf es ks = 0 from he), show (⟨(boxes.boxT (kk : Int) (nodeT lf es ks)).enc.toArray⟩ : ByteArray) = b by rw [hb, hkk]; rfl] at hseal
    rw [show (⟨(boxes.boxT (draw v.zs v.k) (nodeT lf es ks)).enc.toArray⟩ : ByteArray) = b by rw [hb]; rfl] at hsz
    have HB := vers.lay hb
    have HSZ := vers.lay hsz
    clear hb hsz hkk
    have hS0 : Below w5.heap.size w5 w5.drew := (Below.refl _ _).drew
    refine mix.region_D (fun w' => Below w5.heap.size w5 w') (fun _ => false) (by kernel_rfl) ?_
    generalize w5.drew = Wd at *
    refine mix.D_takeT (i := 0) (v := ?_) rfl (by kernel_rfl) (by kernel_rfl) (fun _ _ _ h => h) (Or.inl ⟨by first | rfl | simp [Region.wanted, yielded], ?_⟩) hS0 ?_
    rotate_left
    · intro w' hSw
      have z3 := (hSw.cell (p := ⟨pp, 3, none⟩) hpl).trans y3
      have z4 := (hSw.cell (p := ⟨pp, 4, none⟩) hpl).trans y4
      have z5 := (hSw.cell (p := ⟨pp, 5, none⟩) hpl).trans y5
      have z6 := (hSw.cell (p := ⟨pp, 6, none⟩) hpl).trans y6
      have z7 := (hSw.cell (p := ⟨pp, 7, none⟩) hpl).trans y7
      have z8 := (hSw.cell (p := ⟨pp, 8, none⟩) hpl).trans y8
      have z9 := (hSw.cell (p := ⟨pp, 9, none⟩) hpl).trans y9
      have u0 := (hSw.cell (p := ⟨nb, 0, none⟩) hnl).trans n0
      have u1 := (hSw.cell (p := ⟨nb, 1, none⟩) hnl).trans n1
      have u2 := (hSw.cell (p := ⟨nb, 2, none⟩) hnl).trans n2
      try simp only [List.getElem_toArray, List.getElem_cons_zero, List.getElem_cons_succ]
      go_simp
      exact rfl
    try simp only [Act.put, List.setIfInBounds_toArray, List.set_cons_zero, List.set_cons_succ, List.getElem_toArray, List.getElem_cons_zero, List.getElem_cons_succ]
    refine mix.D_takeT (i := 1) (v := ?_) rfl (by kernel_rfl) (by kernel_rfl) (fun _ _ _ h => h) (Or.inl ⟨by first | rfl | simp [Region.wanted, yielded], ?_⟩) hS0 ?_
    rotate_left
    · intro w' hSw
      have z3 := (hSw.cell (p := ⟨pp, 3, none⟩) hpl).trans y3
      have z4 := (hSw.cell (p := ⟨pp, 4, none⟩) hpl).trans y4
      have z5 := (hSw.cell (p := ⟨pp, 5, none⟩) hpl).trans y5
      have z6 := (hSw.cell (p := ⟨pp, 6, none⟩) hpl).trans y6
      have z7 := (hSw.cell (p := ⟨pp, 7, none⟩) hpl).trans y7
      have z8 := (hSw.cell (p := ⟨pp, 8, none⟩) hpl).trans y8
      have z9 := (hSw.cell (p := ⟨pp, 9, none⟩) hpl).trans y9
      have u0 := (hSw.cell (p := ⟨nb, 0, none⟩) hnl).trans n0
      have u1 := (hSw.cell (p := ⟨nb, 1, none⟩) hnl).trans n1
      have u2 := (hSw.cell (p := ⟨nb, 2, none⟩) hnl).trans n2
      try simp only [List.getElem_toArray, List.getElem_cons_zero, List.getElem_cons_succ]
      go_simp
      exact rfl
    try simp only [Act.put, List.setIfInBounds_toArray, List.set_cons_zero, List.set_cons_succ, List.getElem_toArray, List.getElem_cons_zero, List.getElem_cons_succ]
    refine mix.D_takeT (i := 2) (v := ?_) rfl (by kernel_rfl) (by kernel_rfl) (fun _ _ _ h => h) (Or.inl ⟨by first | rfl | simp [Region.wanted, yielded], ?_⟩) hS0 ?_
    rotate_left
    · intro w' hSw
      have z3 := (hSw.cell (p := ⟨pp, 3, none⟩) hpl).trans y3
      have z4 := (hSw.cell (p := ⟨pp, 4, none⟩) hpl).trans y4
      have z5 := (hSw.cell (p := ⟨pp, 5, none⟩) hpl).trans y5
      have z6 := (hSw.cell (p := ⟨pp, 6, none⟩) hpl).trans y6
      have z7 := (hSw.cell (p := ⟨pp, 7, none⟩) hpl).trans y7
      have z8 := (hSw.cell (p := ⟨pp, 8, none⟩) hpl).trans y8
      have z9 := (hSw.cell (p := ⟨pp, 9, none⟩) hpl).trans y9
      have u0 := (hSw.cell (p := ⟨nb, 0, none⟩) hnl).trans n0
      have u1 := (hSw.cell (p := ⟨nb, 1, none⟩) hnl).trans n1
      have u2 := (hSw.cell (p := ⟨nb, 2, none⟩) hnl).trans n2
      try simp only [List.getElem_toArray, List.getElem_cons_zero, List.getElem_cons_succ]
      go_simp
      exact rfl
    try simp only [Act.put, List.setIfInBounds_toArray, List.set_cons_zero, List.set_cons_succ, List.getElem_toArray, List.getElem_cons_zero, List.getElem_cons_succ]
    refine mix.D_takeT (i := 3) (v := ?_) rfl (by kernel_rfl) (by kernel_rfl) (fun _ _ _ h => h) (Or.inl ⟨by first | rfl | simp [Region.wanted, yielded], ?_⟩) hS0 ?_
    rotate_left
    · intro w' hSw
      have z3 := (hSw.cell (p := ⟨pp, 3, none⟩) hpl).trans y3
      have z4 := (hSw.cell (p := ⟨pp, 4, none⟩) hpl).trans y4
      have z5 := (hSw.cell (p := ⟨pp, 5, none⟩) hpl).trans y5
      have z6 := (hSw.cell (p := ⟨pp, 6, none⟩) hpl).trans y6
      have z7 := (hSw.cell (p := ⟨pp, 7, none⟩) hpl).trans y7
      have z8 := (hSw.cell (p := ⟨pp, 8, none⟩) hpl).trans y8
      have z9 := (hSw.cell (p := ⟨pp, 9, none⟩) hpl).trans y9
      have u0 := (hSw.cell (p := ⟨nb, 0, none⟩) hnl).trans n0
      have u1 := (hSw.cell (p := ⟨nb, 1, none⟩) hnl).trans n1
      have u2 := (hSw.cell (p := ⟨nb, 2, none⟩) hnl).trans n2
      try simp only [List.getElem_toArray, List.getElem_cons_zero, List.getElem_cons_succ]
      go_simp
      exact rfl
    try simp only [Act.put, List.setIfInBounds_toArray, List.set_cons_zero, List.set_cons_succ, List.getElem_toArray, List.getElem_cons_zero, List.getElem_cons_succ]
    refine mix.D_takeT (i := 4) (v := ?_) rfl (by kernel_rfl) (by kernel_rfl) (fun _ _ _ h => h) (Or.inl ⟨by first | rfl | simp [Region.wanted, yielded], ?_⟩) hS0 ?_
    rotate_left
    · intro w' hSw
      have z3 := (hSw.cell (p := ⟨pp, 3, none⟩) hpl).trans y3
      have z4 := (hSw.cell (p := ⟨pp, 4, none⟩) hpl).trans y4
      have z5 := (hSw.cell (p := ⟨pp, 5, none⟩) hpl).trans y5
      have z6 := (hSw.cell (p := ⟨pp, 6, none⟩) hpl).trans y6
      have z7 := (hSw.cell (p := ⟨pp, 7, none⟩) hpl).trans y7
      have z8 := (hSw.cell (p := ⟨pp, 8, none⟩) hpl).trans y8
      have z9 := (hSw.cell (p := ⟨pp, 9, none⟩) hpl).trans y9
      have u0 := (hSw.cell (p := ⟨nb, 0, none⟩) hnl).trans n0
      have u1 := (hSw.cell (p := ⟨nb, 1, none⟩) hnl).trans n1
      have u2 := (hSw.cell (p := ⟨nb, 2, none⟩) hnl).trans n2
      try simp only [List.getElem_toArray, List.getElem_cons_zero, List.getElem_cons_succ]
      go_simp
      exact rfl
    try simp only [Act.put, List.setIfInBounds_toArray, List.set_cons_zero, List.set_cons_succ, List.getElem_toArray, List.getElem_cons_zero, List.getElem_cons_succ]
    refine mix.D_takeT (i := 5) (v := ?_) rfl (by kernel_rfl) (by kernel_rfl) (fun _ _ _ h => h) (Or.inl ⟨by first | rfl | simp [Region.wanted, yielded], ?_⟩) hS0 ?_
    rotate_left
    · intro w' hSw
      have z3 := (hSw.cell (p := ⟨pp, 3, none⟩) hpl).trans y3
      have z4 := (hSw.cell (p := ⟨pp, 4, none⟩) hpl).trans y4
      have z5 := (hSw.cell (p := ⟨pp, 5, none⟩) hpl).trans y5
      have z6 := (hSw.cell (p := ⟨pp, 6, none⟩) hpl).trans y6
      have z7 := (hSw.cell (p := ⟨pp, 7, none⟩) hpl).trans y7
      have z8 := (hSw.cell (p := ⟨pp, 8, none⟩) hpl).trans y8
      have z9 := (hSw.cell (p := ⟨pp, 9, none⟩) hpl).trans y9
      have u0 := (hSw.cell (p := ⟨nb, 0, none⟩) hnl).trans n0
      have u1 := (hSw.cell (p := ⟨nb, 1, none⟩) hnl).trans n1
      have u2 := (hSw.cell (p := ⟨nb, 2, none⟩) hnl).trans n2
      try simp only [List.getElem_toArray, List.getElem_cons_zero, List.getElem_cons_succ]
      go_simp
      exact rfl
    try simp only [Act.put, List.setIfInBounds_toArray, List.set_cons_zero, List.set_cons_succ, List.getElem_toArray, List.getElem_cons_zero, List.getElem_cons_succ]
    refine mix.D_op (k := 6) rfl rfl (by kernel_rfl) (fun K' hK => ?_)
    simp only [List.getElem_toArray, List.getElem_cons_zero, List.getElem_cons_succ]
    go_wp2_with fail
    refine (hseal Wd hS0).mono ?_
    rintro e w6 ⟨rfl, hb4⟩
    have hs4 : Below w5.heap.size w5 w6 := hS0.trans (hb4.mono hS0.size)
    refine hK.out _ _ (fun _ => hs4) ?_
    clear hK K'
    try simp only [Act.put, List.setIfInBounds_toArray, List.set_cons_zero, List.set_cons_succ]
    refine mix.D_takeT (i := 7) (v := ?_) rfl (by kernel_rfl) (by kernel_rfl) (fun _ _ _ h => h) (Or.inl ⟨by first | rfl | simp [Region.wanted, yielded], ?_⟩) hs4 ?_
    rotate_left
    · intro w' hSw
      have z3 := (hSw.cell (p := ⟨pp, 3, none⟩) hpl).trans y3
      have z4 := (hSw.cell (p := ⟨pp, 4, none⟩) hpl).trans y4
      have z5 := (hSw.cell (p := ⟨pp, 5, none⟩) hpl).trans y5
      have z6 := (hSw.cell (p := ⟨pp, 6, none⟩) hpl).trans y6
      have z7 := (hSw.cell (p := ⟨pp, 7, none⟩) hpl).trans y7
      have z8 := (hSw.cell (p := ⟨pp, 8, none⟩) hpl).trans y8
      have z9 := (hSw.cell (p := ⟨pp, 9, none⟩) hpl).trans y9
      have u0 := (hSw.cell (p := ⟨nb, 0, none⟩) hnl).trans n0
      have u1 := (hSw.cell (p := ⟨nb, 1, none⟩) hnl).trans n1
      have u2 := (hSw.cell (p := ⟨nb, 2, none⟩) hnl).trans n2
      try simp only [List.getElem_toArray, List.getElem_cons_zero, List.getElem_cons_succ]
      go_simp
      exact rfl
    try simp only [Act.put, List.setIfInBounds_toArray, List.set_cons_zero, List.set_cons_succ, List.getElem_toArray, List.getElem_cons_zero, List.getElem_cons_succ]
    refine mix.D_takeT (i := 8) (v := ?_) rfl (by kernel_rfl) (by kernel_rfl) (fun _ _ _ h => h) (Or.inl ⟨by first | rfl | simp [Region.wanted, yielded], ?_⟩) hs4 ?_
    rotate_left
    · intro w' hSw
      have z3 := (hSw.cell (p := ⟨pp, 3, none⟩) hpl).trans y3
      have z4 := (hSw.cell (p := ⟨pp, 4, none⟩) hpl).trans y4
      have z5 := (hSw.cell (p := ⟨pp, 5, none⟩) hpl).trans y5
      have z6 := (hSw.cell (p := ⟨pp, 6, none⟩) hpl).trans y6
      have z7 := (hSw.cell (p := ⟨pp, 7, none⟩) hpl).trans y7
      have z8 := (hSw.cell (p := ⟨pp, 8, none⟩) hpl).trans y8
      have z9 := (hSw.cell (p := ⟨pp, 9, none⟩) hpl).trans y9
      have u0 := (hSw.cell (p := ⟨nb, 0, none⟩) hnl).trans n0
      have u1 := (hSw.cell (p := ⟨nb, 1, none⟩) hnl).trans n1
      have u2 := (hSw.cell (p := ⟨nb, 2, none⟩) hnl).trans n2
      try simp only [List.getElem_toArray, List.getElem_cons_zero, List.getElem_cons_succ]
      go_simp
      exact rfl
    try simp only [Act.put, List.setIfInBounds_toArray, List.set_cons_zero, List.set_cons_succ, List.getElem_toArray, List.getElem_cons_zero, List.getElem_cons_succ]
    refine mix.D_takeT (i := 9) (v := ?_) rfl (by kernel_rfl) (by kernel_rfl) (fun _ _ _ h => h) (Or.inl ⟨by first | rfl | simp [Region.wanted, yielded], ?_⟩) hs4 ?_
    rotate_left
    · intro w' hSw
      have z3 := (hSw.cell (p := ⟨pp, 3, none⟩) hpl).trans y3
      have z4 := (hSw.cell (p := ⟨pp, 4, none⟩) hpl).trans y4
      have z5 := (hSw.cell (p := ⟨pp, 5, none⟩) hpl).trans y5
      have z6 := (hSw.cell (p := ⟨pp, 6, none⟩) hpl).trans y6
      have z7 := (hSw.cell (p := ⟨pp, 7, none⟩) hpl).trans y7
      have z8 := (hSw.cell (p := ⟨pp, 8, none⟩) hpl).trans y8
      have z9 := (hSw.cell (p := ⟨pp, 9, none⟩) hpl).trans y9
      have u0 := (hSw.cell (p := ⟨nb, 0, none⟩) hnl).trans n0
      have u1 := (hSw.cell (p := ⟨nb, 1, none⟩) hnl).trans n1
      have u2 := (hSw.cell (p := ⟨nb, 2, none⟩) hnl).trans n2
      try simp only [List.getElem_toArray, List.getElem_cons_zero, List.getElem_cons_succ]
      go_simp
      exact rfl
    try simp only [Act.put, List.setIfInBounds_toArray, List.set_cons_zero, List.set_cons_succ, List.getElem_toArray, List.getElem_cons_zero, List.getElem_cons_succ]
    refine mix.D_takeT (i := 10) (v := ?_) rfl (by kernel_rfl) (by kernel_rfl) (fun _ _ _ h => h) (Or.inl ⟨by first | rfl | simp [Region.wanted, yielded], ?_⟩) hs4 ?_
    rotate_left
    · intro w' hSw
      have z3 := (hSw.cell (p := ⟨pp, 3, none⟩) hpl).trans y3
      have z4 := (hSw.cell (p := ⟨pp, 4, none⟩) hpl).trans y4
      have z5 := (hSw.cell (p := ⟨pp, 5, none⟩) hpl).trans y5
      have z6 := (hSw.cell (p := ⟨pp, 6, none⟩) hpl).trans y6
      have z7 := (hSw.cell (p := ⟨pp, 7, none⟩) hpl).trans y7
      have z8 := (hSw.cell (p := ⟨pp, 8, none⟩) hpl).trans y8
      have z9 := (hSw.cell (p := ⟨pp, 9, none⟩) hpl).trans y9
      have u0 := (hSw.cell (p := ⟨nb, 0, none⟩) hnl).trans n0
      have u1 := (hSw.cell (p := ⟨nb, 1, none⟩) hnl).trans n1
      have u2 := (hSw.cell (p := ⟨nb, 2, none⟩) hnl).trans n2
      try simp only [List.getElem_toArray, List.getElem_cons_zero, List.getElem_cons_succ]
      go_simp
      exact rfl
    try simp only [Act.put, List.setIfInBounds_toArray, List.set_cons_zero, List.set_cons_succ, List.getElem_toArray, List.getElem_cons_zero, List.getElem_cons_succ]
    refine mix.D_takeT (i := 11) (v := ?_) rfl (by kernel_rfl) (by kernel_rfl) (fun _ _ _ h => h) (Or.inl ⟨by first | rfl | simp [Region.wanted, yielded], ?_⟩) hs4 ?_
    rotate_left
    · intro w' hSw
      have z3 := (hSw.cell (p := ⟨pp, 3, none⟩) hpl).trans y3
      have z4 := (hSw.cell (p := ⟨pp, 4, none⟩) hpl).trans y4
      have z5 := (hSw.cell (p := ⟨pp, 5, none⟩) hpl).trans y5
      have z6 := (hSw.cell (p := ⟨pp, 6, none⟩) hpl).trans y6
      have z7 := (hSw.cell (p := ⟨pp, 7, none⟩) hpl).trans y7
      have z8 := (hSw.cell (p := ⟨pp, 8, none⟩) hpl).trans y8
      have z9 := (hSw.cell (p := ⟨pp, 9, none⟩) hpl).trans y9
      have u0 := (hSw.cell (p := ⟨nb, 0, none⟩) hnl).trans n0
      have u1 := (hSw.cell (p := ⟨nb, 1, none⟩) hnl).trans n1
      have u2 := (hSw.cell (p := ⟨nb, 2, none⟩) hnl).trans n2
      try simp only [List.getElem_toArray, List.getElem_cons_zero, List.getElem_cons_succ]
      go_simp
      exact rfl
    try simp only [Act.put, List.setIfInBounds_toArray, List.set_cons_zero, List.set_cons_succ, List.getElem_toArray, List.getElem_cons_zero, List.getElem_cons_succ]
    refine mix.D_done (by kernel_rfl) ?_ _
    try simp only [Act.put, List.setIfInBounds_toArray, List.set_cons_zero, List.set_cons_succ, List.getElem_toArray, List.getElem_cons_zero, List.getElem_cons_succ]
    have HX6 := vers.lay (HX5.out.below hs4)
    clear hseal hs4 hS0
    clear hpl y0 y1 y2 y3 y4 y5 y6 y7 y8 y9 hnl n0 n1 n2 r0 r1 r2 r3 f0 f1 f2 f3
    obtain ⟨⟨hpl, y0, y1, y2, y3, y4, y5, y6, y7, y8, y9⟩, ⟨hnl, n0, n1, n2⟩, ⟨r0, r1, r2, r3, f0, f1, f2, f3⟩⟩ := HX6.out.cells
    simp only at hpl y0 y1 y2 y3 y4 y5 y6 y7 y8 y9
    have hap := append_any HX6.out.pg.sg b (by have := HSZ.out.2.2; unfold maxLen at this; omega) HL.out.1
    simp only at hap
    obtain ⟨⟨ta, tb, tc⟩, ht⟩ : ∃ t, apV v.m v.s v.L b = t := ⟨_, rfl⟩
    obtain ⟨n7, hn7⟩ : ∃ n, apE v.m v.s v.L b = n := ⟨_, rfl⟩
    have HTT := vers.lay ht
    have HN7 := vers.lay hn7
    clear ht hn7
    go_upto_region 7 with (go_at_call 87; refine hap.mono ?_; intro e w7 hp7; obtain ⟨he7, S7, hP7, hK7, hS7⟩ := HX6.out.pg.append hp7; obtain rfl : e = .returned (.tuple #[.agg #[.int .i64 ta, .int .i64 tb, .int .i64 tc], .int .i64 n7]) := he7.trans (by simp only; rw [HTT.out, HN7.out]))
    have HX7 := vers.lay (show Wx B w0 w q ⟨pp, gd, gl, p, g, lg, ab, cc, cp, cg, S0, Z0⟩ ⟨lf, es, ks, A, c, Q, m⟩ F nb rb w7 S7 Z0 (v.app b) from HX6.out.step hP7 hK7 hS7 (fun _ e => .inl e))
    clear hap hp7 he7 hP7 hK7 hS7
    have bP : Below w7.heap.size w7 (w7.alloc (.cells #[.int .i64 ta, .int .i64 tb, .int .i64 tc] 189)) := (Below.refl _ _).alloc (Nat.le_refl _) _
    have kP := Blk.new w7 189 #[.int .i64 ta, .int .i64 tb, .int .i64 tc]
    have HX8 := vers.lay (HX7.out.below bP)
    generalize w7.alloc (.cells #[.int .i64 ta, .int .i64 tb, .int .i64 tc] 189) = w8 at bP kP HX8 ⊢
    obtain ⟨plb, hplb⟩ : ∃ plb, w7.heap.size = plb := ⟨_, rfl⟩
    rw [hplb] at kP ⊢
    clear hplb bP
    obtain ⟨p0, p1, p2⟩ : w8.cell? ⟨plb, 0, none⟩ = _ ∧ w8.cell? ⟨plb, 1, none⟩ = _ ∧ w8.cell? ⟨plb, 2, none⟩ = _ := ⟨kP.cell 0, kP.cell 1, kP.cell 2⟩
    simp only [List.getElem?_toArray, List.getElem?_cons_zero, List.getElem?_cons_succ] at p0 p1 p2
    clear hpl y0 y1 y2 y3 y4 y5 y6 y7 y8 y9 hnl n0 n1 n2 r0 r1 r2 r3 f0 f1 f2 f3
    obtain ⟨⟨hpl, y0, y1, y2, y3, y4, y5, y6, y7, y8, y9⟩, ⟨hnl, n0, n1, n2⟩, ⟨r0, r1, r2, r3, f0, f1, f2, f3⟩⟩ := HX8.out.cells
    simp only at hpl y0 y1 y2 y3 y4 y5 y6 y7 y8 y9
    by_cases h7 : n7 = 0
    · subst h7
      obtain ⟨jj, oo, hv, hj, ho, hs1, hs2⟩ := apV_fits HX6.out.pg.sg.log.ok HL.out.2 HN7.out
      simp only at hv hj
      rw [HTT.out] at hv
      have hok := HX6.out.pg.sg.log.ok.len
      simp only at hok
      have hfit : R.fits ⟨kk, ta, tb, tc⟩ := by
        injection hv with h1 h2 h3
        have hm := HL.out.2
        unfold R.fits i64
        simp only
        omega
      have HFIT := vers.lay hfit
      clear hv hj ho hs1 hs2 hok hfit
      go_upto_region 10 with (fail)
      have bF : Below w8.heap.size w8 (w8.alloc (.cells #[.int .u64 (kk : Int), .int .i64 ta, .int .i64 tb, .int .i64 tc] 27)) := (Below.refl _ _).alloc (Nat.le_refl _) _
      have kF := Blk.new w8 27 #[.int .u64 (kk : Int), .int .i64 ta, .int .i64 tb, .int .i64 tc]
      have HX9 := vers.lay (HX8.out.below bF)
      generalize w8.alloc (.cells #[.int .u64 (kk : Int), .int .i64 ta, .int .i64 tb, .int .i64 tc] 27) = W8 at bF kF HX9 ⊢
      obtain ⟨fb, hfb⟩ : ∃ fb, w8.heap.size = fb := ⟨_, rfl⟩
      have HFB := vers.lay (show ¬ Z0 fb from fun e => by have := HX8.out.pg.tlt fb (.inr (.inr (.inr e))); omega)
      rw [hfb] at kF ⊢
      have HKF := vers.lay kF
      obtain ⟨m0, m1, m2, m3⟩ : W8.cell? ⟨fb, 0, none⟩ = _ ∧ W8.cell? ⟨fb, 1, none⟩ = _ ∧ W8.cell? ⟨fb, 2, none⟩ = _ ∧ W8.cell? ⟨fb, 3, none⟩ = _ := ⟨kF.cell 0, kF.cell 1, kF.cell 2, kF.cell 3⟩
      simp only [List.getElem?_toArray, List.getElem?_cons_zero, List.getElem?_cons_succ] at m0 m1 m2 m3
      have hfl := kF.lt
      clear p0 p1 p2 kP hfb bF kF
      clear hpl y0 y1 y2 y3 y4 y5 y6 y7 y8 y9 hnl n0 n1 n2 r0 r1 r2 r3 f0 f1 f2 f3
      obtain ⟨⟨hpl, y0, y1, y2, y3, y4, y5, y6, y7, y8, y9⟩, ⟨hnl, n0, n1, n2⟩, ⟨r0, r1, r2, r3, f0, f1, f2, f3⟩⟩ := HX9.out.cells
      simp only at hpl y0 y1 y2 y3 y4 y5 y6 y7 y8 y9
      have hput := fun wx (hbx : Below W8.heap.size W8 wx) => put_ok (HX9.out.below hbx).pg.ca kk ta tb tc HFIT.out lf es ks A c Q m F (HX9.out.below hbx).y (fun b hb => ⟨Nat.lt_of_lt_of_le (HX9.out.hF b hb).1 (HX9.out.below hbx).kw.size, fun e => by
        rcases HX9.out.sZ b e with e | e
        · exact (HX9.out.hF b hb).2 (.inr (.inr (.inr e)))
        · have := (HX9.out.hF b hb).1; omega⟩)
      simp only at hput
      have hS0 : Below W8.heap.size W8 W8.drew := (Below.refl _ _).drew
      refine mix.region_D (fun w' => Below W8.heap.size W8 w') (fun j => j == 6) (by kernel_rfl) ?_
      generalize W8.drew = Wd at *
      refine mix.D_takeT (i := 0) (v := ?_) rfl (by kernel_rfl) (by kernel_rfl) (fun _ _ _ h => h) (Or.inl ⟨by first | rfl | simp [Region.wanted, yielded], ?_⟩) hS0 ?_
      rotate_left
      · intro w' hSw
        have z1 := (hSw.cell (p := ⟨pp, 1, none⟩) hpl).trans y1
        have u0 := (hSw.cell (p := ⟨nb, 0, none⟩) hnl).trans n0
        have u1 := (hSw.cell (p := ⟨nb, 1, none⟩) hnl).trans n1
        have u2 := (hSw.cell (p := ⟨nb, 2, none⟩) hnl).trans n2
        have f0 := (hSw.cell (p := ⟨fb, 0, none⟩) hfl).trans m0
        have f1 := (hSw.cell (p := ⟨fb, 1, none⟩) hfl).trans m1
        have f2 := (hSw.cell (p := ⟨fb, 2, none⟩) hfl).trans m2
        have f3 := (hSw.cell (p := ⟨fb, 3, none⟩) hfl).trans m3
        try simp only [List.getElem_toArray, List.getElem_cons_zero, List.getElem_cons_succ]
        go_simp
        exact rfl
      try simp only [Act.put, List.setIfInBounds_toArray, List.set_cons_zero, List.set_cons_succ, List.getElem_toArray, List.getElem_cons_zero, List.getElem_cons_succ]
      refine mix.D_takeT (i := 1) (v := ?_) rfl (by kernel_rfl) (by kernel_rfl) (fun _ _ _ h => h) (Or.inl ⟨by first | rfl | simp [Region.wanted, yielded], ?_⟩) hS0 ?_
      rotate_left
      · intro w' hSw
        have z1 := (hSw.cell (p := ⟨pp, 1, none⟩) hpl).trans y1
        have u0 := (hSw.cell (p := ⟨nb, 0, none⟩) hnl).trans n0
        have u1 := (hSw.cell (p := ⟨nb, 1, none⟩) hnl).trans n1
        have u2 := (hSw.cell (p := ⟨nb, 2, none⟩) hnl).trans n2
        have f0 := (hSw.cell (p := ⟨fb, 0, none⟩) hfl).trans m0
        have f1 := (hSw.cell (p := ⟨fb, 1, none⟩) hfl).trans m1
        have f2 := (hSw.cell (p := ⟨fb, 2, none⟩) hfl).trans m2
        have f3 := (hSw.cell (p := ⟨fb, 3, none⟩) hfl).trans m3
        try simp only [List.getElem_toArray, List.getElem_cons_zero, List.getElem_cons_succ]
        go_simp
        exact rfl
      try simp only [Act.put, List.setIfInBounds_toArray, List.set_cons_zero, List.set_cons_succ, List.getElem_toArray, List.getElem_cons_zero, List.getElem_cons_succ]
      refine mix.D_takeT (i := 2) (v := ?_) rfl (by kernel_rfl) (by kernel_rfl) (fun _ _ _ h => h) (Or.inl ⟨by first | rfl | simp [Region.wanted, yielded], ?_⟩) hS0 ?_
      rotate_left
      · intro w' hSw
        have z1 := (hSw.cell (p := ⟨pp, 1, none⟩) hpl).trans y1
        have u0 := (hSw.cell (p := ⟨nb, 0, none⟩) hnl).trans n0
        have u1 := (hSw.cell (p := ⟨nb, 1, none⟩) hnl).trans n1
        have u2 := (hSw.cell (p := ⟨nb, 2, none⟩) hnl).trans n2
        have f0 := (hSw.cell (p := ⟨fb, 0, none⟩) hfl).trans m0
        have f1 := (hSw.cell (p := ⟨fb, 1, none⟩) hfl).trans m1
        have f2 := (hSw.cell (p := ⟨fb, 2, none⟩) hfl).trans m2
        have f3 := (hSw.cell (p := ⟨fb, 3, none⟩) hfl).trans m3
        try simp only [List.getElem_toArray, List.getElem_cons_zero, List.getElem_cons_succ]
        go_simp
        exact rfl
      try simp only [Act.put, List.setIfInBounds_toArray, List.set_cons_zero, List.set_cons_succ, List.getElem_toArray, List.getElem_cons_zero, List.getElem_cons_succ]
      refine mix.D_takeT (i := 3) (v := ?_) rfl (by kernel_rfl) (by kernel_rfl) (fun _ _ _ h => h) (Or.inl ⟨by first | rfl | simp [Region.wanted, yielded], ?_⟩) hS0 ?_
      rotate_left
      · intro w' hSw
        have z1 := (hSw.cell (p := ⟨pp, 1, none⟩) hpl).trans y1
        have u0 := (hSw.cell (p := ⟨nb, 0, none⟩) hnl).trans n0
        have u1 := (hSw.cell (p := ⟨nb, 1, none⟩) hnl).trans n1
        have u2 := (hSw.cell (p := ⟨nb, 2, none⟩) hnl).trans n2
        have f0 := (hSw.cell (p := ⟨fb, 0, none⟩) hfl).trans m0
        have f1 := (hSw.cell (p := ⟨fb, 1, none⟩) hfl).trans m1
        have f2 := (hSw.cell (p := ⟨fb, 2, none⟩) hfl).trans m2
        have f3 := (hSw.cell (p := ⟨fb, 3, none⟩) hfl).trans m3
        try simp only [List.getElem_toArray, List.getElem_cons_zero, List.getElem_cons_succ]
        go_simp
        exact rfl
      try simp only [Act.put, List.setIfInBounds_toArray, List.set_cons_zero, List.set_cons_succ, List.getElem_toArray, List.getElem_cons_zero, List.getElem_cons_succ]
      refine mix.D_takeT (i := 4) (v := ?_) rfl (by kernel_rfl) (by kernel_rfl) (fun _ _ _ h => h) (Or.inl ⟨by first | rfl | simp [Region.wanted, yielded], ?_⟩) hS0 ?_
      rotate_left
      · intro w' hSw
        have z1 := (hSw.cell (p := ⟨pp, 1, none⟩) hpl).trans y1
        have u0 := (hSw.cell (p := ⟨nb, 0, none⟩) hnl).trans n0
        have u1 := (hSw.cell (p := ⟨nb, 1, none⟩) hnl).trans n1
        have u2 := (hSw.cell (p := ⟨nb, 2, none⟩) hnl).trans n2
        have f0 := (hSw.cell (p := ⟨fb, 0, none⟩) hfl).trans m0
        have f1 := (hSw.cell (p := ⟨fb, 1, none⟩) hfl).trans m1
        have f2 := (hSw.cell (p := ⟨fb, 2, none⟩) hfl).trans m2
        have f3 := (hSw.cell (p := ⟨fb, 3, none⟩) hfl).trans m3
        try simp only [List.getElem_toArray, List.getElem_cons_zero, List.getElem_cons_succ]
        go_simp
        exact rfl
      try simp only [Act.put, List.setIfInBounds_toArray, List.set_cons_zero, List.set_cons_succ, List.getElem_toArray, List.getElem_cons_zero, List.getElem_cons_succ]
      refine mix.D_takeT (i := 5) (v := ?_) rfl (by kernel_rfl) (by kernel_rfl) (fun _ _ _ h => h) (Or.inl ⟨by first | rfl | simp [Region.wanted, yielded], ?_⟩) hS0 ?_
      rotate_left
      · intro w' hSw
        have z1 := (hSw.cell (p := ⟨pp, 1, none⟩) hpl).trans y1
        have u0 := (hSw.cell (p := ⟨nb, 0, none⟩) hnl).trans n0
        have u1 := (hSw.cell (p := ⟨nb, 1, none⟩) hnl).trans n1
        have u2 := (hSw.cell (p := ⟨nb, 2, none⟩) hnl).trans n2
        have f0 := (hSw.cell (p := ⟨fb, 0, none⟩) hfl).trans m0
        have f1 := (hSw.cell (p := ⟨fb, 1, none⟩) hfl).trans m1
        have f2 := (hSw.cell (p := ⟨fb, 2, none⟩) hfl).trans m2
        have f3 := (hSw.cell (p := ⟨fb, 3, none⟩) hfl).trans m3
        try simp only [List.getElem_toArray, List.getElem_cons_zero, List.getElem_cons_succ]
        go_simp
        exact rfl
      try simp only [Act.put, List.setIfInBounds_toArray, List.set_cons_zero, List.set_cons_succ, List.getElem_toArray, List.getElem_cons_zero, List.getElem_cons_succ]
      refine mix.D_op (k := 6) rfl rfl (by kernel_rfl) (fun K' hK => ?_)
      simp only [List.getElem_toArray, List.getElem_cons_zero, List.getElem_cons_succ]
      go_wp2_with fail
      refine (hput Wd hS0).mono ?_
      rintro e w9 ⟨E9, l9, Z9, rfl, hE9, hc9, hk9, hz9⟩
      refine hK.out _ _ (fun h => by simp at h) ?_
      clear hK K'
      try simp only [Act.put, List.setIfInBounds_toArray, List.set_cons_zero, List.set_cons_succ]
      refine mix.D_done (by kernel_rfl) ?_ _
      try simp only [Act.put, List.setIfInBounds_toArray, List.set_cons_zero, List.set_cons_succ, List.getElem_toArray, List.getElem_cons_zero, List.getElem_cons_succ]
      have HXd := HX9.out.below hS0
      have hcc := HXd.pg.cache hc9 hk9 (fun b hb => (hz9 b hb).imp id And.left)
      have HX10 := vers.lay (show Wx B w0 w q ⟨pp, gd, gl, p, g, lg, ab, cc, cp, cg, S0, Z0⟩ ⟨lf, es, ks, A, c, Q, m⟩ F nb rb w9 S7 Z9 { v.app b with l := l9 } from HXd.step hcc.1 hcc.2 (fun _ e => .inl e) (fun b hb => (hz9 b hb).imp id And.left))
      have kF9 := hk9.blk (HKF.out.below hS0 hfl) HFB.out
      have hE := vers.lay hE9
      clear HXd hcc hc9 hk9 hz9 hE9 hput hS0 m0 m1 m2 m3
      obtain ⟨m0, m1, m2, m3⟩ : w9.cell? ⟨fb, 0, none⟩ = _ ∧ w9.cell? ⟨fb, 1, none⟩ = _ ∧ w9.cell? ⟨fb, 2, none⟩ = _ ∧ w9.cell? ⟨fb, 3, none⟩ = _ := ⟨kF9.cell 0, kF9.cell 1, kF9.cell 2, kF9.cell 3⟩
      simp only [List.getElem?_toArray, List.getElem?_cons_zero, List.getElem?_cons_succ] at m0 m1 m2 m3
      clear kF9
      clear hpl y0 y1 y2 y3 y4 y5 y6 y7 y8 y9 hnl n0 n1 n2 r0 r1 r2 r3 f0 f1 f2 f3
      obtain ⟨⟨hpl, y0, y1, y2, y3, y4, y5, y6, y7, y8, y9⟩, ⟨hnl, n0, n1, n2⟩, ⟨r0, r1, r2, r3, f0, f1, f2, f3⟩⟩ := HX10.out.cells
      simp only at hpl y0 y1 y2 y3 y4 y5 y6 y7 y8 y9
      go_wp2_with fail
      obtain ⟨pd, kd⟩ := HX10.out.done (four_done w9 rb (.int .u64 (kk : Int)) (.int .i64 ta) (.int .i64 tb) (.int .i64 tc)).1 (four_done _ _ _ _ _ _).2.1 (four_done _ _ _ _ _ _).2.2
      refine bodyPost_ret (v := .tuple #[.agg #[.int .u64 (kk : Int), .int .i64 ta, .int .i64 tb, .int .i64 tc], .int .i64 0]) (by simp [results, Try.results65, go_sem, r0, r1, r2, r3]) rfl ⟨0, ⟨kk, ta, tb, tc⟩, S7, Z9, _, rfl, pd, kd, HX10.out.sS, HX10.out.sZ, .inr ⟨he, b, HB.out, HN7.out.symm, .inr ⟨rfl, HKK.out.symm, HTT.out, l9, congrArg Prod.snd hE.out, rfl⟩⟩⟩
    · have e1 : (n7 == 0) = false := by simp [h7]
      have e2 : decide (n7 = 0) = false := decide_eq_false h7
      go_wp2_with fail
      obtain ⟨pd, kd⟩ := HX8.out.done (four_done w8 rb (.int .u64 0) (.int .i64 0) (.int .i64 0) (.int .i64 0)).1 (four_done _ _ _ _ _ _).2.1 (four_done _ _ _ _ _ _).2.2
      refine bodyPost_ret (v := .tuple #[.agg #[.int .u64 0, .int .i64 0, .int .i64 0, .int .i64 0], .int .i64 n7]) (by simp [results, Try.results65, go_sem, r0, r1, r2, r3]) rfl ⟨n7, zR, S7, Z0, _, rfl, pd, kd, HX8.out.sS, HX8.out.sZ, .inr ⟨he, b, HB.out, HN7.out.symm, .inl ⟨h7, rfl, rfl⟩⟩⟩
  · have HE := vers.lay he
    obtain ⟨n, hn⟩ : ∃ n, pgE q lf es ks = n := ⟨_, rfl⟩
    rw [hn] at he ⊢
    have e1 : (n == 0) = false := by simp [he]
    have e2 : decide (n = 0) = false := decide_eq_false he
    obtain ⟨⟨hpl, y0, y1, y2, y3, y4, y5, y6, y7, y8, y9⟩, ⟨hnl, n0, n1, n2⟩, ⟨r0, r1, r2, r3, f0, f1, f2, f3⟩⟩ := HX4.out.cells
    simp only at hpl y0 y1 y2 y3 y4 y5 y6 y7 y8 y9
    go_wp2_with fail
    obtain ⟨pd, kd⟩ := HX4.out.done (four_done w4 rb (.int .u64 0) (.int .i64 0) (.int .i64 0) (.int .i64 0)).1 (four_done _ _ _ _ _ _).2.1 (four_done _ _ _ _ _ _).2.2
    refine bodyPost_ret (v := .tuple #[.agg #[.int .u64 0, .int .i64 0, .int .i64 0, .int .i64 0], .int .i64 n]) (by simp [results, Try.results65, go_sem, r0, r1, r2, r3]) rfl ⟨n, zR, S0, Z0, v, rfl, pd, kd, fun _ e => .inl e, fun _ e => .inl e, .inl ⟨by rw [hn]; exact he, hn.symm, rfl, rfl⟩⟩

end Go.Proofs.Ytoenkkbcpafanaa.pags
