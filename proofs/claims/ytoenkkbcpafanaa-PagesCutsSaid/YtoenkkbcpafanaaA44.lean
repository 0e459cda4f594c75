/- PagesCuts: what holds between two writes. -/
import Derived.Test.YtoenkkbcpafanaaA41
import Derived.Test.YtoenkkbcpafanaaA43
import Derived.Test.YtoenkkbcpafanaaA03
import Derived.Lib.SmallJoins
import Derived.SizedLaws
import Derived.ProofKit
import Derived.OpenShut
import Derived.Test.YtoenkkbcpafanaaA04


namespace Go.Proofs.Ytoenkkbcpafanaa.pags
set_option linter.unusedVariables false
set_option linter.unusedSimpArgs false
open Go.RowKit Go.Proofs.Ytoenkkbcpafanaa.base Go.Proofs.Ytoenkkbcpafanaa.vers Go.Proofs.Ytoenkkbcpafanaa.nodes Go.Proofs.Ytoenkkbcpafanaa.trees Go.Proofs.Ytoenkkbcpafanaa.powers Go.Proofs.Ytoenkkbcpafanaa.mediums Go.Proofs.Ytoenkkbcpafanaa.segs Go.Proofs.Ytoenkkbcpafanaa.caches Go.Proofs.Ytoenkkbcpafanaa.dice Go.Lib
section
variable {B : Nat} {w0 w w' : World} {q : Q7} {x : PL} {v v' : PV}
/-- a cut -/
theorem Pg.cut (h : Pg B w0 w q x v) {L' : Int} (hb : Blk w' x.p 219 (PC L' v.W)) (hI : In L') (hs : St (powers.one x.p) w w') : Pg B w0 w' q x { v with L := L' } ∧ Keep x.T w w' := by
  have hk : Keep (fun b => b = x.p) w w' := ⟨hs.os, hs.tape, hs.output, hs.size, fun b hl hn => hs.block b hl hn⟩
  have hg : x.G x.p := .inr (.inl rfl)
  obtain ⟨sb, vs, vp, hM⟩ := h.sg.md
  refine ⟨⟨hk.blk h.blk (fun e => h.a1.2.1 (e ▸ hg)), h.dice.keep (hk.block _ h.dice.self.lt (fun e => (h.a2 _ (.inl rfl)).1 (e ▸ hg))) (hk.block _ h.dice.list.lt (fun e => (h.a2 _ (.inr rfl)).1 (e ▸ hg))), ⟨⟨sb, vs, vp, hM.agree (fun k hk1 => hk.block k (hM.lt k hk1) (fun e => hM.notp (e ▸ hk1))) hk.size⟩, hb, hI, ?_, h.sg.far, h.sg.lo, h.sg.hb.trans (hk.below (B := B) (fun b e => e ▸ h.sg.lo x.p (.inr (.inl rfl))) (by have := h.le; omega)), h.sg.le, h.sg.len⟩, h.ca.keep hk (fun b hb1 e => h.a3 x.p hg (e ▸ hb1)), h.ppB, h.zB, h.a1, h.a2, h.a3⟩, hk.mono fun b e _ => .inr (.inr (.inl (e ▸ hg)))⟩
  have hl := h.sg.log.lt
  exact h.sg.log.agree (hk.block _ hl.1 h.sg.far.1.2) (hk.block _ hl.2 h.sg.far.2.2)
end
/-- what is pure of it: n writes may be done, t were tried -/
structure CP (ps n t : Nat) (zs : List Int) (v : PV) : Prop where
  zs : v.zs = zs
  k : v.k = t
  L : v.L = (n : Int) - (min t n : Nat)
  past : v.m.past.length = min t n
  inv : InvM v.m v.s
  size : v.m.size = 4 * ps
  room : RoomP ps 11 (min t n) v.s
theorem CP.next {ps n t : Nat} {zs : List Int} {v v' : PV} {q : Q7} {lf : Bool} {es : List E} {ks : List K} {e : Int} {r : R} (h : CP ps n t zs v) (ht : t ≤ 20) (hps : (ps : Int) = quotas.pg q.b q.c q.d q.e) (hok : OkL v.s) (hz : ∀ z ∈ zs, 0 ≤ z ∧ z < 18446744073709551616) (hfit : ∀ x ∈ ks, x.fits) (hw : WrP q v lf es ks e r v') :
    (pgE q lf es ks ≠ 0 ∧ e = pgE q lf es ks ∧ CP ps n t zs v') ∨ (pgE q lf es ks = 0 ∧ t < n ∧ e = 0 ∧ (r.k : Int) = draw zs t ∧ CP ps n (t + 1) zs v') ∨ (pgE q lf es ks = 0 ∧ n ≤ t ∧ e = 110 ∧ r = zR ∧ CP ps n (t + 1) zs v') := by
  rcases hw with ⟨h1, h2, _, h4⟩ | ⟨h1, b, hb, he, hr⟩
  · subst h4
    exact .inl ⟨h1, h2, h⟩
  · have hsz := nodes.size_ok (show ndbad q.a q.b q.c q.d q.e q.f q.h lf es ks = 0 from h1) hfit (draw_in (zs := v.zs) (by rw [h.zs]; exact hz) (k := v.k) (by rw [h.k]; omega))
    rw [show (⟨(boxes.boxT (draw v.zs v.k) (nodeT lf es ks)).enc.toArray⟩ : ByteArray) = b from hb.symm] at hsz
    have hbs : 1 ≤ b.size ∧ b.size ≤ ps := by omega
    have hmin : min t n + 3 < 4 * 11 := by omega
    have hE := room_cases h.room hok h.size hmin b.size hbs
    by_cases htn : t < n
    · have hL : v.L ≠ 0 := by rw [h.L]; omega
      obtain ⟨a1, a2, a3, a4, a5⟩ := ap_go hok h.inv b v.L hE hL
      obtain ⟨j, oo, A⟩ := ap_inv hok h.inv b hE
      rcases hr with ⟨n1, _⟩ | ⟨n1, n2, n3, l', _, n5⟩
      · exact absurd (he.trans a1) n1
      · refine .inr (.inl ⟨h1, htn, n1, by rw [n2, h.zs, h.k], ?_⟩)
        subst n5
        refine ⟨h.zs, by show v.k + 1 = t + 1; rw [h.k], ?_, ?_, ?_, ?_, ?_⟩
        · show apL v.m v.s v.L b = _
          rw [a5, h.L]
          unfold spL
          rw [if_neg (by omega)]
          omega
        · show (apM v.m v.s v.L b).past.length = _
          rw [a3, A.M, A.past, h.past]
          omega
        · show InvM (apM v.m v.s v.L b) (apS v.m v.s v.L b)
          rw [a3, a4, A.M, A.S]
          exact A.inv
        · show (apM v.m v.s v.L b).size = _
          rw [a3, A.M]
          exact h.size
        · show RoomP ps 11 (min (t + 1) n) (apS v.m v.s v.L b)
          rw [a4, show min (t + 1) n = min t n + 1 by omega]
          exact room_step h.room hok h.inv h.size hmin b hbs
    · have hL : v.L = 0 := by rw [h.L]; omega
      obtain ⟨a1, a3, a4, a5⟩ := ap_off hok h.inv b hE
      rcases hr with ⟨n1, n2, n3⟩ | ⟨n1, _⟩
      · refine .inr (.inr ⟨h1, by omega, by rw [he, hL, a1], n2, ?_⟩)
        subst n3
        refine ⟨h.zs, by show v.k + 1 = t + 1; rw [h.k], ?_, ?_, ?_, ?_, ?_⟩
        · show apL v.m v.s v.L b = _
          rw [hL, a5]
          omega
        · show (apM v.m v.s v.L b).past.length = _
          rw [hL, a3, h.past]
          omega
        · show InvM (apM v.m v.s v.L b) (apS v.m v.s v.L b)
          rw [hL, a3, a4]
          exact h.inv
        · show (apM v.m v.s v.L b).size = _
          rw [hL, a3]
          exact h.size
        · show RoomP ps 11 (min (t + 1) n) (apS v.m v.s v.L b)
          rw [hL, a4, show min (t + 1) n = min t n by omega]
          exact h.room
      · rw [n1, hL, a1] at he
        exact absurd he (by decide)
theorem CP.start (ps n : Nat) (zs : List Int) (room : Nat) (hn : (n : Int) ≤ 30) : CP ps n 0 zs ⟨zs, 0, newM 12 (4 * ps), newL 12, (n : Int), 0, room, 0, 0, []⟩ := by
  have hf : fc (newL 12) = 11 := by decide
  refine ⟨rfl, rfl, ?_, ?_, inv_new 12 _ (by omega), rfl, ?_⟩
  · show (n : Int) = _
    omega
  · show ([] : List RW).length = _
    simp
  · have := RoomP.start ps (newL 12)
    rw [hf] at this
    rw [show min 0 n = 0 by omega]
    exact this
/-- where PagesCuts stands -/
structure CI (w wr : World) (q : Q7) (qb : Nat) (x : PL) (ps n t : Nat) (zs : List Int) (S Z : Nat → Prop) (v : PV) : Prop where
  pg : Pg w.heap.size w wr q { x with S := S, Z := Z } v
  qk : Blk wr qb 113 #[.int .i64 q.a, .int .i64 q.b, .int .i64 q.c, .int .i64 q.d, .int .i64 q.e, .int .i64 q.f, .int .i64 q.h]
  qT : ¬ PL.T { x with S := S, Z := Z } qb
  cp : CP ps n t zs v
section
variable {w wr w' : World} {q : Q7} {qb : Nat} {x : PL} {ps n t t' : Nat} {zs : List Int} {S Z S' Z' : Nat → Prop} {v v' : PV}
theorem CI.below (h : CI w wr q qb x ps n t zs S Z v) (hb : Below wr.heap.size wr w') : CI w w' q qb x ps n t zs S Z v := ⟨h.pg.below hb, h.qk.below hb h.qk.lt, h.qT, h.cp⟩
theorem CI.step (h : CI w wr q qb x ps n t zs S Z v) (hp : Pg w.heap.size w w' q { x with S := S', Z := Z' } v') (hk : Keep (PL.T { x with S := S, Z := Z }) wr w') (hS : ∀ b, S' b → S b ∨ wr.heap.size ≤ b) (hZ : ∀ b, Z' b → Z b ∨ wr.heap.size ≤ b) (hc : CP ps n t' zs v') : CI w w' q qb x ps n t' zs S' Z' v' :=
  ⟨hp, hk.blk h.qk h.qT, fun e => by
    rcases PL.T_of hS hZ e with e | e
    · exact h.qT e
    · have := h.qk.lt; omega, hc⟩
theorem CI.cells (h : CI w wr q qb x ps n t zs S Z v) : (qb < wr.heap.size ∧ wr.cell? ⟨qb, 0, none⟩ = some (.int .i64 q.a) ∧ wr.cell? ⟨qb, 1, none⟩ = some (.int .i64 q.b) ∧ wr.cell? ⟨qb, 2, none⟩ = some (.int .i64 q.c) ∧ wr.cell? ⟨qb, 3, none⟩ = some (.int .i64 q.d) ∧ wr.cell? ⟨qb, 4, none⟩ = some (.int .i64 q.e) ∧ wr.cell? ⟨qb, 5, none⟩ = some (.int .i64 q.f) ∧ wr.cell? ⟨qb, 6, none⟩ = some (.int .i64 q.h)) :=
  ⟨h.qk.lt, h.qk.cell 0, h.qk.cell 1, h.qk.cell 2, h.qk.cell 3, h.qk.cell 4, h.qk.cell 5, h.qk.cell 6⟩
end
end Go.Proofs.Ytoenkkbcpafanaa.pags

/- Arguments opened: a secret, a list of versions. -/

namespace Go.Proofs.Ytoenkkbcpafanaa.vers
set_option linter.unusedVariables false
set_option linter.unusedSimpArgs false
open Go.RowKit Go.ChangeShapes Go.WideShapes Go.Proofs.Ytoenkkbcpafanaa.base

theorem bytes40 : Try.prog.bytesOf 180 = 40 := by kernel_rfl
theorem cells3 : Try.prog.cellsOf 180 = 3 := by kernel_rfl
theorem cells2 : Try.prog.cellsOf 47 = 2 := by kernel_rfl

theorem all_mem {l : List Nat} (h : l.all (· ≤ reachBytes) = true) {n : Nat} (hn : n ∈ l) : n ≤ reachBytes := by
  simpa using List.all_eq_true.1 h n hn

/-- a list out of its elements -/
theorem gather (W : World) (a : Addr) (len : Nat) (h : ∀ i, i < len → ∃ x : V, x.fits ∧ ∀ r u, x.cells[r]? = some u → W.cell? (a.add (i * 3 + r)) = some u) :
    ∃ l : List V, l.length = len ∧ (∀ x ∈ l, x.fits) ∧ ∀ j u, (cellsV l)[j]? = some u → W.cell? (a.add j) = some u := by
  induction len with
  | zero => exact ⟨[], rfl, (fun x hx => by cases hx), fun j u h => by simp [cellsV] at h⟩
  | succ n ih =>
    obtain ⟨l, hl, hf, hc⟩ := ih (fun i hi => h i (by omega))
    obtain ⟨x, hx, hcs⟩ := h n (by omega)
    have hxl := cellsV_len l
    refine ⟨l ++ [x], by simp [hl], fun y hy => ?_, fun j u hj => ?_⟩
    · rcases List.mem_append.1 hy with e | e
      · exact hf y e
      · rw [List.mem_singleton.1 e]; exact hx
    · rw [cellsV_app] at hj
      rcases Nat.lt_or_ge j (cellsV l).length with hlt | hge
      · rw [List.getElem?_append_left hlt] at hj
        exact hc j u hj
      · rw [List.getElem?_append_right hge, show cellsV [x] = x.cells by simp [cellsV]] at hj
        have := hcs (j - (cellsV l).length) u hj
        rwa [show n * 3 + (j - (cellsV l).length) = j by omega] at this

section
variable {H : Type} {enc : TypeId × Value → H} {W : World}

set_option maxRecDepth 100000 in
theorem open_version {m : Nat} {cs : List Value} {x : DataW H × List MemPlace} (h : DataW.trod enc Try.prog W 0 (fun _ => true) true m 180 cs = some x) : ∃ y : V, cs = y.cells ∧ y.fits := by
  obtain ⟨ys, n, hn, hx, hlen, hyl, hf⟩ := DataW.trod_struct Try.underlying180 h
  rw [cells3] at hlen
  match cs, hlen, ys, hyl with
  | [c0, c1, c2], _, [y0, y1, y2], _ =>
    have k3 : Try.prog.cellsOf 3 = 1 := by kernel_rfl
    have k9 : Try.prog.cellsOf 9 = 1 := by kernel_rfl
    have f0 : DataW.trod enc Try.prog W 0 (fun _ => true) true n 3 (List.take (Try.prog.cellsOf 3) (List.drop 0 [c0, c1, c2])) = some y0 := hf 0 _ rfl
    have f1 : DataW.trod enc Try.prog W 0 (fun _ => true) true n 9 (List.take (Try.prog.cellsOf 9) (List.drop 1 [c0, c1, c2])) = some y1 := hf 1 _ rfl
    have f2 : DataW.trod enc Try.prog W 0 (fun _ => true) true n 9 (List.take (Try.prog.cellsOf 9) (List.drop 2 [c0, c1, c2])) = some y2 := hf 2 _ rfl
    rw [k3] at f0
    rw [k9] at f1 f2
    obtain ⟨k, e0, _, w0⟩ := DataW.trod_int Try.underlying3 f0
    obtain ⟨s, e1, _, w1⟩ := DataW.trod_string Try.underlying9 f1
    obtain ⟨t, e2, _, w2⟩ := DataW.trod_string Try.underlying9 f2
    simp at e0 e1 e2
    subst e0 e1 e2
    simp [Lit.wf, IntKind.has] at w0
    have h1 : IntKind.i64.min = -9223372036854775808 := rfl
    have h2 : IntKind.i64.max = 9223372036854775807 := rfl
    exact ⟨⟨k, s, t⟩, rfl, ⟨by show _ ≤ k; omega, by show k ≤ _; omega⟩, w1, w2⟩

set_option maxRecDepth 100000 in
theorem open_vs {m : Nat} {cs : List Value} {x : DataW H × List MemPlace} (h : DataW.trod enc Try.prog W 0 (fun _ => true) true m 45 cs = some x) (hw : (x.1.weights Try.prog 45).all (· ≤ reachBytes) = true) :
    ∃ (l : List V) (A : Option Addr) (c : Nat), cs = [.slice A l.length c] ∧ Vs W W.heap.size l A c := by
  rcases DataW.trod_slice Try.underlying45 h with ⟨rfl, _⟩ | ⟨a, len, cap, elems, rest, n, hn, rfl, rfl, _, hlc, hcm, hlen, hel, hsp, _⟩
  · exact ⟨[], none, 0, rfl, Nat.le_refl _, by simp, (fun _ => rfl), Rd.nil _ _ _, fun x hx => by cases hx⟩
  · have hrest := (hsp rfl).1
    have hcap : cap * 40 ≤ reachBytes := by
      refine all_mem hw ?_
      simp only [DataW.weights, Try.underlying45, bytes40, List.length_map]
      rw [show elems.length + rest.length = cap by omega]
      exact List.mem_cons_self
    have hr47 : reachBytes ≤ 140737488355328 := by decide
    obtain ⟨l, hl, hf, hc⟩ := gather W a len (fun i hi => by
      have h1 := hel i hi
      rw [cells3] at h1
      have hie : elems[i]? = some elems[i] := List.getElem?_eq_getElem (by omega)
      rw [hie] at h1
      obtain ⟨cs', hcs, htr⟩ := Option.bind_eq_some_iff.1 h1
      obtain ⟨_, hcl, hat⟩ := World.cells?_some hcs
      obtain ⟨y, rfl, hy⟩ := open_version htr
      refine ⟨y, hy, fun r u hr => ?_⟩
      have hr3 : r < 3 := by have := (List.getElem?_eq_some_iff.1 hr).1; simpa [V.cells] using this
      have := hat r hr3
      rw [Go.Deep.add_add] at this
      rw [this, hr])
    subst hl
    refine ⟨l, some a, cap, rfl, hlc, by omega, (fun e => by cases e), fun j u hj => ?_, hf⟩
    have hpos : 0 < (cellsV l).length := by have := (List.getElem?_eq_some_iff.1 hj).1; omega
    have h0 := hc 0 (cellsV l)[0] (List.getElem?_eq_getElem hpos)
    rw [show a.add 0 = a by simp [Addr.add]] at h0
    obtain ⟨b, off, rfl⟩ := plain_of_cell h0
    refine ⟨b, off, rfl, World.block_lt_of_cell? W _ h0, ?_⟩
    have := hc j u hj
    rwa [base.add_plain] at this

set_option maxRecDepth 100000 in
theorem open_ecells {m : Nat} {cs : List Value} {x : DataW H × List MemPlace} (h : DataW.trod enc Try.prog W 0 (fun _ => true) true m 47 cs = some x) (hw : (x.1.weights Try.prog 47).all (· ≤ reachBytes) = true) :
    ∃ (s : ByteArray) (l : List V) (A : Option Addr) (c : Nat), cs = [.string s, .slice A l.length c] ∧ Vs W W.heap.size l A c ∧ s.size ≤ maxLen := by
  obtain ⟨ys, n, hn, hx, hlen, hyl, hf⟩ := DataW.trod_struct Try.underlying47 h
  rw [cells2] at hlen
  match cs, hlen, ys, hyl with
  | [c0, c1], _, [y0, y1], _ =>
    have k9 : Try.prog.cellsOf 9 = 1 := by kernel_rfl
    have k24 : Try.prog.cellsOf 45 = 1 := by kernel_rfl
    have f0 : DataW.trod enc Try.prog W 0 (fun _ => true) true n 9 (List.take (Try.prog.cellsOf 9) (List.drop 0 [c0, c1])) = some y0 := hf 0 _ rfl
    have f1 : DataW.trod enc Try.prog W 0 (fun _ => true) true n 45 (List.take (Try.prog.cellsOf 45) (List.drop 1 [c0, c1])) = some y1 := hf 1 _ rfl
    rw [k9] at f0
    rw [k24] at f1
    obtain ⟨s, e0, _, w0⟩ := DataW.trod_string Try.underlying9 f0
    obtain ⟨l, A, c, e1, hV⟩ := open_vs f1 (by
      rw [List.all_eq_true]
      intro n hn
      have : n ∈ x.1.weights Try.prog 47 := by
        rw [hx]
        simp only [DataW.weights, Try.underlying47, DataW.weightsEach, List.map_cons, List.mem_append]
        exact .inr (.inl hn)
      simpa using all_mem hw this)
    simp at e0 e1
    subst e0 e1
    exact ⟨s, l, A, c, rfl, hV, w0⟩

set_option maxRecDepth 100000 in
/-- a secret that came in -/
theorem open_entry {r : Reach} {b0 : Nat} {v : Value} {d : DataW H} {p : List MemPlace} (hv : Value.okWide Try.prog W r b0 47 v) (h : DataW.Trod enc Try.prog W 0 (fun _ => true) true 47 v d p)
    (hw : (d.weights Try.prog 47).all (· ≤ reachBytes) = true) : ∃ (s : ByteArray) (l : List V) (A : Option Addr) (c : Nat), v = .agg #[.string s, .slice A l.length c] ∧ Vs W W.heap.size l A c ∧ s.size ≤ maxLen := by
  obtain ⟨cs, rfl, hsz⟩ := okWide_struct Try.underlying47 hv
  obtain ⟨m, hm⟩ := h
  obtain ⟨s, l, A, c, hcs, hV, hs⟩ := open_ecells hm hw
  refine ⟨s, l, A, c, ?_, hV, hs⟩
  have : cs.toList = [.string s, .slice A l.length c] := by simpa [Value.cells] using hcs
  rw [← Array.toArray_toList (xs := cs), this]
end
end Go.Proofs.Ytoenkkbcpafanaa.vers

/- Arguments opened: a node, a reference. -/

namespace Go.Proofs.Ytoenkkbcpafanaa.nodes
set_option linter.unusedVariables false
set_option linter.unusedSimpArgs false
open Go.RowKit Go.ChangeShapes Go.WideShapes Go.Proofs.Ytoenkkbcpafanaa.base Go.Proofs.Ytoenkkbcpafanaa.vers

theorem cells5 : Try.prog.cellsOf 162 = 5 := by kernel_rfl
theorem cells4r : Try.prog.cellsOf 27 = 4 := by kernel_rfl
theorem cells3n : Try.prog.cellsOf 87 = 3 := by kernel_rfl
theorem bytesE : Try.prog.bytesOf 47 = 40 := by kernel_rfl
theorem bytesK : Try.prog.bytesOf 162 = 48 := by kernel_rfl

theorem weightsAll_mem {H : Type} {P : Program} {e : TypeId} : ∀ {ds : List (DataW H)} {d : DataW H}, d ∈ ds → ∀ n ∈ d.weights P e, n ∈ DataW.weightsAll P e ds
  | d0 :: ds, d, hd, n, hn => by
    simp only [DataW.weightsAll, List.mem_append]
    rcases List.mem_cons.1 hd with rfl | h
    · exact .inl hn
    · exact .inr (weightsAll_mem h n hn)
/-- a list out of its elements -/
theorem gatherE (W : World) (a : Addr) (len : Nat) (h : ∀ i, i < len → ∃ x : E, (Vs W W.heap.size x.l x.A x.c ∧ x.s.size ≤ maxLen) ∧ ∀ r u, x.cells[r]? = some u → W.cell? (a.add (i * 2 + r)) = some u) :
    ∃ l : List E, l.length = len ∧ (∀ x ∈ l, Vs W W.heap.size x.l x.A x.c ∧ x.s.size ≤ maxLen) ∧ ∀ j u, (cellsE l)[j]? = some u → W.cell? (a.add j) = some u := by
  induction len with
  | zero => exact ⟨[], rfl, (fun x hx => by cases hx), fun j u h => by simp [cellsE] at h⟩
  | succ n ih =>
    obtain ⟨l, hl, hf, hc⟩ := ih (fun i hi => h i (by omega))
    obtain ⟨x, hx, hcs⟩ := h n (by omega)
    have hxl := cellsE_len l
    refine ⟨l ++ [x], by simp [hl], fun y hy => ?_, fun j u hj => ?_⟩
    · rcases List.mem_append.1 hy with e | e
      · exact hf y e
      · rw [List.mem_singleton.1 e]; exact hx
    · rw [cellsE_app] at hj
      rcases Nat.lt_or_ge j (cellsE l).length with hlt | hge
      · rw [List.getElem?_append_left hlt] at hj
        exact hc j u hj
      · rw [List.getElem?_append_right hge, show cellsE [x] = x.cells by simp [cellsE]] at hj
        have := hcs (j - (cellsE l).length) u hj
        rwa [show n * 2 + (j - (cellsE l).length) = j by omega] at this
theorem gatherK (W : World) (a : Addr) (len : Nat) (h : ∀ i, i < len → ∃ x : K, x.fits ∧ ∀ r u, x.cells[r]? = some u → W.cell? (a.add (i * 5 + r)) = some u) :
    ∃ l : List K, l.length = len ∧ (∀ x ∈ l, x.fits) ∧ ∀ j u, (cellsK l)[j]? = some u → W.cell? (a.add j) = some u := by
  induction len with
  | zero => exact ⟨[], rfl, (fun x hx => by cases hx), fun j u h => by simp [cellsK] at h⟩
  | succ n ih =>
    obtain ⟨l, hl, hf, hc⟩ := ih (fun i hi => h i (by omega))
    obtain ⟨x, hx, hcs⟩ := h n (by omega)
    have hxl := cellsK_len l
    refine ⟨l ++ [x], by simp [hl], fun y hy => ?_, fun j u hj => ?_⟩
    · rcases List.mem_append.1 hy with e | e
      · exact hf y e
      · rw [List.mem_singleton.1 e]; exact hx
    · rw [cellsK_app] at hj
      rcases Nat.lt_or_ge j (cellsK l).length with hlt | hge
      · rw [List.getElem?_append_left hlt] at hj
        exact hc j u hj
      · rw [List.getElem?_append_right hge, show cellsK [x] = x.cells by simp [cellsK]] at hj
        have := hcs (j - (cellsK l).length) u hj
        rwa [show n * 5 + (j - (cellsK l).length) = j by omega] at this

section
variable {H : Type} {enc : TypeId × Value → H} {W : World}

set_option maxRecDepth 100000 in
theorem open_rcells {m : Nat} {cs : List Value} {x : DataW H × List MemPlace} (h : DataW.trod enc Try.prog W 0 (fun _ => true) true m 27 cs = some x) : ∃ (k : Nat) (g o n : Int), cs = [.int .u64 (k : Int), .int .i64 g, .int .i64 o, .int .i64 n] ∧ k < 18446744073709551616 ∧ i64 g ∧ i64 o ∧ i64 n := by
  obtain ⟨ys, n, hn, hx, hlen, hyl, hf⟩ := DataW.trod_struct Try.underlying27 h
  rw [cells4r] at hlen
  match cs, hlen, ys, hyl with
  | [c0, c1, c2, c3], _, [y0, y1, y2, y3], _ =>
    have k3 : Try.prog.cellsOf 3 = 1 := by kernel_rfl
    have k22 : Try.prog.cellsOf 25 = 1 := by kernel_rfl
    have f0 : DataW.trod enc Try.prog W 0 (fun _ => true) true n 25 (List.take (Try.prog.cellsOf 25) (List.drop 0 [c0, c1, c2, c3])) = some y0 := hf 0 _ rfl
    have f1 : DataW.trod enc Try.prog W 0 (fun _ => true) true n 3 (List.take (Try.prog.cellsOf 3) (List.drop 1 [c0, c1, c2, c3])) = some y1 := hf 1 _ rfl
    have f2 : DataW.trod enc Try.prog W 0 (fun _ => true) true n 3 (List.take (Try.prog.cellsOf 3) (List.drop 2 [c0, c1, c2, c3])) = some y2 := hf 2 _ rfl
    have f3 : DataW.trod enc Try.prog W 0 (fun _ => true) true n 3 (List.take (Try.prog.cellsOf 3) (List.drop 3 [c0, c1, c2, c3])) = some y3 := hf 3 _ rfl
    rw [k22] at f0
    rw [k3] at f1 f2 f3
    obtain ⟨k, e0, _, w0⟩ := DataW.trod_int Try.underlying25 f0
    obtain ⟨g, e1, _, w1⟩ := DataW.trod_int Try.underlying3 f1
    obtain ⟨o, e2, _, w2⟩ := DataW.trod_int Try.underlying3 f2
    obtain ⟨q, e3, _, w3⟩ := DataW.trod_int Try.underlying3 f3
    simp at e0 e1 e2 e3
    subst e0 e1 e2 e3
    simp [Lit.wf, IntKind.has] at w0 w1 w2 w3
    have h1 : IntKind.i64.min = -9223372036854775808 := rfl
    have h2 : IntKind.i64.max = 9223372036854775807 := rfl
    have h3 : IntKind.u64.min = 0 := rfl
    have h4 : IntKind.u64.max = 18446744073709551615 := rfl
    obtain ⟨k', rfl⟩ := Int.eq_ofNat_of_zero_le (show 0 ≤ k by omega)
    exact ⟨k', g, o, q, rfl, by omega, by unfold i64; omega, by unfold i64; omega, by unfold i64; omega⟩

set_option maxRecDepth 100000 in
theorem open_kcells {m : Nat} {cs : List Value} {x : DataW H × List MemPlace} (h : DataW.trod enc Try.prog W 0 (fun _ => true) true m 162 cs = some x) : ∃ y : K, cs = y.cells ∧ y.fits := by
  obtain ⟨ys, n, hn, hx, hlen, hyl, hf⟩ := DataW.trod_struct Try.underlying162 h
  rw [cells5] at hlen
  match cs, hlen, ys, hyl with
  | [c0, c1, c2, c3, c4], _, [y0, y1], _ =>
    have k9 : Try.prog.cellsOf 9 = 1 := by kernel_rfl
    have f0 : DataW.trod enc Try.prog W 0 (fun _ => true) true n 9 (List.take (Try.prog.cellsOf 9) (List.drop 0 [c0, c1, c2, c3, c4])) = some y0 := hf 0 _ rfl
    have f1 : DataW.trod enc Try.prog W 0 (fun _ => true) true n 27 (List.take (Try.prog.cellsOf 27) (List.drop 1 [c0, c1, c2, c3, c4])) = some y1 := hf 1 _ rfl
    rw [k9] at f0
    rw [cells4r] at f1
    obtain ⟨s, e0, _, w0⟩ := DataW.trod_string Try.underlying9 f0
    obtain ⟨k, g, o, q, e1, hk, hg, ho, hq⟩ := open_rcells f1
    simp at e0 e1
    obtain ⟨r1, r2, r3, r4⟩ := e1
    subst e0 r1 r2 r3 r4
    exact ⟨⟨s, k, g, o, q⟩, rfl, w0, hk, hg, ho, hq⟩

theorem rd_of {W : World} {a : Addr} {xs : List Value} (h : ∀ j u, xs[j]? = some u → W.cell? (a.add j) = some u) : Rd W W.heap.size (some a) xs := fun j u hj => by
  have hpos : 0 < xs.length := by have := (List.getElem?_eq_some_iff.1 hj).1; omega
  have h0 := h 0 xs[0] (List.getElem?_eq_getElem hpos)
  rw [show a.add 0 = a by simp [Addr.add]] at h0
  obtain ⟨b, off, rfl⟩ := plain_of_cell h0
  refine ⟨b, off, rfl, World.block_lt_of_cell? W _ h0, ?_⟩
  have := h j u hj
  rwa [base.add_plain] at this

set_option maxRecDepth 100000 in
theorem open_ks {m : Nat} {cs : List Value} {x : DataW H × List MemPlace} (h : DataW.trod enc Try.prog W 0 (fun _ => true) true m 85 cs = some x) (hw : (x.1.weights Try.prog 85).all (· ≤ reachBytes) = true) :
    ∃ (l : List K) (A : Option Addr) (c : Nat), cs = [.slice A l.length c] ∧ Ks W W.heap.size l A c := by
  rcases DataW.trod_slice Try.underlying85 h with ⟨rfl, _⟩ | ⟨a, len, cap, elems, rest, n, hn, rfl, rfl, _, hlc, hcm, hlen, hel, hsp, _⟩
  · exact ⟨[], none, 0, rfl, Nat.le_refl _, by simp, (fun _ => rfl), Rd.nil _ _ _, fun x hx => by cases hx⟩
  · have hrest := (hsp rfl).1
    have hcap : cap * 48 ≤ reachBytes := by
      refine all_mem hw ?_
      simp only [DataW.weights, Try.underlying85, bytesK, List.length_map]
      rw [show elems.length + rest.length = cap by omega]
      exact List.mem_cons_self
    have hr47 : reachBytes ≤ 140737488355328 := by decide
    obtain ⟨l, hl, hf, hc⟩ := gatherK W a len (fun i hi => by
      have h1 := hel i hi
      rw [cells5] at h1
      have hie : elems[i]? = some elems[i] := List.getElem?_eq_getElem (by omega)
      rw [hie] at h1
      obtain ⟨cs', hcs, htr⟩ := Option.bind_eq_some_iff.1 h1
      obtain ⟨_, hcl, hat⟩ := World.cells?_some hcs
      obtain ⟨y, rfl, hy⟩ := open_kcells htr
      refine ⟨y, hy, fun r u hr => ?_⟩
      have hr3 : r < 5 := by have := (List.getElem?_eq_some_iff.1 hr).1; simpa [K.cells] using this
      have := hat r hr3
      rw [Go.Deep.add_add] at this
      rw [this, hr])
    subst hl
    exact ⟨l, some a, cap, rfl, hlc, by omega, (fun e => by cases e), rd_of hc, hf⟩

set_option maxRecDepth 100000 in
theorem open_es {m : Nat} {cs : List Value} {x : DataW H × List MemPlace} (h : DataW.trod enc Try.prog W 0 (fun _ => true) true m 84 cs = some x) (hw : (x.1.weights Try.prog 84).all (· ≤ reachBytes) = true) :
    ∃ (l : List E) (A : Option Addr) (c : Nat), cs = [.slice A l.length c] ∧ Es W W.heap.size l A c := by
  rcases DataW.trod_slice Try.underlying84 h with ⟨rfl, _⟩ | ⟨a, len, cap, elems, rest, n, hn, rfl, rfl, _, hlc, hcm, hlen, hel, hsp, _⟩
  · exact ⟨[], none, 0, rfl, Nat.le_refl _, by simp, (fun _ => rfl), Rd.nil _ _ _, fun x hx => by cases hx⟩
  · have hrest := (hsp rfl).1
    have hcap : cap * 40 ≤ reachBytes := by
      refine all_mem hw ?_
      simp only [DataW.weights, Try.underlying84, bytesE, List.length_map]
      rw [show elems.length + rest.length = cap by omega]
      exact List.mem_cons_self
    have hr47 : reachBytes ≤ 140737488355328 := by decide
    obtain ⟨l, hl, hf, hc⟩ := gatherE W a len (fun i hi => by
      have h1 := hel i hi
      rw [cells2] at h1
      have hie : elems[i]? = some elems[i] := List.getElem?_eq_getElem (by omega)
      rw [hie] at h1
      obtain ⟨cs', hcs, htr⟩ := Option.bind_eq_some_iff.1 h1
      obtain ⟨_, hcl, hat⟩ := World.cells?_some hcs
      obtain ⟨s, l, A, c, rfl, hV, hs⟩ := open_ecells htr (by
        rw [List.all_eq_true]
        intro n hn
        have : n ∈ DataW.weights Try.prog 84 (DataW.slice (elems.map (·.1)) (rest.map (·.1))) := by
          simp only [DataW.weights, Try.underlying84, List.mem_cons, List.mem_append]
          exact .inr (.inl (weightsAll_mem (List.mem_map_of_mem (List.getElem_mem (by omega))) n hn))
        simpa using all_mem hw this)
      refine ⟨⟨s, l, A, c⟩, ⟨hV, hs⟩, fun r u hr => ?_⟩
      have hr2 : r < 2 := by have := (List.getElem?_eq_some_iff.1 hr).1; simpa [E.cells] using this
      have := hat r hr2
      rw [Go.Deep.add_add] at this
      rw [this]
      exact hr)
    subst hl
    exact ⟨l, some a, cap, rfl, hlc, by omega, (fun e => by cases e), rd_of hc, hf⟩

set_option maxRecDepth 100000 in
/-- a node that came in -/
theorem open_node {r : Reach} {b0 : Nat} {v : Value} {d : DataW H} {p : List MemPlace} (hv : Value.okWide Try.prog W r b0 87 v) (h : DataW.Trod enc Try.prog W 0 (fun _ => true) true 87 v d p)
    (hw : (d.weights Try.prog 87).all (· ≤ reachBytes) = true) : ∃ (lf : Bool) (es : List E) (A : Option Addr) (c : Nat) (ks : List K) (A' : Option Addr) (c' : Nat), v = .agg #[.bool lf, .slice A es.length c, .slice A' ks.length c'] ∧ Es W W.heap.size es A c ∧ Ks W W.heap.size ks A' c' := by
  obtain ⟨cs, rfl, hsz⟩ := okWide_struct Try.underlying87 hv
  obtain ⟨m, hm⟩ := h
  obtain ⟨ys, n, hn, hx, hlen, hyl, hf⟩ := DataW.trod_struct Try.underlying87 hm
  rw [cells3n] at hlen
  generalize hcl : (Value.agg cs).cells.toList = cl at hlen hf
  match cl, hlen, ys, hyl with
  | [c0, c1, c2], _, [y0, y1, y2], _ =>
    have k4 : Try.prog.cellsOf 4 = 1 := by kernel_rfl
    have k24 : Try.prog.cellsOf 84 = 1 := by kernel_rfl
    have k25 : Try.prog.cellsOf 85 = 1 := by kernel_rfl
    have f0 : DataW.trod enc Try.prog W 0 (fun _ => true) true n 4 (List.take (Try.prog.cellsOf 4) (List.drop 0 [c0, c1, c2])) = some y0 := hf 0 _ rfl
    have f1 : DataW.trod enc Try.prog W 0 (fun _ => true) true n 84 (List.take (Try.prog.cellsOf 84) (List.drop 1 [c0, c1, c2])) = some y1 := hf 1 _ rfl
    have f2 : DataW.trod enc Try.prog W 0 (fun _ => true) true n 85 (List.take (Try.prog.cellsOf 85) (List.drop 2 [c0, c1, c2])) = some y2 := hf 2 _ rfl
    rw [k4] at f0
    rw [k24] at f1
    rw [k25] at f2
    obtain ⟨lf, e0, _⟩ := DataW.trod_bool Try.underlying4 f0
    obtain ⟨es, A, c, e1, hV⟩ := open_es f1 (by
      rw [List.all_eq_true]
      intro n hn
      have : n ∈ d.weights Try.prog 87 := by
        rw [show d = DataW.agg (List.map (fun x => x.fst) [y0, y1, y2]) from congrArg Prod.fst hx]
        simp only [DataW.weights, Try.underlying87, DataW.weightsEach, List.map_cons, List.mem_append]
        exact .inr (.inl hn)
      simpa using all_mem hw this)
    obtain ⟨ks, A', c', e2, hK⟩ := open_ks f2 (by
      rw [List.all_eq_true]
      intro n hn
      have : n ∈ d.weights Try.prog 87 := by
        rw [show d = DataW.agg (List.map (fun x => x.fst) [y0, y1, y2]) from congrArg Prod.fst hx]
        simp only [DataW.weights, Try.underlying87, DataW.weightsEach, List.map_cons, List.mem_append]
        exact .inr (.inr (.inl hn))
      simpa using all_mem hw this)
    simp at e0 e1 e2
    subst e0 e1 e2
    refine ⟨lf, es, A, c, ks, A', c', ?_, hV, hK⟩
    have : cs.toList = [.bool lf, .slice A es.length c, .slice A' ks.length c'] := by simpa [Value.cells] using hcl
    rw [← Array.toArray_toList (xs := cs), this]

set_option maxRecDepth 100000 in
/-- a reference that came in -/
theorem open_ref {r : Reach} {b0 : Nat} {v : Value} {d : DataW H} {p : List MemPlace} (hv : Value.okWide Try.prog W r b0 27 v) (h : DataW.Trod enc Try.prog W 0 (fun _ => true) true 27 v d p) :
    ∃ (k : Nat) (g o n : Int), v = .agg #[.int .u64 (k : Int), .int .i64 g, .int .i64 o, .int .i64 n] ∧ k < 18446744073709551616 ∧ i64 g ∧ i64 o ∧ i64 n := by
  obtain ⟨cs, rfl, hsz⟩ := okWide_struct Try.underlying27 hv
  obtain ⟨m, hm⟩ := h
  obtain ⟨k, g, o, n, hcs, hf⟩ := open_rcells hm
  refine ⟨k, g, o, n, ?_, hf⟩
  have : cs.toList = [.int .u64 (k : Int), .int .i64 g, .int .i64 o, .int .i64 n] := by simpa [Value.cells] using hcs
  rw [← Array.toArray_toList (xs := cs), this]
end
end Go.Proofs.Ytoenkkbcpafanaa.nodes
