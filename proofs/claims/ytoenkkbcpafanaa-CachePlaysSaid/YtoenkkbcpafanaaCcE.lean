/- Cache's forget: what was kept is cleared. -/
import Derived.Test.YtoenkkbcpafanaaCcD
import Derived.Deep.Cut
import Derived.Deep.DeepCutAuto


namespace Go.Proofs.Ytoenkkbcpafanaa.caches
set_option linter.unusedVariables false
set_option linter.unusedSimpArgs false
open Go.RowKit Go.Proofs.Ytoenkkbcpafanaa.base Go.Proofs.Ytoenkkbcpafanaa.vers Go.Proofs.Ytoenkkbcpafanaa.nodes Go.Proofs.Ytoenkkbcpafanaa.trees

abbrev H.eb (x : H) (b : Nat) : Prop := (Value.slice x.n.A x.n.es.length x.n.c).ownBlock = some b
/-- where a node's clearing stands: its list of secrets is as it was -/
structure NodeAt (w0 : World) (x : H) (q : Nat) (wr : World) : Prop where
  rd : RdF wr x.eb x.n.A (cellsE x.n.es)
  vs : ∀ y ∈ x.n.es, RowW wr 180 3 y.A y.l.length (fun b => x.F b ∧ ¬ x.eb b)
  er : RowW wr 47 2 x.n.A x.n.es.length x.F
  kr : RowW wr 162 5 x.n.Q x.n.ks.length x.F
  box : Blk wr q 110 #[.int .u64 (x.r.k : Int), .int .i64 x.r.g, .int .i64 x.r.o, .int .i64 x.r.n, .bool x.n.lf, .slice x.n.A x.n.es.length x.n.c, .slice x.n.Q x.n.ks.length x.n.m, .int .i64 (x.p : Int)]
  wr : Wr x.F w0 wr
  q : w0.heap.size ≤ q
  lt : ∀ b, x.F b → b < w0.heap.size
  el : ∀ b, x.eb b → b < w0.heap.size
section
variable {w0 wr w' : World} {x : H} {q : Nat}
theorem NodeAt.below (h : NodeAt w0 x q wr) (hb : Below wr.heap.size wr w') : NodeAt w0 x q w' :=
  have hw : Wr (fun _ => False) wr w' := (Wr.refl _ _).below hb
  ⟨h.rd.agree (Agree.of_below hb fun b hb' => Nat.lt_of_lt_of_le (h.el b hb') h.wr.keep.size), fun y hy => (h.vs y hy).next hw, h.er.next hw, h.kr.next hw, h.box.below hb h.box.lt, h.wr.below hb, h.q, h.lt, h.el⟩
theorem NodeAt.clear1 (h : NodeAt w0 x q wr) (hw : Wr (fun b => x.F b ∧ ¬ x.eb b) wr w') : NodeAt w0 x q w' :=
  ⟨h.rd.agree (hw.keep.agree fun b hb => ⟨Nat.lt_of_lt_of_le (h.el b hb) h.wr.keep.size, fun e => e.2 hb⟩), fun y hy => (h.vs y hy).next hw, h.er.next hw, h.kr.next hw, hw.keep.blk h.box (fun e => by have := h.lt q e.1; have := h.q; omega), h.wr.trans (hw.mono fun _ e => e.1), h.q, h.lt, h.el⟩
theorem NodeAt.new {w : World} {x : H} (ho : OwnNF w x.F x.n) (hlt : ∀ b, x.F b → b < w.heap.size) : NodeAt w x w.heap.size (w.alloc (.cells #[.int .u64 (x.r.k : Int), .int .i64 x.r.g, .int .i64 x.r.o, .int .i64 x.r.n, .bool x.n.lf, .slice x.n.A x.n.es.length x.n.c, .slice x.n.Q x.n.ks.length x.n.m, .int .i64 (x.p : Int)] 110)) := by
  obtain ⟨⟨he1, he2, he3, he4⟩, ⟨hk1, hk2, hk3, hk4⟩, hne⟩ := ho
  have hb : Below w.heap.size w (w.alloc (.cells #[.int .u64 (x.r.k : Int), .int .i64 x.r.g, .int .i64 x.r.o, .int .i64 x.r.n, .bool x.n.lf, .slice x.n.A x.n.es.length x.n.c, .slice x.n.Q x.n.ks.length x.n.m, .int .i64 (x.p : Int)] 110)) := (Below.refl _ _).alloc (Nat.le_refl _) _
  have hw : Wr (fun _ => False) w (w.alloc (.cells #[.int .u64 (x.r.k : Int), .int .i64 x.r.g, .int .i64 x.r.o, .int .i64 x.r.n, .bool x.n.lf, .slice x.n.A x.n.es.length x.n.c, .slice x.n.Q x.n.ks.length x.n.m, .int .i64 (x.p : Int)] 110)) := (Wr.refl _ _).below hb
  obtain ⟨A', c', e, _, _, hr⟩ := row_rdF he1
  injection e with e1 _ e2
  subst e1 e2
  refine ⟨hr.agree (Agree.of_below hb fun b hb' => hlt b (he3 b hb')), fun y hy => ?_, (RowW.of he1 he3).next hw, (RowW.of hk1 hk3).next hw, Blk.new w _ _, (Wr.refl _ _).below hb, Nat.le_refl _, hlt, fun b hb' => hlt b (he3 b hb')⟩
  exact (RowW.of (he4 y hy).1.1 fun b hb' => ⟨((he4 y hy).1.2.2.2 b hb').1, fun e => ((he4 y hy).1.2.2.2 b hb').2 e.symm⟩).next hw
theorem NodeAt.e_at (h : NodeAt w0 x q wr) {j : Nat} (hj : j < x.n.es.length) : ∃ b off, x.n.A = some ⟨b, off, none⟩ ∧ b < wr.heap.size ∧ wr.cell? ⟨b, off + j * 2, none⟩ = some (.string x.n.es[j].s) ∧ wr.cell? ⟨b, off + j * 2 + 1, none⟩ = some (.slice x.n.es[j].A x.n.es[j].l.length x.n.es[j].c) := by
  obtain ⟨e0, e1⟩ := cellsE_at x.n.es hj
  obtain ⟨b, off, e, hb, c0⟩ := h.rd _ _ e0
  obtain ⟨b', off', e', _, c1⟩ := h.rd _ _ e1
  rw [e] at e'
  cases e'
  exact ⟨b, off, e, Nat.lt_of_lt_of_le (h.el b hb) h.wr.keep.size, by rw [show off + j * 2 = off + 2 * j by omega]; exact c0, by rw [show off + j * 2 + 1 = off + (2 * j + 1) by omega]; exact c1⟩
end
/-- the loop's head: the nodes from j on are as they were -/
def FA (w : World) (l : List H) (j : Nat) (wr : World) : Prop := Keep (fun b => ∃ x ∈ l, x.F b) w wr ∧ ∀ k (h : k < l.length), j ≤ k → OwnNF wr l[k].F l[k].n
theorem FA.step {w wr w' : World} {l : List H} {j : Nat} (h : FA w l j wr) (hj : j < l.length) (hlt : ∀ x ∈ l, ∀ b, x.F b → b < w.heap.size) (hap : l.Pairwise (fun x y => ∀ b, x.F b → ¬ y.F b)) (hn : Wr l[j].F wr w') : FA w l (j + 1) w' := by
  refine ⟨h.1.trans hn.keep fun b hb _ => ⟨_, List.getElem_mem hj, hb⟩, fun k hk hjk => (h.2 k hk (by omega)).agree (hn.keep.agree fun b hb => ⟨Nat.lt_of_lt_of_le (hlt _ (List.getElem_mem hk) b hb) h.1.size, fun e => ?_⟩)⟩
  exact List.pairwise_iff_getElem.1 hap j k hj hk (by omega) b e hb
theorem tail_rd {w : World} {pre l : List H} {g room : Nat} (h : w.ownsRow 0 110 8 (.slice (some ⟨g, 0, none⟩) (pre ++ l).length room) (pre ++ l).length (cellsH (pre ++ l))) : RdF w (fun b => b = g) (some ⟨g, pre.length * 8, none⟩) (cellsH l) := fun j u hj => by
  have hlt : j < (cellsH l).length := (List.getElem?_eq_some_iff.1 hj).1
  rw [cellsH_len] at hlt
  refine ⟨g, pre.length * 8, rfl, rfl, (h.cellAt (pre.length * 8 + j) (by rw [List.length_append]; omega)).trans ?_⟩
  rw [cellsH_app, List.getElem?_append_right (by rw [cellsH_len]; omega), cellsH_len, show pre.length * 8 + j - pre.length * 8 = j by omega]
  exact hj

set_option maxRecDepth 100000 in
set_option maxHeartbeats 4000000 in
theorem forget_any (pre l : List H) (g room c : Nat) (w : World) (hrow : w.ownsRow 0 110 8 (.slice (some ⟨g, 0, none⟩) (pre ++ l).length room) (pre ++ l).length (cellsH (pre ++ l))) (hlen : (pre ++ l).length ≤ 32)
    (hnode : ∀ x ∈ l, OwnNF w x.F x.n) (hlt : ∀ x ∈ l, ∀ b, x.F b → b < w.heap.size) (hng : ∀ x ∈ l, ∀ b, x.F b → b ≠ g) (hap : l.Pairwise (fun x y => ∀ b, x.F b → ¬ y.F b)) :
    Calls Try.prog 120 #[.slice (some ⟨g, pre.length * 8, none⟩) l.length c] w fun e w' => e = .returned (.tuple #[]) ∧ w'.ownsRow 0 110 8 (.slice (some ⟨g, 0, none⟩) pre.length room) pre.length (cellsH pre) ∧ Keep (fun b => b = g ∨ ∃ x ∈ l, x.F b) w w' := by
  have hgl := (hrow.lt g rfl).2
  have hROW : ∀ wr, Keep (fun b => ∃ x ∈ l, x.F b) w wr → wr.ownsRow 0 110 8 (.slice (some ⟨g, 0, none⟩) (pre ++ l).length room) (pre ++ l).length (cellsH (pre ++ l)) := fun wr hk => ownsRow_agree hrow fun b hb => (by cases hb; exact hk.block g hgl fun ⟨x, hx, h⟩ => hng x hx g h rfl)
  have HR := vers.lay hROW
  have H0 := vers.lay (show FA w l 0 w from ⟨Keep.refl _ _, fun k hk _ => hnode _ (List.getElem_mem hk)⟩)
  have HL := vers.lay hlt
  have HP := vers.lay hap
  have hn32 : l.length ≤ 32 := by rw [List.length_append] at hlen; omega
  have HC := vers.lay (fun wr (hk : Keep (fun b => ∃ x ∈ l, x.F b) w wr) => clear_tail (c := c) (hROW wr hk))
  obtain ⟨off, hoff⟩ : ∃ off, off = pre.length * 8 := ⟨_, rfl⟩
  have HO := vers.lay hoff
  rw [← hoff] at HC ⊢
  obtain ⟨n, hn⟩ : ∃ n, n = l.length := ⟨_, rfl⟩
  have HN := vers.lay hn
  rw [← hn] at HC hn32 ⊢
  clear hoff hn hrow hnode hlt hap hROW hlen hng
  go_enter Try.func120, Try.ntmps120
  go_wp2_with fail
  go_loopw [8] (fun i wr => ∃ j : Nat, i = .int .i64 (j : Int) ∧ j ≤ n ∧ Hid (FA w l j wr)) (fun i _ => n - (RowKit.intOf i).toNat)
  case atStart => exact ⟨0, rfl, Nat.zero_le _, H0⟩
  case round =>
    clear H0
    obtain ⟨j, rfl, hj, HF⟩ := hrel
    generalize wr = wo at *
    clear wr
    by_cases hlt : j < n
    · have hjl : j < l.length := by rw [← HN.out]; exact hlt
      obtain ⟨b, off', e9, hbg, y0, y1, y2, y3, y4, y5, y6, y7⟩ := RdF.h_at (tail_rd (HR.out wo HF.out.1)) hjl
      rw [← HO.out] at e9
      cases e9
      clear hbg
      have hbl : g < wo.heap.size := Nat.lt_of_lt_of_le hgl HF.out.1.size
      have hN0 := NodeAt.new (HF.out.2 j hjl (Nat.le_refl _)) (fun b hb => Nat.lt_of_lt_of_le (HL.out _ (List.getElem_mem hjl) b hb) HF.out.1.size)
      have HS := vers.lay (fun w' (h : Wr l[j].F wo w') => HF.out.step hjl HL.out HP.out h)
      obtain ⟨x, hx⟩ : ∃ x, l[j] = x := ⟨_, rfl⟩
      have hel := (HF.out.2 j hjl (Nat.le_refl _)).ns.1.2.1
      rw [hx] at y0 y1 y2 y3 y4 y5 y6 y7 hN0 HS hel
      have hel2 : x.n.es.length ≤ 140737488355328 := by omega
      clear hx HF hel
      go_wp2_with fail
      generalize hW : wo.alloc (.cells #[.int .u64 (x.r.k : Int), .int .i64 x.r.g, .int .i64 x.r.o, .int .i64 x.r.n, .bool x.n.lf, .slice x.n.A x.n.es.length x.n.c, .slice x.n.Q x.n.ks.length x.n.m, .int .i64 (x.p : Int)] 110) = W at hN0 ⊢
      obtain ⟨q, hq⟩ : ∃ q, q = wo.heap.size := ⟨_, rfl⟩
      have HQ := vers.lay hq
      rw [← hq] at hN0 ⊢
      have HW := vers.lay hW
      clear hW hq y0 y1 y2 y3 y4 y5 y6 y7
      have z1 := hN0.box.cell 5
      simp only [List.getElem?_toArray, List.getElem?_cons_zero, List.getElem?_cons_succ] at z1
      have hql := hN0.box.lt
      have HN1 := vers.lay hN0
      clear hN0
      go_wp2_with fail
      go_loopw [16] (fun i wx => ∃ k : Nat, i = .int .i64 (k : Int) ∧ k ≤ x.n.es.length ∧ Hid (NodeAt wo x q wx)) (fun i _ => x.n.es.length - (RowKit.intOf i).toNat)
      case atStart => exact ⟨0, rfl, Nat.zero_le _, HN1⟩
      case round =>
        obtain ⟨k, rfl, hk, HK⟩ := hrel
        clear HN1 z1 hql
        by_cases hk1 : k < x.n.es.length
        · obtain ⟨be, oe, eA, hbe, u0, u1⟩ := HK.out.e_at hk1
          rw [eA]
          have hV := HK.out.vs _ (List.getElem_mem hk1)
          generalize hxe : x.n.es[k] = y at u0 u1 hV
          obtain ⟨ys, yl, yA, yc⟩ := y
          simp only at u0 u1 hV
          have hb6 : Below wr.heap.size wr (wr.alloc (.cells #[.string ys, .slice yA yl.length yc] 47)) := (Below.refl _ _).alloc (Nat.le_refl _) _
          have kY := Blk.new wr 47 #[.string ys, .slice yA yl.length yc]
          have HK6 := vers.lay (HK.out.below hb6)
          have hV6 := hV.next ((Wr.refl (fun _ => False) _).below hb6)
          clear HK hV hb6 hxe
          go_upto_region 6 with (fail)
          generalize hW6 : wr.alloc (.cells #[.string ys, .slice yA yl.length yc] 47) = W6 at HK6 hV6 kY ⊢
          have HW6 := vers.lay hW6
          clear hW6 u0 u1 hbe
          have v1 := kY.cell 1
          simp only [List.getElem?_toArray, List.getElem?_cons_zero, List.getElem?_cons_succ] at v1
          have hyl := kY.lt
          clear kY
          obtain ⟨w7, hr7, hw7⟩ := zcV (c := yc) 45 rfl hV6
          have HK7 := vers.lay (HK6.out.clear1 hw7)
          clear HK6 hV6 hw7
          go_wp2_with fail
          exact ⟨⟨k + 1, by go_num, hk1, HK7⟩, by first | (simp [RowKit.intOf]; done) | (simp [RowKit.intOf]; omega) | omega⟩
        · obtain rfl : k = x.n.es.length := by omega
          have z5 := HK.out.box.cell 5
          simp only [List.getElem?_toArray, List.getElem?_cons_zero, List.getElem?_cons_succ] at z5
          have hqx := HK.out.box.lt
          have hE := HK.out.er
          obtain ⟨w7, hr7, hw7⟩ := zcE (c := x.n.c) 84 rfl hE
          have kB := hw7.keep.blk HK.out.box (fun e => by have := HK.out.lt q e; have := HK.out.q; omega)
          have hK7 := HK.out.kr.next hw7
          have hw8 := HK.out.wr.trans hw7
          clear HK hE hw7
          go_upto_region 9 with (fail)
          obtain ⟨w9, hr9, hw9⟩ := zcK (c := x.n.m) 85 rfl hK7
          have HF9 := vers.lay (HS.out w9 (hw8.trans hw9))
          clear z5 hqx hr7
          have z5 := kB.cell 6
          simp only [List.getElem?_toArray, List.getElem?_cons_zero, List.getElem?_cons_succ] at z5
          have hqx := kB.lt
          clear kB hw8 hw9 hK7
          go_wp2_with fail
          exact ⟨⟨j + 1, by go_num, hlt, HF9⟩, by first | (simp [RowKit.intOf]; done) | (simp [RowKit.intOf]; omega) | omega⟩
    · obtain rfl : j = n := by omega
      obtain ⟨w7, hr7, ho7, hk7⟩ := HC.out wo HF.out.1
      have hF : Keep (fun b => b = g ∨ ∃ x ∈ l, x.F b) w w7 := Keep.trans (S := fun b => b = g ∨ ∃ x ∈ l, x.F b) (HF.out.1.mono fun b h _ => .inr h) hk7 fun b h _ => .inl h
      clear HC HF
      go_wp2_with fail
      refine bodyPost_end (v := .tuple #[]) (by simp [results, Try.results120, go_sem]) rfl ⟨rfl, ho7, hF⟩
end Go.Proofs.Ytoenkkbcpafanaa.caches
