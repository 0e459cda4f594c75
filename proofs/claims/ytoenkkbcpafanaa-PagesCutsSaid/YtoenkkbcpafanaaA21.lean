/- Cache's putLast. -/
import Derived.Test.YtoenkkbcpafanaaA20
import Derived.Test.YtoenkkbcpafanaaA08


namespace Go.Proofs.Ytoenkkbcpafanaa.caches
set_option linter.unusedVariables false
set_option linter.unusedSimpArgs false
open Go.RowKit Go.Proofs.Ytoenkkbcpafanaa.base Go.Proofs.Ytoenkkbcpafanaa.vers Go.Proofs.Ytoenkkbcpafanaa.nodes Go.Proofs.Ytoenkkbcpafanaa.trees

/-- all but one, and that behind them -/
def mvL {α : Type} (l : List α) (i : Nat) : List α := l.take i ++ l.drop (i + 1) ++ l[i]?.toList
theorem mvL_eq {α : Type} (l : List α) {i : Nat} (hi : i < l.length) : mvL l i = l.take i ++ l.drop (i + 1) ++ [l[i]] := by unfold mvL; rw [List.getElem?_eq_getElem hi]; rfl
theorem mvL_len {α : Type} (l : List α) {i : Nat} (hi : i < l.length) : (mvL l i).length = l.length := by rw [mvL_eq l hi]; simp; omega
theorem mvL_perm {α : Type} (l : List α) {i : Nat} (hi : i < l.length) : (mvL l i).Perm l := by
  rw [mvL_eq l hi]
  have e : l = l.take i ++ l[i] :: l.drop (i + 1) := by rw [← List.drop_eq_getElem_cons hi, List.take_append_drop]
  refine (List.perm_append_comm (l₁ := l.take i ++ l.drop (i + 1)) (l₂ := [l[i]])).trans ?_
  conv => rhs; rw [e]
  rw [List.singleton_append]
  exact List.perm_middle.symm
theorem mvL_map {α β : Type} (φ : α → β) (l : List α) {i : Nat} (hi : i < l.length) : (mvL l i).map φ = mvL (l.map φ) i := by
  rw [mvL_eq l hi, mvL_eq (l.map φ) (by simpa using hi)]
  simp [List.map_take, List.map_drop]
def set8 (w : World) (g j : Nat) (u0 u1 u2 u3 u4 u5 u6 u7 : Value) : World := w |>.setCell ⟨g, j * 8, none⟩ u0 |>.setCell ⟨g, j * 8 + 1, none⟩ u1 |>.setCell ⟨g, j * 8 + 2, none⟩ u2 |>.setCell ⟨g, j * 8 + 3, none⟩ u3 |>.setCell ⟨g, j * 8 + 4, none⟩ u4 |>.setCell ⟨g, j * 8 + 5, none⟩ u5 |>.setCell ⟨g, j * 8 + 6, none⟩ u6 |>.setCell ⟨g, j * 8 + 7, none⟩ u7
theorem cellsH_set8 (a t : List H) (x y : H) : ((cellsH (a ++ y :: t)) |>.set (a.length * 8) (.int .u64 (x.r.k : Int)) |>.set (a.length * 8 + 1) (.int .i64 x.r.g) |>.set (a.length * 8 + 2) (.int .i64 x.r.o) |>.set (a.length * 8 + 3) (.int .i64 x.r.n) |>.set (a.length * 8 + 4) (.bool x.n.lf) |>.set (a.length * 8 + 5) (.slice x.n.A x.n.es.length x.n.c) |>.set (a.length * 8 + 6) (.slice x.n.Q x.n.ks.length x.n.m) |>.set (a.length * 8 + 7) (.int .i64 (x.p : Int))) = cellsH (a ++ x :: t) := by
  have hl := cellsH_len a
  rw [cellsH_app, cellsH_app, cellsH, cellsH]
  rw [List.set_append_right _ _ (by rw [hl]; omega), List.set_append_right _ _ (by rw [hl]; omega), List.set_append_right _ _ (by rw [hl]; omega), List.set_append_right _ _ (by rw [hl]; omega), List.set_append_right _ _ (by rw [hl]; omega), List.set_append_right _ _ (by rw [hl]; omega), List.set_append_right _ _ (by rw [hl]; omega), List.set_append_right _ _ (by rw [hl]; omega)]
  rw [hl]
  simp only [Nat.sub_self, Nat.add_sub_cancel_left]
  rfl
section
variable {w w' : World} {p g room f m : Nat} {Z : Nat → Prop} {l l' : List H}
theorem Ca.perm (h : Ca w p g Z room f m l) (hk : Keep (fun b => b = g) w w') (hr : w'.ownsRow 0 110 8 (.slice (some ⟨g, 0, none⟩) l'.length room) l'.length (cellsH l')) (hl : l'.length = l.length) (hp : l'.Perm l) : Ca w' p g Z room f m l' :=
  ⟨by rw [hl]; exact hk.blk h.blk (fun e => h.ne e.symm), hr, h.cap, h.ne, fun b hb => Nat.lt_of_lt_of_le (h.zlt b hb) hk.size, h.zp, h.zg, fun x hx => ⟨(h.node x (hp.mem_iff.1 hx)).1.agree (hk.agree fun b hb => ⟨h.zlt b ((h.node x (hp.mem_iff.1 hx)).2 b hb).1, ((h.node x (hp.mem_iff.1 hx)).2 b hb).2.2⟩), (h.node x (hp.mem_iff.1 hx)).2⟩, (hp.symm.pairwise_iff (fun hxy b hy hx => hxy b hx hy)).1 h.apart, fun x hx => h.fits x (hp.mem_iff.1 hx)⟩
theorem row_set8 {c : Nat} (a t : List H) (x y : H) (h : w.ownsRow 0 110 8 (.slice (some ⟨g, 0, none⟩) (a ++ y :: t).length c) (a ++ y :: t).length (cellsH (a ++ y :: t))) :
    (set8 w g a.length (.int .u64 (x.r.k : Int)) (.int .i64 x.r.g) (.int .i64 x.r.o) (.int .i64 x.r.n) (.bool x.n.lf) (.slice x.n.A x.n.es.length x.n.c) (.slice x.n.Q x.n.ks.length x.n.m) (.int .i64 (x.p : Int))).ownsRow 0 110 8 (.slice (some ⟨g, 0, none⟩) (a ++ x :: t).length c) (a ++ x :: t).length (cellsH (a ++ x :: t)) ∧ Keep (fun b => b = g) w (set8 w g a.length (.int .u64 (x.r.k : Int)) (.int .i64 x.r.g) (.int .i64 x.r.o) (.int .i64 x.r.n) (.bool x.n.lf) (.slice x.n.A x.n.es.length x.n.c) (.slice x.n.Q x.n.ks.length x.n.m) (.int .i64 (x.p : Int))) := by
  obtain ⟨h1, k1⟩ := h.stored (a.length * 8) (.int .u64 (x.r.k : Int))
  obtain ⟨h2, k2⟩ := h1.stored (a.length * 8 + 1) (.int .i64 x.r.g)
  obtain ⟨h3, k3⟩ := h2.stored (a.length * 8 + 2) (.int .i64 x.r.o)
  obtain ⟨h4, k4⟩ := h3.stored (a.length * 8 + 3) (.int .i64 x.r.n)
  obtain ⟨h5, k5⟩ := h4.stored (a.length * 8 + 4) (.bool x.n.lf)
  obtain ⟨h6, k6⟩ := h5.stored (a.length * 8 + 5) (.slice x.n.A x.n.es.length x.n.c)
  obtain ⟨h7, k7⟩ := h6.stored (a.length * 8 + 6) (.slice x.n.Q x.n.ks.length x.n.m)
  obtain ⟨h8, k8⟩ := h7.stored (a.length * 8 + 7) (.int .i64 (x.p : Int))
  rw [cellsH_set8 a t x y] at h8
  rw [show (a ++ x :: t).length = (a ++ y :: t).length by simp]
  have kk := fun {u v : World} (h : u.grownBy v (some g)) => (⟨h.os, h.tape, h.output, h.size, fun k hk hn => h.block k hk fun e => hn (Option.some.inj e)⟩ : Keep (fun b => b = g) u v)
  refine ⟨h8, ?_⟩
  have c2 := (kk k1).trans (kk k2) fun _ h _ => h
  have c3 := c2.trans (kk k3) fun _ h _ => h
  have c4 := c3.trans (kk k4) fun _ h _ => h
  have c5 := c4.trans (kk k5) fun _ h _ => h
  have c6 := c5.trans (kk k6) fun _ h _ => h
  have c7 := c6.trans (kk k7) fun _ h _ => h
  exact c7.trans (kk k8) fun _ h _ => h
/-- the row behind the copying -/
theorem row_copied {cur : Array Value} {room i : Nat} (hi : i < l.length) (hn : l.length ≤ room) (hm : room ≤ 32) (hs : cur.size = room * 8) (ht : cur.toList.take (l.length * 8) = cellsH l)
    (hb : Blk w g 110 (cur.toList.take (i * 8) ++ cellsH (l.drop (i + 1)) ++ cur.toList.drop (i * 8 + (cellsH (l.drop (i + 1))).length)).toArray) :
    ∃ y, w.ownsRow 0 110 8 (.slice (some ⟨g, 0, none⟩) (l.take i ++ l.drop (i + 1) ++ [y]).length room) (l.take i ++ l.drop (i + 1) ++ [y]).length (cellsH (l.take i ++ l.drop (i + 1) ++ [y])) := by
  have hd : (cellsH (l.drop (i + 1))).length = (l.length - (i + 1)) * 8 := by rw [cellsH_len, List.length_drop]
  have h0 : 0 < l.length := by omega
  refine ⟨l[l.length - 1], by rw [cellsH_len], .inr ⟨g, room, _, rfl, Nat.zero_le _, hb, by simp; omega, by unfold maxLen; omega, by simp [hd, hs]; omega, ?_⟩⟩
  have el : l = l.take (l.length - 1) ++ [l[l.length - 1]] := by
    conv => lhs; rw [← List.take_append_drop (l.length - 1) l, List.drop_eq_getElem_cons (by omega)]
    rw [show l.length - 1 + 1 = l.length by omega, List.drop_length]
  have e1 : cur.toList.take (i * 8) = cellsH (l.take i) := by
    have := congrArg (List.take (i * 8)) ht
    rw [List.take_take, Nat.min_eq_left (by omega)] at this
    rw [this]
    conv => lhs; rw [← List.take_append_drop i l, cellsH_app]
    exact List.take_left' (by rw [cellsH_len, List.length_take]; omega)
  have e2 : (cur.toList.drop (i * 8 + (l.length - (i + 1)) * 8)).take 8 = cellsH [l[l.length - 1]] := by
    have e3 : (cur.toList.drop (i * 8 + (l.length - (i + 1)) * 8)).take 8 = (cur.toList.take (l.length * 8)).drop ((l.length - 1) * 8) := by
      rw [List.drop_take, show i * 8 + (l.length - (i + 1)) * 8 = (l.length - 1) * 8 by omega, show l.length * 8 - (l.length - 1) * 8 = 8 by omega]
    rw [e3, ht]
    conv => lhs; rw [el, cellsH_app]
    simp only [List.length_append, List.length_singleton]
    rw [List.drop_left' (by rw [cellsH_len, List.length_take]; omega)]
    try (congr 2; rw [List.getElem_append_right (by simp)]; simp)
  have hA : (cellsH (l.take i) ++ cellsH (l.drop (i + 1))).length = (l.length - 1) * 8 := by rw [List.length_append, hd, cellsH_len, List.length_take]; omega
  rw [List.toList_toArray, e1, hd, cellsH_app, cellsH_app, List.take_append, List.take_of_length_le (by rw [hA]; simp; omega), hA]
  congr 1
  rw [← e2]
  congr 1
  simp
  omega
/-- copy, its run known, in a drawn region -/
theorem wp_copy_run {o : Oper} {a : Act} {w : World} {K : Act → World → Prop} {Q : Exit → Act → World → Prop}
    (hg : o.guard = none) (d x : Operand) (dT sT : TypeId) (hop : o.op = Op.call { callee := Callee.builtin Builtin.copy, args := #[d, x], argTypes := #[dT, sT] })
    (v u : Value) (hd : a.eval d = v) (hx : a.eval x = u) {v' : Value} {w' : World} (hr : ∀ ty, (Builtin.copy_ #[dT, sT] ty #[v, u]).run Try.prog w = .ok v' w') (hK : K (a.put o.dst v') w') : Oper.wp Try.prog o a w K Q := by
  unfold Oper.wp
  simp [execOp, hop, resolve, invoke, builtin, hd, hx, hr, Result.andThen]
  exact hK
theorem run_copy_blkT {P : Program} (w : World) (dT sT elem : TypeId) (g o dLen dCap : Nat) (a : Addr) (sLen sCap k : Nat) (cur : Array Value) (t : TypeId) (cs : List Value)
    (hu : P.underlying dT = some (.slice elem)) (hs : (P.info? elem).map (·.size) = some k)
    (hg : Blk w g t cur) (hn : cs.length = Nat.min sLen dLen * k)
    (hsrc : ∀ j v, cs[j]? = some v → w.cell? (a.add j) = some v) (hfit : o + cs.length ≤ cur.size) (h1 : ∀ v ∈ cs, v.oneCell' = true) :
    ∃ w', (∀ ty, (Builtin.copy_ #[dT, sT] ty #[.slice (some ⟨g, o, none⟩) dLen dCap, .slice (some a) sLen sCap]).run P w = .ok (goInt (Nat.min sLen dLen)) w') ∧
      Blk w' g t (cur.toList.take o ++ cs ++ cur.toList.drop (o + cs.length)).toArray ∧ Keep (fun b => b = g) w w' := by
  have hl := run_loadCells_list (P := P) w a cs hsrc
  have hst := run_storeCells_at P g o t cs 0 cur w hg (by simpa using hfit) h1
  refine ⟨w.setRow g (cur.toList.take o ++ cs ++ cur.toList.drop (o + cs.length)).toArray, fun ty => ?_, setRow_heap w g cur _ _ _ hg, ⟨rfl, rfl, rfl, by simp [World.setRow], fun j _ hj => setRow_other w g j _ hj⟩⟩
  cases hq : P.info? elem with
  | none => simp [hq] at hs
  | some i =>
    have hi : i.size = k := by simpa [hq] using hs
    simp [Builtin.copy_, run_underlying hu, Builtin.lenOf, Builtin.firstCells, sizeOf, typeInfo, hq, hi, ← hn, hl, hst]
theorem sizeH : (Try.prog.info? 110).map (·.size) = some 8 := by kernel_rfl
/-- the copying of putLast -/
theorem copy_up (h : Ca w p g Z room f m l) {i : Nat} (hi : i < l.length) (ad : Addr) (had : ad = ⟨g, (i + 1) * 8, none⟩ ∨ room = i + 1) :
    ∃ w' y, (∀ ty, (Builtin.copy_ #[98, 98] ty #[.slice (some ⟨g, i * 8, none⟩) (l.length - i) (room - i), .slice (some ad) (l.length - (i + 1)) (room - (i + 1))]).run Try.prog w = .ok (goInt ((l.length - (i + 1) : Nat) : Int)) w') ∧
      w'.ownsRow 0 110 8 (.slice (some ⟨g, 0, none⟩) (l.take i ++ l.drop (i + 1) ++ [y]).length room) (l.take i ++ l.drop (i + 1) ++ [y]).length (cellsH (l.take i ++ l.drop (i + 1) ++ [y])) ∧ Keep (fun b => b = g) w w' := by
  have hlen := h.len
  have hcap := h.cap
  have hrow := h.row
  rcases h.row.2 with ⟨e, _⟩ | ⟨g', cap, cur, e, _, hb, hn, hm, hs, ht⟩
  · cases e
  · injection e with e1 e0 e2
    injection e1 with e1
    injection e1 with e1
    subst e1 e2
    have hd : (cellsH (l.drop (i + 1))).length = (l.length - (i + 1)) * 8 := by rw [cellsH_len, List.length_drop]
    have hmin : Nat.min (l.length - (i + 1)) (l.length - i) = l.length - (i + 1) := Nat.min_eq_left (by omega)
    obtain ⟨w', hr, hB, hk⟩ := run_copy_blkT w 98 98 110 g (i * 8) (l.length - i) (room - i) ad (l.length - (i + 1)) (room - (i + 1)) 8 cur 110 (cellsH (l.drop (i + 1))) Try.underlying98 sizeH hb (by rw [hd, hmin]) (fun j u hj => by
      have had : ad = ⟨g, (i + 1) * 8, none⟩ := had.resolve_right (fun e => by rw [List.drop_eq_nil_of_le (by omega)] at hj; cases hj)
      have hlt : j < (cellsH (l.drop (i + 1))).length := (List.getElem?_eq_some_iff.1 hj).1
      rw [hd] at hlt
      rw [had, add_plain]
      refine (hrow.cellAt ((i + 1) * 8 + j) (by omega)).trans ?_
      conv => lhs; rw [← List.take_append_drop (i + 1) l, cellsH_app]
      rw [List.getElem?_append_right (by rw [cellsH_len, List.length_take]; omega), cellsH_len, List.length_take, show (i + 1) * 8 + j - min (i + 1) l.length * 8 = j by omega]
      exact hj) (by rw [hd, hs]; omega) (cellsH_one _)
    rw [hmin] at hr
    obtain ⟨y, hy⟩ := row_copied hi hlen hcap hs ht hB
    exact ⟨w', y, hr, hy, hk⟩
set_option maxRecDepth 100000 in
set_option maxHeartbeats 4000000 in
theorem putLast_ok (h : Ca w p g Z room f m l) {i : Nat} (hi : i < l.length) :
    Calls Try.prog 114 #[.pointer (some ⟨p, 0, none⟩), .int .i64 (i : Int)] w fun e w' => e = .returned (.tuple #[]) ∧ Ca w' p g Z room f m (mvL l i) ∧ Keep (fun b => b = g) w w' := by
  have hlen := h.len
  have hcap := h.cap
  obtain ⟨hp, hg, x0, _, _, _⟩ := h.head
  obtain ⟨y0, y1, y2, y3, y4, y5, y6, y7⟩ := h.at_ hi
  have HC := vers.lay (fun w' (hb : Below w.heap.size w w') ad had => copy_up (h.below hb) hi ad had)
  have HH := vers.lay h
  obtain ⟨x, hx⟩ : ∃ x, l[i] = x := ⟨_, rfl⟩
  have HX := vers.lay hx
  rw [hx] at y0 y1 y2 y3 y4 y5 y6 y7
  obtain ⟨n, hn⟩ : ∃ n, n = l.length := ⟨_, rfl⟩
  have HN := vers.lay hn
  rw [← hn] at HC x0 hi hlen
  have bB : Below w.heap.size w (w.alloc (.cells #[.int .u64 (x.r.k : Int), .int .i64 x.r.g, .int .i64 x.r.o, .int .i64 x.r.n, .bool x.n.lf, .slice x.n.A x.n.es.length x.n.c, .slice x.n.Q x.n.ks.length x.n.m, .int .i64 (x.p : Int)] 110)) := (Below.refl _ _).alloc (Nat.le_refl _) _
  have kA := Blk.new w 110 #[.int .u64 (x.r.k : Int), .int .i64 x.r.g, .int .i64 x.r.o, .int .i64 x.r.n, .bool x.n.lf, .slice x.n.A x.n.es.length x.n.c, .slice x.n.Q x.n.ks.length x.n.m, .int .i64 (x.p : Int)]
  clear h hx hn
  have i1 : (0 : Int) ≤ (i : Int) := by omega
  have i2 : (i : Int) < (n : Int) := by omega
  go_enter Try.func114, Try.ntmps114
  have i3 : (n : Int) ≤ 32 := by omega
  have e1 : IntKind.i64.wrap ((i : Int) + 1) = (i : Int) + 1 := IntWalk.i64_in _ (by omega)
  have n2 : (i : Int) + 1 ≤ (n : Int) := by omega
  have n3 : ((i : Int) + 1).toNat = i + 1 := by omega
  have n4 : (i : Int) ≤ (n : Int) := by omega
  have n5 : (i : Int) ≤ (room : Int) := by omega
  have n6 : (i : Int) + 1 ≤ (room : Int) := by omega
  have n7 : (n : Int) ≤ (room : Int) := by omega
  have n8 : (0 : Int) ≤ (i : Int) + 1 := by omega
  have c0 : ¬ (room = i) := by omega
  go_upto_region 1 with (fail)
  generalize hW : w.alloc (.cells #[.int .u64 (x.r.k : Int), .int .i64 x.r.g, .int .i64 x.r.o, .int .i64 x.r.n, .bool x.n.lf, .slice x.n.A x.n.es.length x.n.c, .slice x.n.Q x.n.ks.length x.n.m, .int .i64 (x.p : Int)] 110) = W at bB kA ⊢
  have hpW : p < W.heap.size := Nat.lt_of_lt_of_le hp bB.size
  have x0' := (bB.cell (p := ⟨p, 0, none⟩) hp).trans x0
  clear x0
  have x0 := x0'
  clear x0' y0 y1 y2 y3 y4 y5 y6 y7
  obtain ⟨q, hq⟩ : ∃ q, w.heap.size = q := ⟨_, rfl⟩
  rw [hq] at kA ⊢
  have HQ := vers.lay hq
  have HW := vers.lay hW
  clear hq hW
  have hS1 : Below W.heap.size W W.drew := (Below.refl _ _).drew
  have hln : ∀ y : H, (l.take i ++ l.drop (i + 1) ++ [y]).length = n := fun y => by rw [HN.out]; simp; omega
  have HLN := vers.lay hln
  clear hln
  go_cut [] (fun wx => ∃ y : H, Hid (wx.ownsRow 0 110 8 (.slice (some ⟨g, 0, none⟩) n room) n (cellsH (l.take i ++ l.drop (i + 1) ++ [y]))) ∧ Hid (Keep (fun b => b = g) W wx))
  case first =>
    by_cases hc1 : room = i + 1
    · obtain rfl : n = i + 1 := by omega
      subst hc1
      have m1 : (i : Int) ≤ (i : Int) + 1 := by omega
      have m2 : (i : Int) < (i : Int) + 1 := by omega
      obtain ⟨w2, y, hcp, hrow, hk2⟩ := HC.out W.drew (bB.trans (hS1.mono bB.size)) ⟨g, 0, none⟩ (.inr rfl)
      rw [show i + 1 - i = 1 by omega, show i + 1 - (i + 1) = 0 by omega] at hcp
      rw [HLN.out] at hrow
      have HR := vers.lay hrow
      have HK2 := vers.lay (Keep.trans (S := fun b => b = g) (Keep.of_below hS1) hk2 fun _ h _ => h)
      clear HC hrow hk2
      refine mix.region_D (fun w' => Below W.heap.size W w') (fun j => j == 13) (by kernel_rfl) ?_
      refine mix.D_takeT (i := 0) (v := ?_) rfl (by kernel_rfl) (by kernel_rfl) (fun _ _ _ h => h) (Or.inl ⟨by first | rfl | simp [Region.wanted, yielded], ?_⟩) hS1 ?_
      rotate_left
      · intro w' hSw
        have z0 := (hSw.cell (p := ⟨p, 0, none⟩) hpW).trans x0
        try simp only [List.getElem_toArray, List.getElem_cons_zero, List.getElem_cons_succ]
        go_simp
        exact rfl
      try simp only [Act.put, List.setIfInBounds_toArray, List.set_cons_zero, List.set_cons_succ, List.getElem_toArray, List.getElem_cons_zero, List.getElem_cons_succ]
      refine mix.D_takeT (i := 1) (v := ?_) rfl (by kernel_rfl) (by kernel_rfl) (fun _ _ _ h => h) (Or.inl ⟨by first | rfl | simp [Region.wanted, yielded], ?_⟩) hS1 ?_
      rotate_left
      · intro w' hSw
        have z0 := (hSw.cell (p := ⟨p, 0, none⟩) hpW).trans x0
        try simp only [List.getElem_toArray, List.getElem_cons_zero, List.getElem_cons_succ]
        go_simp
        exact rfl
      try simp only [Act.put, List.setIfInBounds_toArray, List.set_cons_zero, List.set_cons_succ, List.getElem_toArray, List.getElem_cons_zero, List.getElem_cons_succ]
      refine mix.D_takeT (i := 2) (v := ?_) rfl (by kernel_rfl) (by kernel_rfl) (fun _ _ _ h => h) (Or.inl ⟨by first | rfl | simp [Region.wanted, yielded], ?_⟩) hS1 ?_
      rotate_left
      · intro w' hSw
        have z0 := (hSw.cell (p := ⟨p, 0, none⟩) hpW).trans x0
        try simp only [List.getElem_toArray, List.getElem_cons_zero, List.getElem_cons_succ]
        go_simp
        exact rfl
      try simp only [Act.put, List.setIfInBounds_toArray, List.set_cons_zero, List.set_cons_succ, List.getElem_toArray, List.getElem_cons_zero, List.getElem_cons_succ]
      refine mix.D_takeT (i := 3) (v := ?_) rfl (by kernel_rfl) (by kernel_rfl) (fun _ _ _ h => h) (Or.inl ⟨by first | rfl | simp [Region.wanted, yielded], ?_⟩) hS1 ?_
      rotate_left
      · intro w' hSw
        have z0 := (hSw.cell (p := ⟨p, 0, none⟩) hpW).trans x0
        try simp only [List.getElem_toArray, List.getElem_cons_zero, List.getElem_cons_succ]
        go_simp
        exact rfl
      try simp only [Act.put, List.setIfInBounds_toArray, List.set_cons_zero, List.set_cons_succ, List.getElem_toArray, List.getElem_cons_zero, List.getElem_cons_succ]
      refine mix.D_takeT (i := 4) (v := ?_) rfl (by kernel_rfl) (by kernel_rfl) (fun _ _ _ h => h) (Or.inl ⟨by first | rfl | simp [Region.wanted, yielded], ?_⟩) hS1 ?_
      rotate_left
      · intro w' hSw
        have z0 := (hSw.cell (p := ⟨p, 0, none⟩) hpW).trans x0
        try simp only [List.getElem_toArray, List.getElem_cons_zero, List.getElem_cons_succ]
        go_simp
        exact rfl
      try simp only [Act.put, List.setIfInBounds_toArray, List.set_cons_zero, List.set_cons_succ, List.getElem_toArray, List.getElem_cons_zero, List.getElem_cons_succ]
      refine mix.D_takeT (i := 5) (v := ?_) rfl (by kernel_rfl) (by kernel_rfl) (fun _ _ _ h => h) (Or.inl ⟨by first | rfl | simp [Region.wanted, yielded], ?_⟩) hS1 ?_
      rotate_left
      · intro w' hSw
        have z0 := (hSw.cell (p := ⟨p, 0, none⟩) hpW).trans x0
        try simp only [List.getElem_toArray, List.getElem_cons_zero, List.getElem_cons_succ]
        go_simp
        exact rfl
      try simp only [Act.put, List.setIfInBounds_toArray, List.set_cons_zero, List.set_cons_succ, List.getElem_toArray, List.getElem_cons_zero, List.getElem_cons_succ]
      refine mix.D_takeT (i := 6) (v := ?_) rfl (by kernel_rfl) (by kernel_rfl) (fun _ _ _ h => h) (Or.inl ⟨by first | rfl | simp [Region.wanted, yielded], ?_⟩) hS1 ?_
      rotate_left
      · intro w' hSw
        have z0 := (hSw.cell (p := ⟨p, 0, none⟩) hpW).trans x0
        try simp only [List.getElem_toArray, List.getElem_cons_zero, List.getElem_cons_succ]
        go_simp
        exact rfl
      try simp only [Act.put, List.setIfInBounds_toArray, List.set_cons_zero, List.set_cons_succ, List.getElem_toArray, List.getElem_cons_zero, List.getElem_cons_succ]
      refine mix.D_takeT (i := 7) (v := ?_) rfl (by kernel_rfl) (by kernel_rfl) (fun _ _ _ h => h) (Or.inl ⟨by first | rfl | simp [Region.wanted, yielded], ?_⟩) hS1 ?_
      rotate_left
      · intro w' hSw
        have z0 := (hSw.cell (p := ⟨p, 0, none⟩) hpW).trans x0
        try simp only [List.getElem_toArray, List.getElem_cons_zero, List.getElem_cons_succ]
        go_simp
        exact rfl
      try simp only [Act.put, List.setIfInBounds_toArray, List.set_cons_zero, List.set_cons_succ, List.getElem_toArray, List.getElem_cons_zero, List.getElem_cons_succ]
      refine mix.D_takeT (i := 8) (v := ?_) rfl (by kernel_rfl) (by kernel_rfl) (fun _ _ _ h => h) (Or.inl ⟨by first | rfl | simp [Region.wanted, yielded], ?_⟩) hS1 ?_
      rotate_left
      · intro w' hSw
        have z0 := (hSw.cell (p := ⟨p, 0, none⟩) hpW).trans x0
        try simp only [List.getElem_toArray, List.getElem_cons_zero, List.getElem_cons_succ]
        go_simp
        exact rfl
      try simp only [Act.put, List.setIfInBounds_toArray, List.set_cons_zero, List.set_cons_succ, List.getElem_toArray, List.getElem_cons_zero, List.getElem_cons_succ]
      refine mix.D_takeT (i := 9) (v := ?_) rfl (by kernel_rfl) (by kernel_rfl) (fun _ _ _ h => h) (Or.inl ⟨by first | rfl | simp [Region.wanted, yielded], ?_⟩) hS1 ?_
      rotate_left
      · intro w' hSw
        have z0 := (hSw.cell (p := ⟨p, 0, none⟩) hpW).trans x0
        try simp only [List.getElem_toArray, List.getElem_cons_zero, List.getElem_cons_succ]
        go_simp
        exact rfl
      try simp only [Act.put, List.setIfInBounds_toArray, List.set_cons_zero, List.set_cons_succ, List.getElem_toArray, List.getElem_cons_zero, List.getElem_cons_succ]
      refine mix.D_takeT (i := 10) (v := ?_) rfl (by kernel_rfl) (by kernel_rfl) (fun _ _ _ h => h) (Or.inl ⟨by first | rfl | simp [Region.wanted, yielded], ?_⟩) hS1 ?_
      rotate_left
      · intro w' hSw
        have z0 := (hSw.cell (p := ⟨p, 0, none⟩) hpW).trans x0
        try simp only [List.getElem_toArray, List.getElem_cons_zero, List.getElem_cons_succ]
        go_simp
        exact rfl
      try simp only [Act.put, List.setIfInBounds_toArray, List.set_cons_zero, List.set_cons_succ, List.getElem_toArray, List.getElem_cons_zero, List.getElem_cons_succ]
      refine mix.D_takeT (i := 11) (v := ?_) rfl (by kernel_rfl) (by kernel_rfl) (fun _ _ _ h => h) (Or.inl ⟨by first | rfl | simp [Region.wanted, yielded], ?_⟩) hS1 ?_
      rotate_left
      · intro w' hSw
        have z0 := (hSw.cell (p := ⟨p, 0, none⟩) hpW).trans x0
        try simp only [List.getElem_toArray, List.getElem_cons_zero, List.getElem_cons_succ]
        go_simp
        exact rfl
      try simp only [Act.put, List.setIfInBounds_toArray, List.set_cons_zero, List.set_cons_succ, List.getElem_toArray, List.getElem_cons_zero, List.getElem_cons_succ]
      refine mix.D_takeT (i := 12) (v := ?_) rfl (by kernel_rfl) (by kernel_rfl) (fun _ _ _ h => h) (Or.inl ⟨by first | rfl | simp [Region.wanted, yielded], ?_⟩) hS1 ?_
      rotate_left
      · intro w' hSw
        have z0 := (hSw.cell (p := ⟨p, 0, none⟩) hpW).trans x0
        try simp only [List.getElem_toArray, List.getElem_cons_zero, List.getElem_cons_succ]
        go_simp
        exact rfl
      try simp only [Act.put, List.setIfInBounds_toArray, List.set_cons_zero, List.set_cons_succ, List.getElem_toArray, List.getElem_cons_zero, List.getElem_cons_succ]
      refine mix.D_op (k := 13) rfl rfl (by kernel_rfl) (fun K' hK => ?_)
      simp only [List.getElem_toArray, List.getElem_cons_zero, List.getElem_cons_succ]
      refine wp_copy_run rfl _ _ 98 98 rfl _ _ (by simp [Act.eval, Act.put]) (by simp [Act.eval, Act.put]) hcp ?_
      refine hK.out _ _ (fun h => by simp at h) ?_
      clear hK K'
      try simp only [Act.put, List.setIfInBounds_toArray, List.set_cons_zero, List.set_cons_succ]
      refine mix.D_done (by kernel_rfl) ?_ _
      try simp only [Act.put, List.setIfInBounds_toArray, List.set_cons_zero, List.set_cons_succ, List.getElem_toArray, List.getElem_cons_zero, List.getElem_cons_succ]
      go_wp2_with fail
      go_meet
      exact ⟨y, HR, HK2⟩
    · obtain ⟨w2, y, hcp, hrow, hk2⟩ := HC.out W.drew (bB.trans (hS1.mono bB.size)) ⟨g, (i + 1) * 8, none⟩ (.inl rfl)
      rw [HLN.out] at hrow
      have HR := vers.lay hrow
      have HK2 := vers.lay (Keep.trans (S := fun b => b = g) (Keep.of_below hS1) hk2 fun _ h _ => h)
      clear HC hrow hk2
      refine mix.region_D (fun w' => Below W.heap.size W w') (fun j => j == 13) (by kernel_rfl) ?_
      refine mix.D_takeT (i := 0) (v := ?_) rfl (by kernel_rfl) (by kernel_rfl) (fun _ _ _ h => h) (Or.inl ⟨by first | rfl | simp [Region.wanted, yielded], ?_⟩) hS1 ?_
      rotate_left
      · intro w' hSw
        have z0 := (hSw.cell (p := ⟨p, 0, none⟩) hpW).trans x0
        try simp only [List.getElem_toArray, List.getElem_cons_zero, List.getElem_cons_succ]
        go_simp
        exact rfl
      try simp only [Act.put, List.setIfInBounds_toArray, List.set_cons_zero, List.set_cons_succ, List.getElem_toArray, List.getElem_cons_zero, List.getElem_cons_succ]
      refine mix.D_takeT (i := 1) (v := ?_) rfl (by kernel_rfl) (by kernel_rfl) (fun _ _ _ h => h) (Or.inl ⟨by first | rfl | simp [Region.wanted, yielded], ?_⟩) hS1 ?_
      rotate_left
      · intro w' hSw
        have z0 := (hSw.cell (p := ⟨p, 0, none⟩) hpW).trans x0
        try simp only [List.getElem_toArray, List.getElem_cons_zero, List.getElem_cons_succ]
        go_simp
        exact rfl
      try simp only [Act.put, List.setIfInBounds_toArray, List.set_cons_zero, List.set_cons_succ, List.getElem_toArray, List.getElem_cons_zero, List.getElem_cons_succ]
      refine mix.D_takeT (i := 2) (v := ?_) rfl (by kernel_rfl) (by kernel_rfl) (fun _ _ _ h => h) (Or.inl ⟨by first | rfl | simp [Region.wanted, yielded], ?_⟩) hS1 ?_
      rotate_left
      · intro w' hSw
        have z0 := (hSw.cell (p := ⟨p, 0, none⟩) hpW).trans x0
        try simp only [List.getElem_toArray, List.getElem_cons_zero, List.getElem_cons_succ]
        go_simp
        exact rfl
      try simp only [Act.put, List.setIfInBounds_toArray, List.set_cons_zero, List.set_cons_succ, List.getElem_toArray, List.getElem_cons_zero, List.getElem_cons_succ]
      refine mix.D_takeT (i := 3) (v := ?_) rfl (by kernel_rfl) (by kernel_rfl) (fun _ _ _ h => h) (Or.inl ⟨by first | rfl | simp [Region.wanted, yielded], ?_⟩) hS1 ?_
      rotate_left
      · intro w' hSw
        have z0 := (hSw.cell (p := ⟨p, 0, none⟩) hpW).trans x0
        try simp only [List.getElem_toArray, List.getElem_cons_zero, List.getElem_cons_succ]
        go_simp
        exact rfl
      try simp only [Act.put, List.setIfInBounds_toArray, List.set_cons_zero, List.set_cons_succ, List.getElem_toArray, List.getElem_cons_zero, List.getElem_cons_succ]
      refine mix.D_takeT (i := 4) (v := ?_) rfl (by kernel_rfl) (by kernel_rfl) (fun _ _ _ h => h) (Or.inl ⟨by first | rfl | simp [Region.wanted, yielded], ?_⟩) hS1 ?_
      rotate_left
      · intro w' hSw
        have z0 := (hSw.cell (p := ⟨p, 0, none⟩) hpW).trans x0
        try simp only [List.getElem_toArray, List.getElem_cons_zero, List.getElem_cons_succ]
        go_simp
        exact rfl
      try simp only [Act.put, List.setIfInBounds_toArray, List.set_cons_zero, List.set_cons_succ, List.getElem_toArray, List.getElem_cons_zero, List.getElem_cons_succ]
      refine mix.D_takeT (i := 5) (v := ?_) rfl (by kernel_rfl) (by kernel_rfl) (fun _ _ _ h => h) (Or.inl ⟨by first | rfl | simp [Region.wanted, yielded], ?_⟩) hS1 ?_
      rotate_left
      · intro w' hSw
        have z0 := (hSw.cell (p := ⟨p, 0, none⟩) hpW).trans x0
        try simp only [List.getElem_toArray, List.getElem_cons_zero, List.getElem_cons_succ]
        go_simp
        exact rfl
      try simp only [Act.put, List.setIfInBounds_toArray, List.set_cons_zero, List.set_cons_succ, List.getElem_toArray, List.getElem_cons_zero, List.getElem_cons_succ]
      refine mix.D_takeT (i := 6) (v := ?_) rfl (by kernel_rfl) (by kernel_rfl) (fun _ _ _ h => h) (Or.inl ⟨by first | rfl | simp [Region.wanted, yielded], ?_⟩) hS1 ?_
      rotate_left
      · intro w' hSw
        have z0 := (hSw.cell (p := ⟨p, 0, none⟩) hpW).trans x0
        try simp only [List.getElem_toArray, List.getElem_cons_zero, List.getElem_cons_succ]
        go_simp
        exact rfl
      try simp only [Act.put, List.setIfInBounds_toArray, List.set_cons_zero, List.set_cons_succ, List.getElem_toArray, List.getElem_cons_zero, List.getElem_cons_succ]
      refine mix.D_takeT (i := 7) (v := ?_) rfl (by kernel_rfl) (by kernel_rfl) (fun _ _ _ h => h) (Or.inl ⟨by first | rfl | simp [Region.wanted, yielded], ?_⟩) hS1 ?_
      rotate_left
      · intro w' hSw
        have z0 := (hSw.cell (p := ⟨p, 0, none⟩) hpW).trans x0
        try simp only [List.getElem_toArray, List.getElem_cons_zero, List.getElem_cons_succ]
        go_simp
        exact rfl
      try simp only [Act.put, List.setIfInBounds_toArray, List.set_cons_zero, List.set_cons_succ, List.getElem_toArray, List.getElem_cons_zero, List.getElem_cons_succ]
      refine mix.D_takeT (i := 8) (v := ?_) rfl (by kernel_rfl) (by kernel_rfl) (fun _ _ _ h => h) (Or.inl ⟨by first | rfl | simp [Region.wanted, yielded], ?_⟩) hS1 ?_
      rotate_left
      · intro w' hSw
        have z0 := (hSw.cell (p := ⟨p, 0, none⟩) hpW).trans x0
        try simp only [List.getElem_toArray, List.getElem_cons_zero, List.getElem_cons_succ]
        go_simp
        exact rfl
      try simp only [Act.put, List.setIfInBounds_toArray, List.set_cons_zero, List.set_cons_succ, List.getElem_toArray, List.getElem_cons_zero, List.getElem_cons_succ]
      refine mix.D_takeT (i := 9) (v := ?_) rfl (by kernel_rfl) (by kernel_rfl) (fun _ _ _ h => h) (Or.inl ⟨by first | rfl | simp [Region.wanted, yielded], ?_⟩) hS1 ?_
      rotate_left
      · intro w' hSw
        have z0 := (hSw.cell (p := ⟨p, 0, none⟩) hpW).trans x0
        try simp only [List.getElem_toArray, List.getElem_cons_zero, List.getElem_cons_succ]
        go_simp
        exact rfl
      try simp only [Act.put, List.setIfInBounds_toArray, List.set_cons_zero, List.set_cons_succ, List.getElem_toArray, List.getElem_cons_zero, List.getElem_cons_succ]
      refine mix.D_takeT (i := 10) (v := ?_) rfl (by kernel_rfl) (by kernel_rfl) (fun _ _ _ h => h) (Or.inl ⟨by first | rfl | simp [Region.wanted, yielded], ?_⟩) hS1 ?_
      rotate_left
      · intro w' hSw
        have z0 := (hSw.cell (p := ⟨p, 0, none⟩) hpW).trans x0
        try simp only [List.getElem_toArray, List.getElem_cons_zero, List.getElem_cons_succ]
        go_simp
        exact rfl
      try simp only [Act.put, List.setIfInBounds_toArray, List.set_cons_zero, List.set_cons_succ, List.getElem_toArray, List.getElem_cons_zero, List.getElem_cons_succ]
      refine mix.D_takeT (i := 11) (v := ?_) rfl (by kernel_rfl) (by kernel_rfl) (fun _ _ _ h => h) (Or.inl ⟨by first | rfl | simp [Region.wanted, yielded], ?_⟩) hS1 ?_
      rotate_left
      · intro w' hSw
        have z0 := (hSw.cell (p := ⟨p, 0, none⟩) hpW).trans x0
        try simp only [List.getElem_toArray, List.getElem_cons_zero, List.getElem_cons_succ]
        go_simp
        exact rfl
      try simp only [Act.put, List.setIfInBounds_toArray, List.set_cons_zero, List.set_cons_succ, List.getElem_toArray, List.getElem_cons_zero, List.getElem_cons_succ]
      refine mix.D_takeT (i := 12) (v := ?_) rfl (by kernel_rfl) (by kernel_rfl) (fun _ _ _ h => h) (Or.inl ⟨by first | rfl | simp [Region.wanted, yielded], ?_⟩) hS1 ?_
      rotate_left
      · intro w' hSw
        have z0 := (hSw.cell (p := ⟨p, 0, none⟩) hpW).trans x0
        try simp only [List.getElem_toArray, List.getElem_cons_zero, List.getElem_cons_succ]
        go_simp
        exact rfl
      try simp only [Act.put, List.setIfInBounds_toArray, List.set_cons_zero, List.set_cons_succ, List.getElem_toArray, List.getElem_cons_zero, List.getElem_cons_succ]
      refine mix.D_op (k := 13) rfl rfl (by kernel_rfl) (fun K' hK => ?_)
      simp only [List.getElem_toArray, List.getElem_cons_zero, List.getElem_cons_succ]
      refine wp_copy_run rfl _ _ 98 98 rfl _ _ (by simp [Act.eval, Act.put]) (by simp [Act.eval, Act.put]) hcp ?_
      refine hK.out _ _ (fun h => by simp at h) ?_
      clear hK K'
      try simp only [Act.put, List.setIfInBounds_toArray, List.set_cons_zero, List.set_cons_succ]
      refine mix.D_done (by kernel_rfl) ?_ _
      try simp only [Act.put, List.setIfInBounds_toArray, List.set_cons_zero, List.set_cons_succ, List.getElem_toArray, List.getElem_cons_zero, List.getElem_cons_succ]
      go_wp2_with fail
      go_meet
      exact ⟨y, HR, HK2⟩
  case rest =>
    obtain ⟨y, HR, HK2⟩ := hcut
    generalize wc = W2 at *
    clear wc
    have s2 := HK2.out.size
    have x2 := (HK2.out.cell (p := ⟨p, 0, none⟩) hpW (fun e => HH.out.ne e.symm)).trans x0
    have hgW : g < W.heap.size := Nat.lt_of_lt_of_le hg bB.size
    have kq := HK2.out.blk kA (fun e => by have := HQ.out; omega)
    have hpW2 := Nat.lt_of_lt_of_le hpW s2
    have hqW2 := kq.lt
    have q0 := kq.cell 0
    have q1 := kq.cell 1
    have q2 := kq.cell 2
    have q3 := kq.cell 3
    have q4 := kq.cell 4
    have q5 := kq.cell 5
    have q6 := kq.cell 6
    have q7 := kq.cell 7
    simp only [List.getElem?_toArray, List.getElem?_cons_zero, List.getElem?_cons_succ] at q0 q1 q2 q3 q4 q5 q6 q7
    obtain ⟨k, rfl⟩ : ∃ k, n = k + 1 := ⟨n - 1, by omega⟩
    have hrd := HR.out
    have hle : (l.take i ++ l.drop (i + 1)).length = k := by have := HLN.out y; simp at this; simp; omega
    have c := fun r (hr : r < 8) => (hrd.cellAt (k * 8 + r) (by omega)).trans (show _ = (y.cells)[r]? by
      rw [cellsH_app, List.getElem?_append_right (by rw [cellsH_len, hle]; omega), cellsH_len, hle, show k * 8 + r - k * 8 = r by omega, cellsH, cellsH, List.append_nil])
    have d0 := c 0 (by omega)
    have d1 := c 1 (by omega)
    have d2 := c 2 (by omega)
    have d3 := c 3 (by omega)
    have d4 := c 4 (by omega)
    have d5 := c 5 (by omega)
    have d6 := c 6 (by omega)
    have d7 := c 7 (by omega)
    have fz := fun r => hrd.frozenAt r
    clear hrd c
    have hS2 : Below W2.heap.size W2 W2.drew := (Below.refl _ _).drew
    have o1 : IntKind.i64.wrap ((k : Int) + 1 - 1) = (k : Int) := by rw [Int.add_sub_cancel]; exact IntWalk.i64_in _ (by omega)
    have o4 : IntKind.i64.wrap (k : Int) = (k : Int) := IntWalk.i64_in _ (by omega)
    have o2 : (0 : Int) ≤ (k : Int) := by omega
    have o3 : (k : Int) < (k : Int) + 1 := by omega
    have b0 : W2.drew.frozen? ⟨g, k * 8, none⟩ = false := fz (k * 8)
    have b1 : W2.drew.frozen? ⟨g, k * 8 + 1, none⟩ = false := fz (k * 8 + 1)
    have b2 : W2.drew.frozen? ⟨g, k * 8 + 2, none⟩ = false := fz (k * 8 + 2)
    have b3 : W2.drew.frozen? ⟨g, k * 8 + 3, none⟩ = false := fz (k * 8 + 3)
    have b4 : W2.drew.frozen? ⟨g, k * 8 + 4, none⟩ = false := fz (k * 8 + 4)
    have b5 : W2.drew.frozen? ⟨g, k * 8 + 5, none⟩ = false := fz (k * 8 + 5)
    have b6 : W2.drew.frozen? ⟨g, k * 8 + 6, none⟩ = false := fz (k * 8 + 6)
    have b7 : W2.drew.frozen? ⟨g, k * 8 + 7, none⟩ = false := fz (k * 8 + 7)
    have gW2 : g < W2.heap.size := Nat.lt_of_lt_of_le hgW s2
    have t0 := (hS2.cell (p := ⟨g, k * 8, none⟩) gW2).trans d0
    have t1 := (hS2.cell (p := ⟨g, k * 8 + 1, none⟩) gW2).trans d1
    have t2 := (hS2.cell (p := ⟨g, k * 8 + 2, none⟩) gW2).trans d2
    have t3 := (hS2.cell (p := ⟨g, k * 8 + 3, none⟩) gW2).trans d3
    have t4 := (hS2.cell (p := ⟨g, k * 8 + 4, none⟩) gW2).trans d4
    have t5 := (hS2.cell (p := ⟨g, k * 8 + 5, none⟩) gW2).trans d5
    have t6 := (hS2.cell (p := ⟨g, k * 8 + 6, none⟩) gW2).trans d6
    have t7 := (hS2.cell (p := ⟨g, k * 8 + 7, none⟩) gW2).trans d7
    simp only [H.cells, List.getElem?_cons_zero, List.getElem?_cons_succ] at t0 t1 t2 t3 t4 t5 t6 t7
    clear fz d0 d1 d2 d3 d4 d5 d6 d7
    have gWd : g < W2.drew.heap.size := gW2
    have hrw : W2.drew.ownsRow 0 110 8 (.slice (some ⟨g, 0, none⟩) (k + 1) room) (k + 1) (cellsH (l.take i ++ l.drop (i + 1) ++ [y])) := HR.out
    have HR2 := vers.lay hrw
    clear hrw HR
    go_upto_region 2 with (fail)
    refine mix.region_D (fun w' => Below W2.heap.size W2 w') (fun j => j == 12) (by kernel_rfl) ?_
    generalize W2.drew = Wd2 at *
    refine mix.D_takeT (i := 0) (v := ?_) rfl (by kernel_rfl) (by kernel_rfl) (fun _ _ _ h => h) (Or.inl ⟨by first | rfl | simp [Region.wanted, yielded], ?_⟩) hS2 ?_
    rotate_left
    · intro w' hSw
      have z0 := (hSw.cell (p := ⟨p, 0, none⟩) hpW2).trans x2
      have h9 := (hSw.cell (p := ⟨q, 0, none⟩) hqW2).trans q0
      have h9_1 := (hSw.cell (p := ⟨q, 1, none⟩) hqW2).trans q1
      have h9_2 := (hSw.cell (p := ⟨q, 2, none⟩) hqW2).trans q2
      have h9_3 := (hSw.cell (p := ⟨q, 3, none⟩) hqW2).trans q3
      have h9_4 := (hSw.cell (p := ⟨q, 4, none⟩) hqW2).trans q4
      have h9_5 := (hSw.cell (p := ⟨q, 5, none⟩) hqW2).trans q5
      have h9_6 := (hSw.cell (p := ⟨q, 6, none⟩) hqW2).trans q6
      have h9_7 := (hSw.cell (p := ⟨q, 7, none⟩) hqW2).trans q7
      try simp only [List.getElem_toArray, List.getElem_cons_zero, List.getElem_cons_succ]
      go_simp
      exact rfl
    try simp only [Act.put, List.setIfInBounds_toArray, List.set_cons_zero, List.set_cons_succ, List.getElem_toArray, List.getElem_cons_zero, List.getElem_cons_succ]
    refine mix.D_takeT (i := 1) (v := ?_) rfl (by kernel_rfl) (by kernel_rfl) (fun _ _ _ h => h) (Or.inl ⟨by first | rfl | simp [Region.wanted, yielded], ?_⟩) hS2 ?_
    rotate_left
    · intro w' hSw
      have z0 := (hSw.cell (p := ⟨p, 0, none⟩) hpW2).trans x2
      have h9 := (hSw.cell (p := ⟨q, 0, none⟩) hqW2).trans q0
      have h9_1 := (hSw.cell (p := ⟨q, 1, none⟩) hqW2).trans q1
      have h9_2 := (hSw.cell (p := ⟨q, 2, none⟩) hqW2).trans q2
      have h9_3 := (hSw.cell (p := ⟨q, 3, none⟩) hqW2).trans q3
      have h9_4 := (hSw.cell (p := ⟨q, 4, none⟩) hqW2).trans q4
      have h9_5 := (hSw.cell (p := ⟨q, 5, none⟩) hqW2).trans q5
      have h9_6 := (hSw.cell (p := ⟨q, 6, none⟩) hqW2).trans q6
      have h9_7 := (hSw.cell (p := ⟨q, 7, none⟩) hqW2).trans q7
      try simp only [List.getElem_toArray, List.getElem_cons_zero, List.getElem_cons_succ]
      go_simp
      exact rfl
    try simp only [Act.put, List.setIfInBounds_toArray, List.set_cons_zero, List.set_cons_succ, List.getElem_toArray, List.getElem_cons_zero, List.getElem_cons_succ]
    refine mix.D_takeT (i := 2) (v := ?_) rfl (by kernel_rfl) (by kernel_rfl) (fun _ _ _ h => h) (Or.inl ⟨by first | rfl | simp [Region.wanted, yielded], ?_⟩) hS2 ?_
    rotate_left
    · intro w' hSw
      have z0 := (hSw.cell (p := ⟨p, 0, none⟩) hpW2).trans x2
      have h9 := (hSw.cell (p := ⟨q, 0, none⟩) hqW2).trans q0
      have h9_1 := (hSw.cell (p := ⟨q, 1, none⟩) hqW2).trans q1
      have h9_2 := (hSw.cell (p := ⟨q, 2, none⟩) hqW2).trans q2
      have h9_3 := (hSw.cell (p := ⟨q, 3, none⟩) hqW2).trans q3
      have h9_4 := (hSw.cell (p := ⟨q, 4, none⟩) hqW2).trans q4
      have h9_5 := (hSw.cell (p := ⟨q, 5, none⟩) hqW2).trans q5
      have h9_6 := (hSw.cell (p := ⟨q, 6, none⟩) hqW2).trans q6
      have h9_7 := (hSw.cell (p := ⟨q, 7, none⟩) hqW2).trans q7
      try simp only [List.getElem_toArray, List.getElem_cons_zero, List.getElem_cons_succ]
      go_simp
      exact rfl
    try simp only [Act.put, List.setIfInBounds_toArray, List.set_cons_zero, List.set_cons_succ, List.getElem_toArray, List.getElem_cons_zero, List.getElem_cons_succ]
    refine mix.D_takeT (i := 3) (v := ?_) rfl (by kernel_rfl) (by kernel_rfl) (fun _ _ _ h => h) (Or.inl ⟨by first | rfl | simp [Region.wanted, yielded], ?_⟩) hS2 ?_
    rotate_left
    · intro w' hSw
      have z0 := (hSw.cell (p := ⟨p, 0, none⟩) hpW2).trans x2
      have h9 := (hSw.cell (p := ⟨q, 0, none⟩) hqW2).trans q0
      have h9_1 := (hSw.cell (p := ⟨q, 1, none⟩) hqW2).trans q1
      have h9_2 := (hSw.cell (p := ⟨q, 2, none⟩) hqW2).trans q2
      have h9_3 := (hSw.cell (p := ⟨q, 3, none⟩) hqW2).trans q3
      have h9_4 := (hSw.cell (p := ⟨q, 4, none⟩) hqW2).trans q4
      have h9_5 := (hSw.cell (p := ⟨q, 5, none⟩) hqW2).trans q5
      have h9_6 := (hSw.cell (p := ⟨q, 6, none⟩) hqW2).trans q6
      have h9_7 := (hSw.cell (p := ⟨q, 7, none⟩) hqW2).trans q7
      try simp only [List.getElem_toArray, List.getElem_cons_zero, List.getElem_cons_succ]
      go_simp
      exact rfl
    try simp only [Act.put, List.setIfInBounds_toArray, List.set_cons_zero, List.set_cons_succ, List.getElem_toArray, List.getElem_cons_zero, List.getElem_cons_succ]
    refine mix.D_takeT (i := 4) (v := ?_) rfl (by kernel_rfl) (by kernel_rfl) (fun _ _ _ h => h) (Or.inl ⟨by first | rfl | simp [Region.wanted, yielded], ?_⟩) hS2 ?_
    rotate_left
    · intro w' hSw
      have z0 := (hSw.cell (p := ⟨p, 0, none⟩) hpW2).trans x2
      have h9 := (hSw.cell (p := ⟨q, 0, none⟩) hqW2).trans q0
      have h9_1 := (hSw.cell (p := ⟨q, 1, none⟩) hqW2).trans q1
      have h9_2 := (hSw.cell (p := ⟨q, 2, none⟩) hqW2).trans q2
      have h9_3 := (hSw.cell (p := ⟨q, 3, none⟩) hqW2).trans q3
      have h9_4 := (hSw.cell (p := ⟨q, 4, none⟩) hqW2).trans q4
      have h9_5 := (hSw.cell (p := ⟨q, 5, none⟩) hqW2).trans q5
      have h9_6 := (hSw.cell (p := ⟨q, 6, none⟩) hqW2).trans q6
      have h9_7 := (hSw.cell (p := ⟨q, 7, none⟩) hqW2).trans q7
      try simp only [List.getElem_toArray, List.getElem_cons_zero, List.getElem_cons_succ]
      go_simp
      exact rfl
    try simp only [Act.put, List.setIfInBounds_toArray, List.set_cons_zero, List.set_cons_succ, List.getElem_toArray, List.getElem_cons_zero, List.getElem_cons_succ]
    refine mix.D_takeT (i := 5) (v := ?_) rfl (by kernel_rfl) (by kernel_rfl) (fun _ _ _ h => h) (Or.inl ⟨by first | rfl | simp [Region.wanted, yielded], ?_⟩) hS2 ?_
    rotate_left
    · intro w' hSw
      have z0 := (hSw.cell (p := ⟨p, 0, none⟩) hpW2).trans x2
      have h9 := (hSw.cell (p := ⟨q, 0, none⟩) hqW2).trans q0
      have h9_1 := (hSw.cell (p := ⟨q, 1, none⟩) hqW2).trans q1
      have h9_2 := (hSw.cell (p := ⟨q, 2, none⟩) hqW2).trans q2
      have h9_3 := (hSw.cell (p := ⟨q, 3, none⟩) hqW2).trans q3
      have h9_4 := (hSw.cell (p := ⟨q, 4, none⟩) hqW2).trans q4
      have h9_5 := (hSw.cell (p := ⟨q, 5, none⟩) hqW2).trans q5
      have h9_6 := (hSw.cell (p := ⟨q, 6, none⟩) hqW2).trans q6
      have h9_7 := (hSw.cell (p := ⟨q, 7, none⟩) hqW2).trans q7
      try simp only [List.getElem_toArray, List.getElem_cons_zero, List.getElem_cons_succ]
      go_simp
      exact rfl
    try simp only [Act.put, List.setIfInBounds_toArray, List.set_cons_zero, List.set_cons_succ, List.getElem_toArray, List.getElem_cons_zero, List.getElem_cons_succ]
    refine mix.D_takeT (i := 6) (v := ?_) rfl (by kernel_rfl) (by kernel_rfl) (fun _ _ _ h => h) (Or.inl ⟨by first | rfl | simp [Region.wanted, yielded], ?_⟩) hS2 ?_
    rotate_left
    · intro w' hSw
      have z0 := (hSw.cell (p := ⟨p, 0, none⟩) hpW2).trans x2
      have h9 := (hSw.cell (p := ⟨q, 0, none⟩) hqW2).trans q0
      have h9_1 := (hSw.cell (p := ⟨q, 1, none⟩) hqW2).trans q1
      have h9_2 := (hSw.cell (p := ⟨q, 2, none⟩) hqW2).trans q2
      have h9_3 := (hSw.cell (p := ⟨q, 3, none⟩) hqW2).trans q3
      have h9_4 := (hSw.cell (p := ⟨q, 4, none⟩) hqW2).trans q4
      have h9_5 := (hSw.cell (p := ⟨q, 5, none⟩) hqW2).trans q5
      have h9_6 := (hSw.cell (p := ⟨q, 6, none⟩) hqW2).trans q6
      have h9_7 := (hSw.cell (p := ⟨q, 7, none⟩) hqW2).trans q7
      try simp only [List.getElem_toArray, List.getElem_cons_zero, List.getElem_cons_succ]
      go_simp
      exact rfl
    try simp only [Act.put, List.setIfInBounds_toArray, List.set_cons_zero, List.set_cons_succ, List.getElem_toArray, List.getElem_cons_zero, List.getElem_cons_succ]
    refine mix.D_takeT (i := 7) (v := ?_) rfl (by kernel_rfl) (by kernel_rfl) (fun _ _ _ h => h) (Or.inl ⟨by first | rfl | simp [Region.wanted, yielded], ?_⟩) hS2 ?_
    rotate_left
    · intro w' hSw
      have z0 := (hSw.cell (p := ⟨p, 0, none⟩) hpW2).trans x2
      have h9 := (hSw.cell (p := ⟨q, 0, none⟩) hqW2).trans q0
      have h9_1 := (hSw.cell (p := ⟨q, 1, none⟩) hqW2).trans q1
      have h9_2 := (hSw.cell (p := ⟨q, 2, none⟩) hqW2).trans q2
      have h9_3 := (hSw.cell (p := ⟨q, 3, none⟩) hqW2).trans q3
      have h9_4 := (hSw.cell (p := ⟨q, 4, none⟩) hqW2).trans q4
      have h9_5 := (hSw.cell (p := ⟨q, 5, none⟩) hqW2).trans q5
      have h9_6 := (hSw.cell (p := ⟨q, 6, none⟩) hqW2).trans q6
      have h9_7 := (hSw.cell (p := ⟨q, 7, none⟩) hqW2).trans q7
      try simp only [List.getElem_toArray, List.getElem_cons_zero, List.getElem_cons_succ]
      go_simp
      exact rfl
    try simp only [Act.put, List.setIfInBounds_toArray, List.set_cons_zero, List.set_cons_succ, List.getElem_toArray, List.getElem_cons_zero, List.getElem_cons_succ]
    refine mix.D_takeT (i := 8) (v := ?_) rfl (by kernel_rfl) (by kernel_rfl) (fun _ _ _ h => h) (Or.inl ⟨by first | rfl | simp [Region.wanted, yielded], ?_⟩) hS2 ?_
    rotate_left
    · intro w' hSw
      have z0 := (hSw.cell (p := ⟨p, 0, none⟩) hpW2).trans x2
      have h9 := (hSw.cell (p := ⟨q, 0, none⟩) hqW2).trans q0
      have h9_1 := (hSw.cell (p := ⟨q, 1, none⟩) hqW2).trans q1
      have h9_2 := (hSw.cell (p := ⟨q, 2, none⟩) hqW2).trans q2
      have h9_3 := (hSw.cell (p := ⟨q, 3, none⟩) hqW2).trans q3
      have h9_4 := (hSw.cell (p := ⟨q, 4, none⟩) hqW2).trans q4
      have h9_5 := (hSw.cell (p := ⟨q, 5, none⟩) hqW2).trans q5
      have h9_6 := (hSw.cell (p := ⟨q, 6, none⟩) hqW2).trans q6
      have h9_7 := (hSw.cell (p := ⟨q, 7, none⟩) hqW2).trans q7
      try simp only [List.getElem_toArray, List.getElem_cons_zero, List.getElem_cons_succ]
      go_simp
      exact rfl
    try simp only [Act.put, List.setIfInBounds_toArray, List.set_cons_zero, List.set_cons_succ, List.getElem_toArray, List.getElem_cons_zero, List.getElem_cons_succ]
    refine mix.D_takeT (i := 9) (v := ?_) rfl (by kernel_rfl) (by kernel_rfl) (fun _ _ _ h => h) (Or.inl ⟨by first | rfl | simp [Region.wanted, yielded], ?_⟩) hS2 ?_
    rotate_left
    · intro w' hSw
      have z0 := (hSw.cell (p := ⟨p, 0, none⟩) hpW2).trans x2
      have h9 := (hSw.cell (p := ⟨q, 0, none⟩) hqW2).trans q0
      have h9_1 := (hSw.cell (p := ⟨q, 1, none⟩) hqW2).trans q1
      have h9_2 := (hSw.cell (p := ⟨q, 2, none⟩) hqW2).trans q2
      have h9_3 := (hSw.cell (p := ⟨q, 3, none⟩) hqW2).trans q3
      have h9_4 := (hSw.cell (p := ⟨q, 4, none⟩) hqW2).trans q4
      have h9_5 := (hSw.cell (p := ⟨q, 5, none⟩) hqW2).trans q5
      have h9_6 := (hSw.cell (p := ⟨q, 6, none⟩) hqW2).trans q6
      have h9_7 := (hSw.cell (p := ⟨q, 7, none⟩) hqW2).trans q7
      try simp only [List.getElem_toArray, List.getElem_cons_zero, List.getElem_cons_succ]
      go_simp
      exact rfl
    try simp only [Act.put, List.setIfInBounds_toArray, List.set_cons_zero, List.set_cons_succ, List.getElem_toArray, List.getElem_cons_zero, List.getElem_cons_succ]
    refine mix.D_takeT (i := 10) (v := ?_) rfl (by kernel_rfl) (by kernel_rfl) (fun _ _ _ h => h) (Or.inl ⟨by first | rfl | simp [Region.wanted, yielded], ?_⟩) hS2 ?_
    rotate_left
    · intro w' hSw
      have z0 := (hSw.cell (p := ⟨p, 0, none⟩) hpW2).trans x2
      have h9 := (hSw.cell (p := ⟨q, 0, none⟩) hqW2).trans q0
      have h9_1 := (hSw.cell (p := ⟨q, 1, none⟩) hqW2).trans q1
      have h9_2 := (hSw.cell (p := ⟨q, 2, none⟩) hqW2).trans q2
      have h9_3 := (hSw.cell (p := ⟨q, 3, none⟩) hqW2).trans q3
      have h9_4 := (hSw.cell (p := ⟨q, 4, none⟩) hqW2).trans q4
      have h9_5 := (hSw.cell (p := ⟨q, 5, none⟩) hqW2).trans q5
      have h9_6 := (hSw.cell (p := ⟨q, 6, none⟩) hqW2).trans q6
      have h9_7 := (hSw.cell (p := ⟨q, 7, none⟩) hqW2).trans q7
      try simp only [List.getElem_toArray, List.getElem_cons_zero, List.getElem_cons_succ]
      go_simp
      exact rfl
    try simp only [Act.put, List.setIfInBounds_toArray, List.set_cons_zero, List.set_cons_succ, List.getElem_toArray, List.getElem_cons_zero, List.getElem_cons_succ]
    refine mix.D_takeT (i := 11) (v := ?_) rfl (by kernel_rfl) (by kernel_rfl) (fun _ _ _ h => h) (Or.inl ⟨by first | rfl | simp [Region.wanted, yielded], ?_⟩) hS2 ?_
    rotate_left
    · intro w' hSw
      have z0 := (hSw.cell (p := ⟨p, 0, none⟩) hpW2).trans x2
      have h9 := (hSw.cell (p := ⟨q, 0, none⟩) hqW2).trans q0
      have h9_1 := (hSw.cell (p := ⟨q, 1, none⟩) hqW2).trans q1
      have h9_2 := (hSw.cell (p := ⟨q, 2, none⟩) hqW2).trans q2
      have h9_3 := (hSw.cell (p := ⟨q, 3, none⟩) hqW2).trans q3
      have h9_4 := (hSw.cell (p := ⟨q, 4, none⟩) hqW2).trans q4
      have h9_5 := (hSw.cell (p := ⟨q, 5, none⟩) hqW2).trans q5
      have h9_6 := (hSw.cell (p := ⟨q, 6, none⟩) hqW2).trans q6
      have h9_7 := (hSw.cell (p := ⟨q, 7, none⟩) hqW2).trans q7
      try simp only [List.getElem_toArray, List.getElem_cons_zero, List.getElem_cons_succ]
      go_simp
      exact rfl
    try simp only [Act.put, List.setIfInBounds_toArray, List.set_cons_zero, List.set_cons_succ, List.getElem_toArray, List.getElem_cons_zero, List.getElem_cons_succ]
    refine mix.D_op (k := 12) rfl rfl (by kernel_rfl) (fun K' hK => ?_)
    simp only [List.getElem_toArray, List.getElem_cons_zero, List.getElem_cons_succ]
    go_wp2_with fail
    refine hK.out _ _ (fun h => by simp at h) ?_
    clear hK K'
    try simp only [Act.put, List.setIfInBounds_toArray, List.set_cons_zero, List.set_cons_succ]
    refine mix.D_done (by kernel_rfl) ?_ _
    try simp only [Act.put, List.setIfInBounds_toArray, List.set_cons_zero, List.set_cons_succ, List.getElem_toArray, List.getElem_cons_zero, List.getElem_cons_succ]
    have hrw := HR2.out
    have hn1 := HLN.out y
    have hn2 := HLN.out x
    obtain ⟨a9, ha9⟩ : ∃ a9, a9 = l.take i ++ l.drop (i + 1) := ⟨_, rfl⟩
    rw [← ha9] at hrw hle hn1 hn2
    have hrw2 : Wd2.ownsRow 0 110 8 (.slice (some ⟨g, 0, none⟩) (a9 ++ [y]).length room) (a9 ++ [y]).length (cellsH (a9 ++ [y])) := by rw [hn1]; exact hrw
    obtain ⟨hF, kF⟩ := row_set8 a9 [] x y hrw2
    rw [hle] at hF kF
    have hmv : mvL l i = a9 ++ [x] := by rw [mvL_eq l (by rw [← HN.out]; exact hi), HX.out, ha9]
    have hK9 : Keep (fun b => b = g) w (set8 Wd2 g k (.int .u64 (x.r.k : Int)) (.int .i64 x.r.g) (.int .i64 x.r.o) (.int .i64 x.r.n) (.bool x.n.lf) (.slice x.n.A x.n.es.length x.n.c) (.slice x.n.Q x.n.ks.length x.n.m) (.int .i64 (x.p : Int))) := Keep.trans (S := fun b => b = g) (Keep.of_below bB) (((HK2.out).seq hS2).trans kF fun _ h _ => h) fun _ h _ => h
    have hfin := HH.out.perm hK9 (l' := mvL l i) (by rw [hmv]; exact hF) (mvL_len l (by rw [← HN.out]; exact hi)) (mvL_perm l (by rw [← HN.out]; exact hi))
    go_wp2_with fail
    refine bodyPost_end (v := .tuple #[]) (by simp [results, Try.results114, go_sem]) rfl ⟨rfl, hfin, hK9⟩
end
end Go.Proofs.Ytoenkkbcpafanaa.caches
