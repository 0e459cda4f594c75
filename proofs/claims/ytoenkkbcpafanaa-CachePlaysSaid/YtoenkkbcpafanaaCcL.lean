/- Cache's Drop, Holds. -/
import Derived.Test.YtoenkkbcpafanaaCcK


namespace Go.Proofs.Ytoenkkbcpafanaa.caches
set_option linter.unusedVariables false
set_option linter.unusedSimpArgs false
open Go.RowKit Go.Proofs.Ytoenkkbcpafanaa.base Go.Proofs.Ytoenkkbcpafanaa.vers Go.Proofs.Ytoenkkbcpafanaa.nodes Go.Proofs.Ytoenkkbcpafanaa.trees

/-! ### rows of references -/
def rcells (r : R) : List Value := [.int .u64 (r.k : Int), .int .i64 r.g, .int .i64 r.o, .int .i64 r.n]
def cellsQ : List R → List Value
  | [] => []
  | x :: l => rcells x ++ cellsQ l
theorem cellsQ_len : ∀ l : List R, (cellsQ l).length = l.length * 4
  | [] => rfl
  | x :: l => by rw [cellsQ, List.length_append, cellsQ_len l]; simp [rcells]; omega
theorem cellsQ_app : ∀ l m : List R, cellsQ (l ++ m) = cellsQ l ++ cellsQ m
  | [], m => rfl
  | x :: l, m => by rw [List.cons_append, cellsQ, cellsQ_app l m, cellsQ, List.append_assoc]
theorem cellsQ_one (l : List R) : ∀ u ∈ cellsQ l, u.oneCell' = true := by
  induction l with
  | nil => intro u h; cases h
  | cons x l ih =>
    intro u h
    rcases List.mem_append.1 h with h | h
    · simp [rcells] at h
      rcases h with rfl | rfl | rfl | rfl <;> rfl
    · exact ih u h
theorem cellsQ_at : ∀ (l : List R) {j : Nat} (hj : j < l.length), (cellsQ l)[j * 4]? = some (.int .u64 (l[j].k : Int)) ∧ (cellsQ l)[j * 4 + 1]? = some (.int .i64 l[j].g) ∧ (cellsQ l)[j * 4 + 2]? = some (.int .i64 l[j].o) ∧ (cellsQ l)[j * 4 + 3]? = some (.int .i64 l[j].n)
  | x :: l, 0, _ => ⟨rfl, rfl, rfl, rfl⟩
  | x :: l, j + 1, hj => by
    have ih := cellsQ_at l (j := j) (by simpa using hj)
    have hl : (rcells x).length = 4 := rfl
    have e : ∀ r, r < 4 → (cellsQ (x :: l))[(j + 1) * 4 + r]? = (cellsQ l)[j * 4 + r]? := fun r _ => by
      rw [cellsQ, List.getElem?_append_right (by rw [hl]; omega), hl, show (j + 1) * 4 + r - 4 = j * 4 + r by omega]
    exact ⟨(e 0 (by omega)).trans ih.1, (e 1 (by omega)).trans ih.2.1, (e 2 (by omega)).trans ih.2.2.1, (e 3 (by omega)).trans ih.2.2.2⟩
/-- references that are read, in blocks F -/
def QsF (w : World) (F : Nat → Prop) (l : List R) (A : Option Addr) (c : Nat) : Prop := l.length ≤ c ∧ (A = none → c = 0) ∧ RdF w F A (cellsQ l) ∧ l.length ≤ 1000
theorem QsF.agree {w w' : World} {F : Nat → Prop} {l : List R} {A : Option Addr} {c : Nat} (h : QsF w F l A c) (hk : Agree w w' F) : QsF w' F l A c := ⟨h.1, h.2.1, h.2.2.1.agree hk, h.2.2.2⟩
theorem QsF.at_ {w : World} {F : Nat → Prop} {l : List R} {A : Option Addr} {c : Nat} (h : QsF w F l A c) {j : Nat} (hj : j < l.length) : ∃ b off, A = some ⟨b, off, none⟩ ∧ F b ∧ w.cell? ⟨b, off + j * 4, none⟩ = some (.int .u64 (l[j].k : Int)) ∧ w.cell? ⟨b, off + j * 4 + 1, none⟩ = some (.int .i64 l[j].g) ∧ w.cell? ⟨b, off + j * 4 + 2, none⟩ = some (.int .i64 l[j].o) ∧ w.cell? ⟨b, off + j * 4 + 3, none⟩ = some (.int .i64 l[j].n) := by
  have hc := cellsQ_at l hj
  obtain ⟨b, off, e, hb, c0⟩ := h.2.2.1 _ _ hc.1
  have g : ∀ k u, (cellsQ l)[j * 4 + k]? = some u → w.cell? ⟨b, off + j * 4 + k, none⟩ = some u := fun k u hk => by
    obtain ⟨b', off', e', _, c⟩ := h.2.2.1 _ _ hk
    rw [e] at e'
    cases e'
    rw [show off + j * 4 + k = off + (j * 4 + k) by omega]
    exact c
  exact ⟨b, off, e, hb, c0, g 1 _ hc.2.1, g 2 _ hc.2.2.1, g 3 _ hc.2.2.2⟩
def drop1 (l : List PH) (r : R) : List PH := match atR l r with
  | none => l
  | some i => outL l i
def dropP (l : List PH) (rs : List R) : List PH := rs.foldl drop1 l
theorem dropP_next (l : List PH) (rs : List R) {j : Nat} (hj : j < rs.length) : dropP l (rs.take (j + 1)) = drop1 (dropP l (rs.take j)) rs[j] := by
  unfold dropP
  rw [List.take_succ_eq_append_getElem hj, List.foldl_append]
  rfl
theorem drop1_len (l : List PH) (r : R) : (drop1 l r).length ≤ l.length := by
  unfold drop1
  split
  · exact Nat.le_refl _
  · unfold outL; simp; omega
section
variable {w w' w2 : World} {p g room f m f' m' : Nat} {Z : Nat → Prop} {l l' : List H}
/-- where a Drop stands -/
structure DI (w : World) (p g : Nat) (Z : Nat → Prop) (room f m : Nat) (l : List H) (rs : List R) (j : Nat) (wr : World) (l' : List H) : Prop where
  ca : Ca wr p g Z room f m l'
  eq : l'.map H.ph = dropP (l.map H.ph) (rs.take j)
  keep : Keep Z w wr
set_option maxRecDepth 100000 in
set_option maxHeartbeats 4000000 in
theorem drop_ok (h : Ca w p g Z room f m l) (rs : List R) (A : Option Addr) (c : Nat) (F : Nat → Prop) (hq : QsF w F rs A c) (hF : ∀ b, F b → b < w.heap.size ∧ ¬ Z b) :
    Calls Try.prog 42 #[.pointer (some ⟨p, 0, none⟩), .slice A rs.length c] w fun e w' => ∃ l' : List H, e = .returned (.int .i64 ((l.length : Int) - (l'.length : Int))) ∧ l'.map H.ph = dropP (l.map H.ph) rs ∧ Ca w' p g Z room f m l' ∧ Keep Z w w' := by
  obtain ⟨hp, hg, x0, _, _, _⟩ := h.head
  have HI0 := vers.lay (show DI w p g Z room f m l rs 0 w l from ⟨h, rfl, Keep.refl _ _⟩)
  have hlen := h.len
  have hcap := h.cap
  have hrs := hq.2.2.2
  have HQ := vers.lay (fun w' (hk : Keep Z w w') => hq.agree (hk.agree hF))
  have HF := vers.lay hF
  clear h hq hF
  go_enter Try.func42, Try.ntmps42
  go_wp2_with fail
  clear x0 hp hg
  go_loopw [16] (fun i wr => ∃ (j : Nat) (l' : List H), i = .int .i64 (j : Int) ∧ j ≤ rs.length ∧ Hid (DI w p g Z room f m l rs j wr l')) (fun i _ => rs.length - (RowKit.intOf i).toNat)
  case atStart => exact ⟨0, l, rfl, Nat.zero_le _, HI0⟩
  case round =>
    clear HI0
    obtain ⟨j, l2, rfl, hj, HD⟩ := hrel
    by_cases hlt : j < rs.length
    · obtain ⟨b, off, rfl, hb, y0, y1, y2, y3⟩ := (HQ.out wr HD.out.keep).at_ hlt
      have hbl : b < wr.heap.size := Nat.lt_of_lt_of_le (HF.out b hb).1 HD.out.keep.size
      have HN := vers.lay (dropP_next (l.map H.ph) rs hlt)
      obtain ⟨r, hr⟩ : ∃ r, rs[j] = r := ⟨_, rfl⟩
      rw [hr] at y0 y1 y2 y3 HN
      clear hr hb
      obtain ⟨rk, rg, ro, rn⟩ := r
      simp only at y0 y1 y2 y3
      have b3 : Below wr.heap.size wr (wr.alloc (.cells #[.int .u64 (rk : Int), .int .i64 rg, .int .i64 ro, .int .i64 rn] 27)) := (Below.refl _ _).alloc (Nat.le_refl _) _
      have hf := find_ok (HD.out.ca.below b3) ⟨rk, rg, ro, rn⟩
      have HB3 := vers.lay b3
      clear b3
      obtain ⟨z, hz⟩ : ∃ z, atR (l2.map H.ph) ⟨rk, rg, ro, rn⟩ = z := ⟨_, rfl⟩
      rw [hz] at hf
      cases z with
      | none =>
        have d1 : oi (none : Option Nat) = (-1 : Int) := rfl
        rw [d1] at hf
        have HE := vers.lay (show l2.map H.ph = dropP (l.map H.ph) (rs.take (j + 1)) by rw [HN.out, ← HD.out.eq]; unfold drop1; rw [hz])
        clear d1 hz
        go_wp2_with (go_at_call 112; refine hf.mono ?_; rintro e1 w1 ⟨rfl, hb1⟩)
        have HD2 := vers.lay (show DI w p g Z room f m l rs (j + 1) w1 l2 from ⟨(HD.out.ca.below HB3.out).below hb1, HE.out, (HD.out.keep.seq HB3.out).seq hb1⟩)
        exact ⟨⟨j + 1, l2, by go_num, hlt, HD2⟩, by first | (simp [RowKit.intOf]; done) | (simp [RowKit.intOf]; omega) | omega⟩
      | some i =>
        have d1 : oi (some i) = (i : Int) := rfl
        rw [d1] at hf
        have hi : i < l2.length := by obtain ⟨h, _⟩ := atR_lt hz; simpa using h
        have HE := vers.lay (show (outL l2 i).map H.ph = dropP (l.map H.ph) (rs.take (j + 1)) by rw [HN.out, ← HD.out.eq]; unfold drop1; rw [hz, outL_map])
        have i0 : decide (0 ≤ (i : Int)) = true := decide_eq_true (by omega)
        have HW := vers.lay (fun w' (hc : Ca w' p g Z room f m l2) => wipe_ok hc hi)
        clear d1 hz hi
        go_upto_region 6 with (go_at_call 112; refine hf.mono ?_; rintro e1 w1 ⟨rfl, hb1⟩)
        have hw := HW.out w1 ((HD.out.ca.below HB3.out).below hb1)
        have HK1 := vers.lay ((HD.out.keep.seq HB3.out).seq hb1)
        clear hb1
        go_wp2_with (go_at_call 119; refine hw.mono ?_; rintro e2 w2 ⟨rfl, h2, k2⟩)
        have HD2 := vers.lay (show DI w p g Z room f m l rs (j + 1) w2 (outL l2 i) from ⟨h2, HE.out, HK1.out.trans k2 fun _ h _ => h⟩)
        exact ⟨⟨j + 1, outL l2 i, by go_num, hlt, HD2⟩, by first | (simp [RowKit.intOf]; done) | (simp [RowKit.intOf]; omega) | omega⟩
    · obtain rfl : j = rs.length := by omega
      obtain ⟨hp, hg, x0, _, _, _⟩ := HD.out.ca.head
      have hl2 := HD.out.ca.len
      have e9 : IntKind.i64.wrap ((l.length : Int) - (l2.length : Int)) = (l.length : Int) - (l2.length : Int) := IntWalk.i64_in _ (by omega)
      have HE := vers.lay (show l2.map H.ph = dropP (l.map H.ph) rs by have := HD.out.eq; rw [List.take_length] at this; exact this)
      go_wp2_with fail
      go_ret
      exact ⟨l2, rfl, HE.out, HD.out.ca, HD.out.keep⟩

/-- what is told: a row of its own, its nodes apart from it -/
def HeldF (w : World) (F : Nat → Prop) (v : Value) (l : List H) : Prop := w.ownsRow 0 110 8 v l.length (cellsH l) ∧ (∀ b, v.ownBlock = some b → F b) ∧ ∀ x ∈ l, OwnNF w (fun b => F b ∧ v.ownBlock ≠ some b) x.n
theorem HeldF.agree {F : Nat → Prop} {v : Value} (h : HeldF w F v l) (hk : Agree w w' F) : HeldF w' F v l := ⟨ownsRow_agree h.1 fun b hb => hk b (h.2.1 b hb), h.2.1, fun x hx => (h.2.2 x hx).agree (hk.mono fun b hb => hb.1)⟩
theorem HeldF.mono {F G : Nat → Prop} {v : Value} (h : HeldF w F v l) (hF : ∀ b, F b → G b) : HeldF w G v l := ⟨h.1, fun b hb => hF b (h.2.1 b hb), fun x hx => (h.2.2 x hx).mono fun b hb => ⟨hF b hb.1, hb.2⟩⟩
/-- where Holds stands -/
structure HoI (w : World) (l : List H) (j : Nat) (v : Value) (wr : World) (l' : List H) : Prop where
  below : Below w.heap.size w wr
  len : l'.length = j
  eq : l'.map H.ph = (l.take j).map H.ph
  held : HeldF wr (fun b => w.heap.size ≤ b ∧ b < wr.heap.size) v l'
theorem HoI.grow {wr Wd w9 w10 : World} {j : Nat} {v v' : Value} {r : R} {y : N} {pn : Nat} {G : Nat → Prop} (h : HoI w l j v wr l') (hj : j < l.length) (hb : Below wr.heap.size wr Wd) (hb9 : Below Wd.heap.size Wd w9) (hy : OwnNF w9 (fun b => Wd.heap.size ≤ b ∧ b < w9.heap.size) y) (he : (r, y.p, pn) = l[j].ph)
    (ho : w10.ownsRow 0 110 8 v' (l'.length + 1) (cellsH l' ++ (⟨r, y, pn, G⟩ : H).cells)) (hk : Keep (fun b => v.ownBlock = some b) w9 w10) (hv : ∀ b, v'.ownBlock = some b → v.ownBlock = some b ∨ (w9.heap.size ≤ b ∧ b < w10.heap.size)) :
    HoI w l (j + 1) v' w10 (l' ++ [⟨r, y, pn, G⟩]) := by
  have s0 := h.below.size
  have s1 := hb.size
  have s2 := hb9.size
  have s3 := hk.size
  have hvb := h.held.2.1
  refine ⟨(h.below.trans ((hb.trans (hb9.mono s1)).mono s0)).trans (hk.below (fun b hb => (hvb b hb).1) (by omega)), by simp [h.len], ?_, ?_, fun b hb => ?_, fun x hx => ?_⟩
  · rw [List.map_append, h.eq, List.take_succ_eq_append_getElem hj, List.map_append, List.map_singleton, List.map_singleton, ← he]; rfl
  · rw [List.length_append, List.length_singleton, cellsH_app]
    simpa [cellsH] using ho
  · rcases hv b hb with e | e
    · have := hvb b e; omega
    · omega
  · rcases List.mem_append.1 hx with hx | hx
    · refine ((h.held.2.2 x hx).agree (w' := w10) fun b hb' => ?_).mono fun b hb' => ⟨⟨hb'.1.1, by have := hb'.1.2; omega⟩, fun e => ?_⟩
      · exact (hk.block b (by have := hb'.1.2; omega) hb'.2).trans ((hb9.block b (by have := hb'.1.2; omega)).trans (hb.block b hb'.1.2))
      · rcases hv b e with e1 | e1
        · exact hb'.2 e1
        · have := hb'.1.2; omega
    · rw [List.mem_singleton.1 hx]
      refine (hy.agree (w' := w10) fun b hb' => hk.block b hb'.2 fun e => by have := hvb b e; have := hb'.1; omega).mono fun b hb' => ⟨⟨by have := hb'.1; omega, by have := hb'.2; omega⟩, fun e => ?_⟩
      rcases hv b e with e1 | e1
      · have := hvb b e1; have := hb'.1; omega
      · have := hb'.2; omega

set_option maxRecDepth 100000 in
set_option maxHeartbeats 4000000 in
theorem holds_ok (h : Ca w p g Z room f m l) :
    Calls Try.prog 47 #[.pointer (some ⟨p, 0, none⟩)] w fun e w' => ∃ (v : Value) (l' : List H), e = .returned v ∧ l'.map H.ph = l.map H.ph ∧ HeldF w' (fun b => w.heap.size ≤ b ∧ b < w'.heap.size) v l' ∧ Below w.heap.size w w' := by
  obtain ⟨hp, hg, x0, _, _, _⟩ := h.head
  have hlen := h.len
  have hcap := h.cap
  have HI0 := vers.lay (show HoI w l 0 (.slice none 0 0) w [] from ⟨Below.refl _ _, rfl, rfl, ⟨rfl, .inl ⟨rfl, rfl⟩⟩, (fun b hb => by simp [Value.ownBlock] at hb), fun x hx => by cases hx⟩)
  have HH := vers.lay h
  obtain ⟨i0, hi0, hz0, hz1, hz2⟩ := info_parts infoH
  clear h
  go_enter Try.func47, Try.ntmps47
  go_wp2_with fail
  clear x0 hp hg
  go_loopw [3, 11] (fun vv i wr => ∃ (j : Nat) (l' : List H), i = .int .i64 (j : Int) ∧ j ≤ l.length ∧ Hid (HoI w l j vv wr l')) (fun _ i _ => l.length - (RowKit.intOf i).toNat)
  case atStart => exact ⟨0, [], rfl, Nat.zero_le _, HI0⟩
  case round =>
    clear HI0
    obtain ⟨j, l2, rfl, hj, HD⟩ := hrel
    generalize u3 = v at *
    by_cases hlt : j < l.length
    · obtain ⟨y0, y1, y2, y3, y4, y5, y6, y7⟩ := (HH.out.below HD.out.below).at_ hlt
      have hgl := (HH.out.below HD.out.below).head.2.1
      have hNd := (HH.out.below HD.out.below).node _ (List.getElem_mem hlt)
      have hNs0 := hNd.1.ns.mono (G := fun b => b < w.heap.size) fun b hb => HH.out.zlt b (hNd.2 b hb).1
      have HL2 := HD.out.len
      have hlt9 := hlt
      obtain ⟨x9, hx9⟩ : ∃ x9, l[j]'hlt9 = x9 := ⟨_, rfl⟩
      rw [hx9] at y0 y1 y2 y3 y4 y5 y6 y7 hNs0
      obtain ⟨⟨rk, rg, ro, rn⟩, ⟨lf, es, ks, A, c, Q, q⟩, pn, xF⟩ := x9
      have HYL := vers.lay (show l[j]'hlt9 = _ from hx9)
      clear hx9 hNd
      simp only at y0 y1 y2 y3 y4 y5 y6 y7 hNs0
      have b3 : Below wr.heap.size wr (wr.alloc (.cells #[.int .u64 (rk : Int), .int .i64 rg, .int .i64 ro, .int .i64 rn, .bool lf, .slice A es.length c, .slice Q ks.length q, .int .i64 (pn : Int)] 110)) := (Below.refl _ _).alloc (Nat.le_refl _) _
      have kA := Blk.new wr 110 #[.int .u64 (rk : Int), .int .i64 rg, .int .i64 ro, .int .i64 rn, .bool lf, .slice A es.length c, .slice Q ks.length q, .int .i64 (pn : Int)]
      go_upto_region 5 with (fail)
      generalize hW : wr.alloc (.cells #[.int .u64 (rk : Int), .int .i64 rg, .int .i64 ro, .int .i64 rn, .bool lf, .slice A es.length c, .slice Q ks.length q, .int .i64 (pn : Int)] 110) = W at b3 kA ⊢
      obtain ⟨q0, hq0⟩ : ∃ q0, wr.heap.size = q0 := ⟨_, rfl⟩
      rw [hq0] at kA ⊢
      have HQ0 := vers.lay hq0
      clear hW hq0 y0 y1 y2 y3 y4 y5 y6 y7
      obtain ⟨b0, b1, b2, b3q, b4, b5, b6, b7⟩ : W.cell? ⟨q0, 0, none⟩ = _ ∧ W.cell? ⟨q0, 1, none⟩ = _ ∧ W.cell? ⟨q0, 2, none⟩ = _ ∧ W.cell? ⟨q0, 3, none⟩ = _ ∧ W.cell? ⟨q0, 4, none⟩ = _ ∧ W.cell? ⟨q0, 5, none⟩ = _ ∧ W.cell? ⟨q0, 6, none⟩ = _ ∧ W.cell? ⟨q0, 7, none⟩ = _ := ⟨kA.cell 0, kA.cell 1, kA.cell 2, kA.cell 3, kA.cell 4, kA.cell 5, kA.cell 6, kA.cell 7⟩
      simp only [List.getElem?_toArray, List.getElem?_cons_zero, List.getElem?_cons_succ] at b0 b1 b2 b3q b4 b5 b6 b7
      have hqW := kA.lt
      have hqv : ¬ v.ownBlock = some q0 := fun e => by have := (HD.out.held.2.1 _ e).2; have := HQ0.out; omega
      have HBd := vers.lay (b3.trans (((Below.refl W.heap.size W).drew).mono b3.size))
      have hS9 : Keep (fun b => v.ownBlock = some b) W W.drew := Keep.of_below ((Below.refl W.heap.size W).drew)
      have hNs : NsF W (fun b => b < w.heap.size) ⟨lf, es, ks, A, c, Q, q⟩ := hNs0.agree fun b hb => b3.block b (Nat.lt_of_lt_of_le hb HD.out.below.size)
      have hAg : ∀ w', Keep (fun b => v.ownBlock = some b) W w' → Agree W w' (fun b => b < w.heap.size) := fun w' hk => hk.agree fun b hb => ⟨by have := HD.out.below.size; have := b3.size; omega, fun e => by have := (HD.out.held.2.1 _ e).1; omega⟩
      have HRW := vers.lay (fun (w9 : World) (h1 : Below wr.heap.size wr W.drew) (h2 : Below W.drew.heap.size W.drew w9) b (hb : v.ownBlock = some b) => (h2.block b (Nat.lt_of_lt_of_le (HD.out.held.2.1 b hb).2 h1.size)).trans (h1.block b (HD.out.held.2.1 b hb).2))
      have HJ := vers.lay hlt9
      clear kA b3 hNs0
      refine mix.region_D (fun w' => Keep (fun b => v.ownBlock = some b) W w') (fun _ => false) (by kernel_rfl) ?_
      generalize W.drew = Wd at *
      refine mix.D_takeT (i := 0) (v := ?_) rfl (by kernel_rfl) (by kernel_rfl) (fun _ _ _ h => h) (Or.inl ⟨by first | rfl | simp [Region.wanted, yielded], ?_⟩) hS9 ?_
      rotate_left
      · intro w' hSw
        have a0 := (hSw.cell (p := ⟨q0, 0, none⟩) hqW hqv).trans b0
        have a1 := (hSw.cell (p := ⟨q0, 1, none⟩) hqW hqv).trans b1
        have a2 := (hSw.cell (p := ⟨q0, 2, none⟩) hqW hqv).trans b2
        have a3 := (hSw.cell (p := ⟨q0, 3, none⟩) hqW hqv).trans b3q
        have a4 := (hSw.cell (p := ⟨q0, 4, none⟩) hqW hqv).trans b4
        have a5 := (hSw.cell (p := ⟨q0, 5, none⟩) hqW hqv).trans b5
        have a6 := (hSw.cell (p := ⟨q0, 6, none⟩) hqW hqv).trans b6
        have a7 := (hSw.cell (p := ⟨q0, 7, none⟩) hqW hqv).trans b7
        try simp only [List.getElem_toArray, List.getElem_cons_zero, List.getElem_cons_succ]
        go_simp
        exact rfl
      try simp only [Act.put, List.setIfInBounds_toArray, List.set_cons_zero, List.set_cons_succ, List.getElem_toArray, List.getElem_cons_zero, List.getElem_cons_succ]
      refine mix.D_takeT (i := 1) (v := ?_) rfl (by kernel_rfl) (by kernel_rfl) (fun _ _ _ h => h) (Or.inl ⟨by first | rfl | simp [Region.wanted, yielded], ?_⟩) hS9 ?_
      rotate_left
      · intro w' hSw
        have a0 := (hSw.cell (p := ⟨q0, 0, none⟩) hqW hqv).trans b0
        have a1 := (hSw.cell (p := ⟨q0, 1, none⟩) hqW hqv).trans b1
        have a2 := (hSw.cell (p := ⟨q0, 2, none⟩) hqW hqv).trans b2
        have a3 := (hSw.cell (p := ⟨q0, 3, none⟩) hqW hqv).trans b3q
        have a4 := (hSw.cell (p := ⟨q0, 4, none⟩) hqW hqv).trans b4
        have a5 := (hSw.cell (p := ⟨q0, 5, none⟩) hqW hqv).trans b5
        have a6 := (hSw.cell (p := ⟨q0, 6, none⟩) hqW hqv).trans b6
        have a7 := (hSw.cell (p := ⟨q0, 7, none⟩) hqW hqv).trans b7
        try simp only [List.getElem_toArray, List.getElem_cons_zero, List.getElem_cons_succ]
        go_simp
        exact rfl
      try simp only [Act.put, List.setIfInBounds_toArray, List.set_cons_zero, List.set_cons_succ, List.getElem_toArray, List.getElem_cons_zero, List.getElem_cons_succ]
      refine mix.D_takeT (i := 2) (v := ?_) rfl (by kernel_rfl) (by kernel_rfl) (fun _ _ _ h => h) (Or.inl ⟨by first | rfl | simp [Region.wanted, yielded], ?_⟩) hS9 ?_
      rotate_left
      · intro w' hSw
        have a0 := (hSw.cell (p := ⟨q0, 0, none⟩) hqW hqv).trans b0
        have a1 := (hSw.cell (p := ⟨q0, 1, none⟩) hqW hqv).trans b1
        have a2 := (hSw.cell (p := ⟨q0, 2, none⟩) hqW hqv).trans b2
        have a3 := (hSw.cell (p := ⟨q0, 3, none⟩) hqW hqv).trans b3q
        have a4 := (hSw.cell (p := ⟨q0, 4, none⟩) hqW hqv).trans b4
        have a5 := (hSw.cell (p := ⟨q0, 5, none⟩) hqW hqv).trans b5
        have a6 := (hSw.cell (p := ⟨q0, 6, none⟩) hqW hqv).trans b6
        have a7 := (hSw.cell (p := ⟨q0, 7, none⟩) hqW hqv).trans b7
        try simp only [List.getElem_toArray, List.getElem_cons_zero, List.getElem_cons_succ]
        go_simp
        exact rfl
      try simp only [Act.put, List.setIfInBounds_toArray, List.set_cons_zero, List.set_cons_succ, List.getElem_toArray, List.getElem_cons_zero, List.getElem_cons_succ]
      refine mix.D_takeT (i := 3) (v := ?_) rfl (by kernel_rfl) (by kernel_rfl) (fun _ _ _ h => h) (Or.inl ⟨by first | rfl | simp [Region.wanted, yielded], ?_⟩) hS9 ?_
      rotate_left
      · intro w' hSw
        have a0 := (hSw.cell (p := ⟨q0, 0, none⟩) hqW hqv).trans b0
        have a1 := (hSw.cell (p := ⟨q0, 1, none⟩) hqW hqv).trans b1
        have a2 := (hSw.cell (p := ⟨q0, 2, none⟩) hqW hqv).trans b2
        have a3 := (hSw.cell (p := ⟨q0, 3, none⟩) hqW hqv).trans b3q
        have a4 := (hSw.cell (p := ⟨q0, 4, none⟩) hqW hqv).trans b4
        have a5 := (hSw.cell (p := ⟨q0, 5, none⟩) hqW hqv).trans b5
        have a6 := (hSw.cell (p := ⟨q0, 6, none⟩) hqW hqv).trans b6
        have a7 := (hSw.cell (p := ⟨q0, 7, none⟩) hqW hqv).trans b7
        try simp only [List.getElem_toArray, List.getElem_cons_zero, List.getElem_cons_succ]
        go_simp
        exact rfl
      try simp only [Act.put, List.setIfInBounds_toArray, List.set_cons_zero, List.set_cons_succ, List.getElem_toArray, List.getElem_cons_zero, List.getElem_cons_succ]
      refine mix.D_takeT (i := 4) (v := ?_) rfl (by kernel_rfl) (by kernel_rfl) (fun _ _ _ h => h) (Or.inl ⟨by first | rfl | simp [Region.wanted, yielded], ?_⟩) hS9 ?_
      rotate_left
      · intro w' hSw
        have a0 := (hSw.cell (p := ⟨q0, 0, none⟩) hqW hqv).trans b0
        have a1 := (hSw.cell (p := ⟨q0, 1, none⟩) hqW hqv).trans b1
        have a2 := (hSw.cell (p := ⟨q0, 2, none⟩) hqW hqv).trans b2
        have a3 := (hSw.cell (p := ⟨q0, 3, none⟩) hqW hqv).trans b3q
        have a4 := (hSw.cell (p := ⟨q0, 4, none⟩) hqW hqv).trans b4
        have a5 := (hSw.cell (p := ⟨q0, 5, none⟩) hqW hqv).trans b5
        have a6 := (hSw.cell (p := ⟨q0, 6, none⟩) hqW hqv).trans b6
        have a7 := (hSw.cell (p := ⟨q0, 7, none⟩) hqW hqv).trans b7
        try simp only [List.getElem_toArray, List.getElem_cons_zero, List.getElem_cons_succ]
        go_simp
        exact rfl
      try simp only [Act.put, List.setIfInBounds_toArray, List.set_cons_zero, List.set_cons_succ, List.getElem_toArray, List.getElem_cons_zero, List.getElem_cons_succ]
      refine mix.D_takeT (i := 6) (v := ?_) rfl (by kernel_rfl) (by kernel_rfl) (fun _ _ _ h => h) (Or.inl ⟨by first | rfl | simp [Region.wanted, yielded], ?_⟩) hS9 ?_
      rotate_left
      · intro w' hSw
        have a0 := (hSw.cell (p := ⟨q0, 0, none⟩) hqW hqv).trans b0
        have a1 := (hSw.cell (p := ⟨q0, 1, none⟩) hqW hqv).trans b1
        have a2 := (hSw.cell (p := ⟨q0, 2, none⟩) hqW hqv).trans b2
        have a3 := (hSw.cell (p := ⟨q0, 3, none⟩) hqW hqv).trans b3q
        have a4 := (hSw.cell (p := ⟨q0, 4, none⟩) hqW hqv).trans b4
        have a5 := (hSw.cell (p := ⟨q0, 5, none⟩) hqW hqv).trans b5
        have a6 := (hSw.cell (p := ⟨q0, 6, none⟩) hqW hqv).trans b6
        have a7 := (hSw.cell (p := ⟨q0, 7, none⟩) hqW hqv).trans b7
        try simp only [List.getElem_toArray, List.getElem_cons_zero, List.getElem_cons_succ]
        go_simp
        exact rfl
      try simp only [Act.put, List.setIfInBounds_toArray, List.set_cons_zero, List.set_cons_succ, List.getElem_toArray, List.getElem_cons_zero, List.getElem_cons_succ]
      refine mix.D_takeT (i := 7) (v := ?_) rfl (by kernel_rfl) (by kernel_rfl) (fun _ _ _ h => h) (Or.inl ⟨by first | rfl | simp [Region.wanted, yielded], ?_⟩) hS9 ?_
      rotate_left
      · intro w' hSw
        have a0 := (hSw.cell (p := ⟨q0, 0, none⟩) hqW hqv).trans b0
        have a1 := (hSw.cell (p := ⟨q0, 1, none⟩) hqW hqv).trans b1
        have a2 := (hSw.cell (p := ⟨q0, 2, none⟩) hqW hqv).trans b2
        have a3 := (hSw.cell (p := ⟨q0, 3, none⟩) hqW hqv).trans b3q
        have a4 := (hSw.cell (p := ⟨q0, 4, none⟩) hqW hqv).trans b4
        have a5 := (hSw.cell (p := ⟨q0, 5, none⟩) hqW hqv).trans b5
        have a6 := (hSw.cell (p := ⟨q0, 6, none⟩) hqW hqv).trans b6
        have a7 := (hSw.cell (p := ⟨q0, 7, none⟩) hqW hqv).trans b7
        try simp only [List.getElem_toArray, List.getElem_cons_zero, List.getElem_cons_succ]
        go_simp
        exact rfl
      try simp only [Act.put, List.setIfInBounds_toArray, List.set_cons_zero, List.set_cons_succ, List.getElem_toArray, List.getElem_cons_zero, List.getElem_cons_succ]
      refine mix.D_op (k := 5) rfl rfl (by kernel_rfl) (fun K' hK => ?_)
      simp only [List.getElem_toArray, List.getElem_cons_zero, List.getElem_cons_succ]
      have hEs := (hNs.agree (hAg _ hS9)).1.es
      have hKs := (hNs.agree (hAg _ hS9)).2.ks
      go_wp2_with fail
      refine (copied_any lf es ks A c Q q Wd hEs hKs).mono ?_
      rintro e w9 ⟨y9, rfl, hy9p, hy9, hb9⟩
      have hs9 : Keep (fun b => v.ownBlock = some b) W w9 := hS9.seq hb9
      have HY := vers.lay hy9
      have HYP := vers.lay hy9p
      have HB9 := vers.lay hb9
      clear hy9 hy9p hb9 hEs hKs
      refine hK.out _ _ (fun _ => hs9) ?_
      clear hK K'
      try simp only [Act.put, List.setIfInBounds_toArray, List.set_cons_zero, List.set_cons_succ]
      refine mix.D_takeT (i := 8) (v := ?_) rfl (by kernel_rfl) (by kernel_rfl) (fun _ _ _ h => h) (Or.inl ⟨by first | rfl | simp [Region.wanted, yielded], ?_⟩) hs9 ?_
      rotate_left
      · intro w' hSw
        have a0 := (hSw.cell (p := ⟨q0, 0, none⟩) hqW hqv).trans b0
        have a1 := (hSw.cell (p := ⟨q0, 1, none⟩) hqW hqv).trans b1
        have a2 := (hSw.cell (p := ⟨q0, 2, none⟩) hqW hqv).trans b2
        have a3 := (hSw.cell (p := ⟨q0, 3, none⟩) hqW hqv).trans b3q
        have a4 := (hSw.cell (p := ⟨q0, 4, none⟩) hqW hqv).trans b4
        have a5 := (hSw.cell (p := ⟨q0, 5, none⟩) hqW hqv).trans b5
        have a6 := (hSw.cell (p := ⟨q0, 6, none⟩) hqW hqv).trans b6
        have a7 := (hSw.cell (p := ⟨q0, 7, none⟩) hqW hqv).trans b7
        try simp only [List.getElem_toArray, List.getElem_cons_zero, List.getElem_cons_succ]
        go_simp
        exact rfl
      try simp only [Act.put, List.setIfInBounds_toArray, List.set_cons_zero, List.set_cons_succ, List.getElem_toArray, List.getElem_cons_zero, List.getElem_cons_succ]
      refine mix.D_op (k := 9) rfl rfl (by kernel_rfl) (fun K' hK => ?_)
      simp only [List.getElem_toArray, List.getElem_cons_zero, List.getElem_cons_succ]
      go_wp2_with fail
      have hs10 : Keep (fun b => v.ownBlock = some b) W (w9.alloc (.cells (⟨⟨rk, rg, ro, rn⟩, y9, pn, fun _ => True⟩ : H).cells.toArray 110)) := hs9.seq ((Below.refl _ _).alloc (Nat.le_refl _) _)
      refine hK.out _ _ (fun _ => hs10) ?_
      clear hK K'
      try simp only [Act.put, List.setIfInBounds_toArray, List.set_cons_zero, List.set_cons_succ]
      refine mix.D_op (k := 10) rfl rfl (by kernel_rfl) (fun K' hK => ?_)
      simp only [List.getElem_toArray, List.getElem_cons_zero, List.getElem_cons_succ]
      have hrow9 := ownsRow_agree HD.out.held.1 (HRW.out w9 HBd.out HB9.out)
      refine wp_put1 Try.underlying98 hi0 hz0 hz1 hz2 rfl (by decide) _ _ rfl hrow9 rfl rfl (by intro u hu; simp at hu; rcases hu with rfl | rfl | rfl | rfl | rfl | rfl | rfl | rfl <;> rfl) rfl rfl (by omega) (by unfold maxLen; omega) ?_
      intro v' w10 ho10 hk10 hv10 hz10
      have hs11 : Keep (fun b => v.ownBlock = some b) W w10 := hs9.trans hk10 fun _ h _ => h
      refine hK.out _ _ (fun _ => hs11) ?_
      clear hK K'
      try simp only [Act.put, List.setIfInBounds_toArray, List.set_cons_zero, List.set_cons_succ]
      refine mix.D_takeT (i := 11) (v := ?_) rfl (by kernel_rfl) (by kernel_rfl) (fun _ _ _ h => h) (Or.inl ⟨by first | rfl | simp [Region.wanted, yielded], ?_⟩) hs11 ?_
      rotate_left
      · intro w' hSw
        have a0 := (hSw.cell (p := ⟨q0, 0, none⟩) hqW hqv).trans b0
        have a1 := (hSw.cell (p := ⟨q0, 1, none⟩) hqW hqv).trans b1
        have a2 := (hSw.cell (p := ⟨q0, 2, none⟩) hqW hqv).trans b2
        have a3 := (hSw.cell (p := ⟨q0, 3, none⟩) hqW hqv).trans b3q
        have a4 := (hSw.cell (p := ⟨q0, 4, none⟩) hqW hqv).trans b4
        have a5 := (hSw.cell (p := ⟨q0, 5, none⟩) hqW hqv).trans b5
        have a6 := (hSw.cell (p := ⟨q0, 6, none⟩) hqW hqv).trans b6
        have a7 := (hSw.cell (p := ⟨q0, 7, none⟩) hqW hqv).trans b7
        try simp only [List.getElem_toArray, List.getElem_cons_zero, List.getElem_cons_succ]
        go_simp
        exact rfl
      try simp only [Act.put, List.setIfInBounds_toArray, List.set_cons_zero, List.set_cons_succ, List.getElem_toArray, List.getElem_cons_zero, List.getElem_cons_succ]
      refine mix.D_done (by kernel_rfl) ?_ _
      try simp only [Act.put, List.setIfInBounds_toArray, List.set_cons_zero, List.set_cons_succ, List.getElem_toArray, List.getElem_cons_zero, List.getElem_cons_succ]
      have HD2 := vers.lay (HD.out.grow (G := fun _ => True) (pn := pn) (r := ⟨rk, rg, ro, rn⟩) hlt9 HBd.out HB9.out HY.out (by rw [HYL.out, HYP.out]; rfl) ho10 hk10 hv10)
      clear HD ho10 hk10 hv10
      go_wp2_with fail
      exact ⟨⟨j + 1, _, by go_num, hlt, HD2⟩, by first | (simp [RowKit.intOf]; done) | (simp [RowKit.intOf]; omega) | omega⟩
    · obtain rfl : j = l.length := by omega
      have HE := vers.lay (show l2.map H.ph = l.map H.ph by have := HD.out.eq; rw [List.take_length] at this; exact this)
      go_wp2_with fail
      go_ret
      exact ⟨_, l2, rfl, HE.out, HD.out.held, HD.out.below⟩
end
end Go.Proofs.Ytoenkkbcpafanaa.caches
