/- list's own calls over a tree that may be. -/
import Derived.Test.YtchghlbiongccaaKLsG


namespace Go.Proofs.Ytchghlbiongccaa.trees
set_option linter.unusedVariables false
set_option linter.unusedSimpArgs false
open Go.RowKit Go.Shelf Go.Proofs.Ytchghlbiongccaa.base Go.Proofs.Ytchghlbiongccaa.quotas Go.Proofs.Ytchghlbiongccaa.vers Go.Proofs.Ytchghlbiongccaa.nodes
section
variable {ops : Array Oper} {rest : List Oper} {o : Oper} {a : Act} {Q : Exit → Act → World → Prop}
/-- append of one text -/
theorem wp_text (hgd : o.guard = none) (s x : Operand) (ho : o.op = .call { callee := .builtin .append, args := #[s, x], argTypes := #[40, 40] })
    {w : World} {v : Value} {l : List ByteArray} {b : ByteArray} (hown : w.ownsRow 0 9 1 v l.length (sts l)) (hs : a.eval s = v) {q : Nat} (hx : a.eval x = .slice (some ⟨q, 0, none⟩) 1 1) (hqz : q = w.heap.size) (hlen : l.length ≤ 1000000)
    (h : ∀ v' w', w'.ownsRow 0 9 1 v' (l ++ [b]).length (sts (l ++ [b])) → Keep (fun g => v.ownBlock = some g) w w' → (∀ g, v'.ownBlock = some g → v.ownBlock = some g ∨ (w.heap.size ≤ g ∧ g < w'.heap.size)) → w.heap.size + 1 ≤ w'.heap.size → wpList Try.prog ops Q rest (a.put o.dst v') w') :
    wpList Try.prog ops Q (o :: rest) a (w.alloc (.cells #[.string b] 9)) := by
  obtain ⟨i0, hi0, hz0, hz1, hz2⟩ := info_parts info9
  refine wpList_put1 Try.underlying40 hi0 hz0 hz1 hz2 rfl (by decide) hgd s x ho hown hs rfl (by intro u hu; simp at hu; subst hu; rfl) hx hqz (by omega) (by unfold maxLen; omega) ?_
  intro v' w' h1 h2 h3 h4
  refine h v' w' ?_ h2 h3 h4
  rw [List.length_append, sts_append]
  exact h1

end
/-- texts in a row of the call's own -/
def TsOwn (w w' : World) (v : Value) (l : List ByteArray) : Prop := w'.ownsRow 0 9 1 v l.length (sts l) ∧ (∀ g, v.ownBlock = some g → w.heap.size ≤ g) ∧ ∀ x ∈ l, x.size ≤ maxLen
theorem TsOwn.ts {w w' : World} {v : Value} {l : List ByteArray} (h : TsOwn w w' v l) (hl : l.length ≤ 1000000) : ∃ A c, v = .slice A l.length c ∧ Ts w' w'.heap.size l A c := by
  obtain ⟨A, c, e, h1, h2, h3⟩ := row_rdF h.1
  exact ⟨A, c, e, h1, by omega, h2, h3.rd, h.2.2⟩
theorem TsOwn.below {w w' w2 : World} {v : Value} {l : List ByteArray} (h : TsOwn w w' v l) (hb : Below w'.heap.size w' w2) : TsOwn w w2 v l := ⟨row_below h.1 hb, h.2⟩
theorem TsOwn.from {w w0 w' : World} {v : Value} {l : List ByteArray} (h : TsOwn w0 w' v l) (hb : w.heap.size ≤ w0.heap.size) : TsOwn w w' v l := ⟨h.1, fun g hg => Nat.le_trans hb (h.2.1 g hg), h.2.2⟩
theorem take_s {la : List E} {j : Nat} (hj : j < la.length) : (la.take (j + 1)).map (·.s) = (la.take j).map (·.s) ++ [la[j].s] := by rw [List.take_succ_eq_append_getElem hj, List.map_append]; rfl

set_option maxRecDepth 100000 in
set_option maxHeartbeats 4000000 in
theorem names_ok (la : List E) (v : Value) (w : World) (hr : w.ownsRow 0 58 2 v la.length (cellsE la)) (hlen : la.length ≤ 1000) (hs : ∀ x ∈ la, x.s.size ≤ maxLen) :
    Calls Try.prog 69 #[v] w fun e w' => ∃ u, e = .returned u ∧ Below w.heap.size w w' ∧ TsOwn w w' u (la.map (·.s)) := by
  obtain ⟨Au, cu, rfl, _⟩ := row_at hr
  have HS := vers.lay hs
  clear hs
  go_enter Try.func69, Try.ntmps69
  go_wp2_with fail
  go_loopw [8, 3] (fun i u wr => ∃ j : Nat, j ≤ la.length ∧ i = .int .i64 (j : Int) ∧ Below w.heap.size w wr ∧ wr.ownsRow 0 9 1 u ((la.take j).map (·.s)).length (sts ((la.take j).map (·.s))) ∧ Hid (∀ g, u.ownBlock = some g → w.heap.size ≤ g)) (fun i _ _ => la.length - (intOf i).toNat)
  case atStart => exact ⟨0, Nat.zero_le _, rfl, Below.refl _ _, ⟨rfl, .inl ⟨rfl, rfl⟩⟩, vers.lay (fun g hg => by cases hg)⟩
  case round =>
    obtain ⟨j, hj, rfl, hb, ho, hu⟩ := hrel
    by_cases hlt : j < la.length
    · obtain ⟨_, _, ea, hcell⟩ := row_at (row_below hr hb)
      injection ea with ea1 _ ea2
      subst ea1 ea2
      obtain ⟨b, rfl, hob, hbl, y0, y1⟩ := hcell j hlt
      clear hcell
      have hd := take_s hlt
      have hfl : ((la.take j).map (·.s)).length ≤ j := by rw [List.length_map, List.length_take]; omega
      generalize la[j] = x at y0 y1 hd
      obtain ⟨xs, xl, xA, xc⟩ := x
      simp only [] at y0 y1 hd
      have bX : Below wr.heap.size wr (wr.alloc (.cells #[.string xs, .slice xA xl.length xc] 58)) := (Below.refl _ _).alloc (Nat.le_refl _) _
      have kX := Blk.new wr 58 #[.string xs, .slice xA xl.length xc]
      have hoX := row_below ho bX
      have hbs := hb.size
      have hbX := hb.trans (bX.mono hbs)
      generalize hWX : wr.alloc (.cells #[.string xs, .slice xA xl.length xc] 58) = WX at *
      have q0 := kX.cell 0
      have q1 := kX.cell 1
      simp only [List.getElem?_toArray, List.getElem?_cons_zero, List.getElem?_cons_succ] at q0 q1
      have lX := kX.lt
      obtain ⟨old, hold⟩ : ∃ old, old = (la.take j).map (·.s) := ⟨_, rfl⟩
      rw [← hold] at ho hoX hfl hd
      have HD := vers.lay hd
      have HROW := vers.lay hr
      clear hold hr ho hd
      go_wp2_with (at_builtin; refine wp_text (b := xs) rfl _ _ rfl hoX rfl rfl rfl (by omega) ?_; intro v9 w9 ho9 hk9 hv9 hz9)
      refine ⟨⟨j + 1, hlt, by go_num, hbX.trans (hk9.below (fun g hg => hu.out g hg) hbX.size), by rw [HD.out]; exact ho9, vers.lay (fun g hg => (hv9 g hg).elim (fun h => hu.out g h) (fun h => Nat.le_trans hbX.size h.1))⟩, by first | (simp [intOf]; done) | (simp [intOf]; omega) | omega⟩
    · obtain rfl : j = la.length := by omega
      rw [List.take_length] at ho
      obtain ⟨old, hold⟩ : ∃ old, old = la.map (·.s) := ⟨_, rfl⟩
      rw [← hold] at ho
      have HOLD := vers.lay hold
      clear hold
      go_wp2_with fail
      go_ret
      refine ⟨u3, rfl, hb, ?_⟩
      rw [← HOLD.out]
      refine ⟨ho, fun g hg => hu.out g hg, fun x hx => ?_⟩
      rw [HOLD.out] at hx
      obtain ⟨y, hy, rfl⟩ := List.mem_map.1 hx
      exact HS.out y hy

set_option maxRecDepth 100000 in
set_option maxHeartbeats 4000000 in
theorem listNames_ok (h : Nat) (S : Nat → Prop) (ns : List P3) (r : R) (ht : Nat) (L : List PE) (qs : List ByteArray) (A2 : Option Addr) (c2 : Nat) (w : World) (hS : Shown w h S ns r ht L) (hT : Ts w w.heap.size qs A2 c2) :
    Calls Try.prog 28 #[pv h, r.val, .slice A2 qs.length c2] w fun e w' => ∃ u, e = .returned (.tuple #[u, .int .i64 0]) ∧ Below w.heap.size w w' ∧ TsOwn w w' u ((L.filter fun y => fitP qs y.1).map (·.1)) := by
  have hr := fun W (hb : Below w.heap.size w W) => asked_names qs A2 c2 (w.heap.size + 1) h S ns r ht L W (hS.below hb) (hT.at_world hb)
  have hLl := hS.len
  obtain ⟨rk, rg, ro, rn⟩ := r
  have bR : Below w.heap.size w ((w.alloc (.cells #[.int .u64 (rk : Int), .int .i64 rg, .int .i64 ro, .int .i64 rn] 44)).alloc (.cells #[.slice A2 qs.length c2] 40)) := ((Below.refl _ _).alloc (Nat.le_refl _) _).alloc (by simp) _
  have kR := (Blk.new w 44 #[.int .u64 (rk : Int), .int .i64 rg, .int .i64 ro, .int .i64 rn]).alloc (.cells #[.slice A2 qs.length c2] 40)
  have kP := Blk.new (w.alloc (.cells #[.int .u64 (rk : Int), .int .i64 rg, .int .i64 ro, .int .i64 rn] 44)) 40 #[.slice A2 qs.length c2]
  rw [World.size_alloc] at kP
  have p0 := kP.cell 0
  simp only [List.getElem?_toArray, List.getElem?_cons_zero, List.getElem?_cons_succ] at p0
  have ha := hr _ bR p0 kP.lt
  clear hr hS hT
  generalize hWR : (w.alloc (.cells #[.int .u64 (rk : Int), .int .i64 rg, .int .i64 ro, .int .i64 rn] 44)).alloc (.cells #[.slice A2 qs.length c2] 40) = WR at *
  have z0 := kR.cell 0
  have z1 := kR.cell 1
  have z2 := kR.cell 2
  have z3 := kR.cell 3
  simp only [List.getElem?_toArray, List.getElem?_cons_zero, List.getElem?_cons_succ] at z0 z1 z2 z3
  have lR := kR.lt
  have lP := kP.lt
  have hfl : (L.filter fun y => fitP qs y.1).length ≤ 50 := Nat.le_trans (List.length_filter_le _ _) hLl
  generalize (L.filter fun y => fitP qs y.1) = M at *
  go_enter Try.func28, Try.ntmps28
  go_wp2_with fail
  refine ha.mono ?_
  rintro e w1 ⟨hb1, v, la, rfl, hla, hrow, hown, hel⟩
  have hll : la.length ≤ 50 := by rw [← List.length_map (f := pe), hla]; exact hfl
  have hnm := names_ok la v w1 hrow (by omega) (fun x hx => (hel x hx).2)
  have HLA := vers.lay (show M.map (·.1) = la.map (·.s) by rw [← hla, pe_map])
  clear hla ha hll
  go_wp2_with fail
  refine hnm.mono ?_
  rintro e w2 ⟨u, rfl, hb2, hto⟩
  have b12 : Below w.heap.size w w2 := bR.trans ((hb1.mono bR.size).trans (hb2.mono (Nat.le_trans bR.size hb1.size)))
  go_wp2_with fail
  refine bodyPost_ret (v := .tuple #[u, .int .i64 0]) (by simp [results, Try.results28, go_sem]) rfl ⟨u, rfl, b12, ?_⟩
  rw [HLA.out]
  exact hto.from (Nat.le_trans bR.size hb1.size)

theorem AskPost.from {w w0 w' : World} {L : List PE} {e : Ending} (h : AskPost w0 L e w') (hb : Below w.heap.size w w0) : AskPost w L e w' := by
  obtain ⟨h1, v, la, h2, h3, h4, h5, h6⟩ := h
  exact ⟨hb.trans (h1.mono hb.size), v, la, h2, h3, h4, fun g hg => Nat.le_trans hb.size (h5 g hg), fun x hx => ⟨(h6 x hx).1.mono fun g hg => ⟨Nat.le_trans hb.size hg.1, hg.2⟩, (h6 x hx).2⟩⟩
/-- what an answer's list is in memory -/
theorem AskPost.es {w w' : World} {v : Value} {la : List E} (h4 : w'.ownsRow 0 58 2 v la.length (cellsE la)) (h6 : ∀ x ∈ la, VsF w' (fun g => w.heap.size ≤ g ∧ g < w'.heap.size) x.l x.A x.c ∧ x.s.size ≤ maxLen) (hl : la.length ≤ 1000) : ∃ A c, v = .slice A la.length c ∧ Es w' w'.heap.size la A c := by
  obtain ⟨A, c, e, h1, h2, h3⟩ := row_rdF h4
  exact ⟨A, c, e, h1, by omega, h2, h3.rd, fun x hx => ⟨(h6 x hx).1.vs, (h6 x hx).2⟩⟩

set_option maxRecDepth 100000 in
set_option maxHeartbeats 4000000 in
theorem listRange_ok (h : Nat) (S : Nat → Prop) (ns : List P3) (r : R) (ht : Nat) (L : List PE) (ta tb : ByteArray) (w : World) (hS : Shown w h S ns r ht L) :
    Calls Try.prog 31 #[pv h, r.val, .string ta, .string tb] w (AskPost w (L.filter fun y => inR ta tb y.1)) := by
  have hr := fun W (hb : Below w.heap.size w W) => asked_range ta tb (w.heap.size + 1) (w.heap.size + 1 + 1) h S ns r ht L W (hS.below hb)
  obtain ⟨rk, rg, ro, rn⟩ := r
  have bR : Below w.heap.size w (((w.alloc (.cells #[.int .u64 (rk : Int), .int .i64 rg, .int .i64 ro, .int .i64 rn] 44)).alloc (.cells #[.string ta] 9)).alloc (.cells #[.string tb] 9)) := (((Below.refl _ _).alloc (Nat.le_refl _) _).alloc (by simp) _).alloc (by simp; omega) _
  have kR := ((Blk.new w 44 #[.int .u64 (rk : Int), .int .i64 rg, .int .i64 ro, .int .i64 rn]).alloc (.cells #[.string ta] 9)).alloc (.cells #[.string tb] 9)
  have kP := (Blk.new (w.alloc (.cells #[.int .u64 (rk : Int), .int .i64 rg, .int .i64 ro, .int .i64 rn] 44)) 9 #[.string ta]).alloc (.cells #[.string tb] 9)
  have kQ := Blk.new ((w.alloc (.cells #[.int .u64 (rk : Int), .int .i64 rg, .int .i64 ro, .int .i64 rn] 44)).alloc (.cells #[.string ta] 9)) 9 #[.string tb]
  simp only [World.size_alloc] at kP kQ
  have p0 := kP.cell 0
  have q0 := kQ.cell 0
  simp only [List.getElem?_toArray, List.getElem?_cons_zero, List.getElem?_cons_succ] at p0 q0
  have ha := hr _ bR p0 kP.lt q0 kQ.lt
  clear hr hS
  generalize hWR : ((w.alloc (.cells #[.int .u64 (rk : Int), .int .i64 rg, .int .i64 ro, .int .i64 rn] 44)).alloc (.cells #[.string ta] 9)).alloc (.cells #[.string tb] 9) = WR at *
  have z0 := kR.cell 0
  have z1 := kR.cell 1
  have z2 := kR.cell 2
  have z3 := kR.cell 3
  simp only [List.getElem?_toArray, List.getElem?_cons_zero, List.getElem?_cons_succ] at z0 z1 z2 z3
  have lR := kR.lt
  have lP := kP.lt
  have lQ := kQ.lt
  generalize (L.filter fun y => inR ta tb y.1) = M at *
  go_enter Try.func31, Try.ntmps31
  go_wp2_with fail
  refine ha.mono ?_
  rintro e w1 ⟨hb1, v, la, rfl, hla, hrow, hown, hel⟩
  have HP0 : AskPost WR M (.returned (.tuple #[v, .int .i64 0])) w1 := ⟨hb1, v, la, rfl, hla, hrow, hown, hel⟩
  have HP := vers.lay (HP0.from bR)
  clear HP0
  clear ha hla hrow hown hel hb1 bR
  go_wp2_with fail
  refine bodyPost_ret (v := .tuple #[v, .int .i64 0]) (by simp [results, Try.results31, go_sem]) rfl HP.out

theorem filter_evry (L : List PE) : (L.filter fun y => evry y.1) = L := List.filter_eq_self.2 fun _ _ => rfl

set_option maxRecDepth 100000 in
set_option maxHeartbeats 4000000 in
theorem listCount_ok (h : Nat) (S : Nat → Prop) (ns : List P3) (r : R) (ht : Nat) (L : List PE) (w : World) (hS : Shown w h S ns r ht L) :
    Calls Try.prog 32 #[pv h, r.val] w fun e w' => e = .returned (.tuple #[.int .i64 (L.length : Int), .int .i64 0]) ∧ Below w.heap.size w w' := by
  have hr := fun W (hb : Below w.heap.size w W) => asked_each h S ns r ht L W (hS.below hb)
  rw [filter_evry] at hr
  obtain ⟨rk, rg, ro, rn⟩ := r
  have bR : Below w.heap.size w (w.alloc (.cells #[.int .u64 (rk : Int), .int .i64 rg, .int .i64 ro, .int .i64 rn] 44)) := (Below.refl _ _).alloc (Nat.le_refl _) _
  have kR := Blk.new w 44 #[.int .u64 (rk : Int), .int .i64 rg, .int .i64 ro, .int .i64 rn]
  have ha := hr _ bR
  clear hr hS
  generalize hWR : w.alloc (.cells #[.int .u64 (rk : Int), .int .i64 rg, .int .i64 ro, .int .i64 rn] 44) = WR at *
  have z0 := kR.cell 0
  have z1 := kR.cell 1
  have z2 := kR.cell 2
  have z3 := kR.cell 3
  simp only [List.getElem?_toArray, List.getElem?_cons_zero, List.getElem?_cons_succ] at z0 z1 z2 z3
  have lR := kR.lt
  go_enter Try.func32, Try.ntmps32
  go_wp2_with fail
  refine ha.mono ?_
  rintro e w1 ⟨hb1, v, la, rfl, hla, hrow, hown, hel⟩
  have HL := vers.lay (show L.length = la.length by rw [← hla, List.length_map])
  obtain ⟨Au, cu, rfl, _⟩ := row_at hrow
  clear ha hla hel
  go_wp2_with fail
  refine bodyPost_ret (v := .tuple #[.int .i64 (la.length : Int), .int .i64 0]) (by simp [results, Try.results32, go_sem]) rfl ⟨by rw [HL.out], bR.trans (hb1.mono bR.size)⟩

def nthP (L : List PE) (n : Int) : PE × Bool := if n < 0 then ((⟨#[]⟩, []), false) else match L[n.toNat]? with | some y => (y, true) | none => ((⟨#[]⟩, []), false)
def lastP (L : List PE) : PE × Bool := match L.getLast? with | some y => (y, true) | none => ((⟨#[]⟩, []), false)
/-- one secret, or none -/
def OnePost (w : World) (z : PE × Bool) (e : Ending) (w' : World) : Prop :=
  Below w.heap.size w w' ∧ ∃ x : E, e = .returned (.tuple #[.agg #[.string x.s, .slice x.A x.l.length x.c], .bool z.2, .int .i64 0]) ∧ pe x = z.1 ∧ Vs w' w'.heap.size x.l x.A x.c ∧ x.s.size ≤ maxLen
theorem nthP_yes {la : List E} {L : List PE} (hla : la.map pe = L) {k : Nat} (hk : k < la.length) : nthP L (k : Int) = (pe la[k], true) := by
  subst hla
  unfold nthP
  rw [if_neg (by omega), Int.toNat_natCast, List.getElem?_map, List.getElem?_eq_getElem hk]
  rfl
theorem nthP_no {la : List E} {L : List PE} (hla : la.map pe = L) {n : Int} (hn : n < 0 ∨ (la.length : Int) ≤ n) : nthP L n = ((⟨#[]⟩, []), false) := by
  subst hla
  unfold nthP
  by_cases h : n < 0
  · rw [if_pos h]
  · rw [if_neg h, List.getElem?_eq_none (by rw [List.length_map]; omega)]
theorem lastP_yes {la : List E} {L : List PE} (hla : la.map pe = L) (hk : 0 < la.length) : lastP L = (pe (la[la.length - 1]'(by omega)), true) := by
  subst hla
  unfold lastP
  rw [List.getLast?_map, List.getLast?_eq_getElem?, List.getElem?_eq_getElem (by omega)]
  rfl
theorem lastP_at {la : List E} {L : List PE} (hla : la.map pe = L) {k : Nat} (hk : la.length = k + 1) : lastP L = (pe (la[k]'(by omega)), true) := by
  subst hla
  unfold lastP
  rw [List.getLast?_map, List.getLast?_eq_getElem?, show la.length - 1 = k by omega, List.getElem?_eq_getElem (by omega)]
  rfl
theorem lastP_no {L : List PE} (h : L = []) : lastP L = ((⟨#[]⟩, []), false) := by subst h; rfl

set_option maxRecDepth 100000 in
set_option maxHeartbeats 4000000 in
theorem listNth_ok (h : Nat) (S : Nat → Prop) (ns : List P3) (r : R) (ht : Nat) (L : List PE) (n : Int) (w : World) (hS : Shown w h S ns r ht L) (hn : -9223372036854775808 ≤ n ∧ n ≤ 9223372036854775807) :
    Calls Try.prog 33 #[pv h, r.val, .int .i64 n] w (OnePost w (nthP L n)) := by
  have hr := fun W (hb : Below w.heap.size w W) => asked_each h S ns r ht L W (hS.below hb)
  rw [filter_evry] at hr
  have hLl := hS.len
  obtain ⟨rk, rg, ro, rn⟩ := r
  have bR : Below w.heap.size w ((w.alloc (.cells #[.int .u64 (rk : Int), .int .i64 rg, .int .i64 ro, .int .i64 rn] 44)).alloc (.cells #[.string ⟨#[]⟩, .slice none 0 0] 58)) := ((Below.refl _ _).alloc (Nat.le_refl _) _).alloc (by simp) _
  have kR := (Blk.new w 44 #[.int .u64 (rk : Int), .int .i64 rg, .int .i64 ro, .int .i64 rn]).alloc (.cells #[.string ⟨#[]⟩, .slice none 0 0] 58)
  have kE := Blk.new (w.alloc (.cells #[.int .u64 (rk : Int), .int .i64 rg, .int .i64 ro, .int .i64 rn] 44)) 58 #[.string ⟨#[]⟩, .slice none 0 0]
  rw [World.size_alloc] at kE
  have ha := hr _ bR
  clear hr hS
  generalize hWR : (w.alloc (.cells #[.int .u64 (rk : Int), .int .i64 rg, .int .i64 ro, .int .i64 rn] 44)).alloc (.cells #[.string ⟨#[]⟩, .slice none 0 0] 58) = WR at *
  have z0 := kR.cell 0
  have z1 := kR.cell 1
  have z2 := kR.cell 2
  have z3 := kR.cell 3
  simp only [List.getElem?_toArray, List.getElem?_cons_zero, List.getElem?_cons_succ] at z0 z1 z2 z3
  have lR := kR.lt
  have lE := kE.lt
  go_enter Try.func33, Try.ntmps33
  go_wp2_with fail
  refine ha.mono ?_
  rintro e w1 ⟨hb1, v, la, rfl, hla, hrow, hown, hel⟩
  have hll : la.length ≤ 50 := by rw [← List.length_map (f := pe), hla]; exact hLl
  clear ha z0 z1 z2 z3
  have kE1 := kE.below hb1 kE.lt
  have lE1 := kE1.lt
  have f0 := kE1.frozen 0
  have f1 := kE1.frozen 1
  have q0 := kE1.cell 0
  have q1 := kE1.cell 1
  simp only [List.getElem?_toArray, List.getElem?_cons_zero, List.getElem?_cons_succ] at q0 q1
  have b1 : Below w.heap.size w w1 := bR.trans (hb1.mono bR.size)
  obtain ⟨Au, cu, rfl, hcell⟩ := row_at hrow
  have HEL := vers.lay hel
  have HLA := vers.lay hla
  clear hel hla hrow hown
  by_cases hin : 0 ≤ n ∧ n < (la.length : Int)
  · obtain ⟨k, rfl⟩ := Int.eq_ofNat_of_zero_le hin.1
    have hk : k < la.length := by omega
    obtain ⟨b, rfl, hob, hbl, y0, y1⟩ := hcell k hk
    have HN := vers.lay (nthP_yes HLA.out hk)
    have hx := HEL.out _ (List.getElem_mem hk)
    clear hcell hin hn
    generalize la[k] = x at y0 y1 HN hx
    obtain ⟨xs, xl, xA, xc⟩ := x
    simp only [] at y0 y1 hx
    have HX := vers.lay hx
    clear hx
    go_wp2_with fail
    have kz := (kE1.put 0 (.string xs)).put 1 (.slice xA xl.length xc)
    have bz := (b1.setCell (p := ⟨w.heap.size + 1, 0, none⟩) (by simp) (.string xs)).setCell (p := ⟨w.heap.size + 1, 1, none⟩) (by simp) (.slice xA xl.length xc)
    have hsz : ((w1.setCell ⟨w.heap.size + 1, 0, none⟩ (.string xs)).setCell ⟨w.heap.size + 1, 1, none⟩ (.slice xA xl.length xc)).heap.size = w1.heap.size := by simp
    have hvs : Vs ((w1.setCell ⟨w.heap.size + 1, 0, none⟩ (.string xs)).setCell ⟨w.heap.size + 1, 1, none⟩ (.slice xA xl.length xc)) w1.heap.size xl xA xc := by
      have h1 := HX.out.1
      have hwr := World.size_alloc w (.cells #[.int .u64 (rk : Int), .int .i64 rg, .int .i64 ro, .int .i64 rn] 44)
      have h2 := h1.agree (w' := (w1.setCell ⟨w.heap.size + 1, 0, none⟩ (.string xs)).setCell ⟨w.heap.size + 1, 1, none⟩ (.slice xA xl.length xc)) (fun g hg => by
        have hne : g ≠ w.heap.size + 1 := by have := hg.1; omega
        rw [Below.heap_setCell _ _ _ _ hne, Below.heap_setCell _ _ _ _ hne])
      have h3 := h2.vs
      rwa [hsz] at h3
    simp only [List.setIfInBounds_toArray, List.set_cons_zero, List.set_cons_succ] at kz
    generalize (w1.setCell ⟨w.heap.size + 1, 0, none⟩ (.string xs)).setCell ⟨w.heap.size + 1, 1, none⟩ (.slice xA xl.length xc) = wX at *
    have z0 := kz.cell 0
    have z1 := kz.cell 1
    simp only [List.getElem?_toArray, List.getElem?_cons_zero, List.getElem?_cons_succ] at z0 z1
    refine bodyPost_ret (v := .tuple #[.agg #[.string xs, .slice xA xl.length xc], .bool true, .int .i64 0]) (by simp [results, Try.results33, go_sem, z0, z1]) rfl ?_
    rw [HN.out]
    exact ⟨bz, ⟨xs, xl, xA, xc⟩, rfl, rfl, by rw [hsz]; exact hvs, HX.out.2⟩
  · have HN := vers.lay (nthP_no HLA.out (n := n) (by omega))
    clear hcell
    by_cases h0 : n < 0
    · clear hin
      go_wp2_with fail
      have kz := (kE1.put 0 (.string ⟨#[]⟩)).put 1 (.slice none 0 0)
      have bz := (b1.setCell (p := ⟨w.heap.size + 1, 0, none⟩) (by simp) (.string ⟨#[]⟩)).setCell (p := ⟨w.heap.size + 1, 1, none⟩) (by simp) (.slice none 0 0)
      simp only [List.setIfInBounds_toArray, List.set_cons_zero, List.set_cons_succ] at kz
      generalize (w1.setCell ⟨w.heap.size + 1, 0, none⟩ (.string ⟨#[]⟩)).setCell ⟨w.heap.size + 1, 1, none⟩ (.slice none 0 0) = wX at *
      have z0 := kz.cell 0
      have z1 := kz.cell 1
      simp only [List.getElem?_toArray, List.getElem?_cons_zero, List.getElem?_cons_succ] at z0 z1
      refine bodyPost_ret (v := .tuple #[.agg #[.string ⟨#[]⟩, .slice none 0 0], .bool false, .int .i64 0]) (by simp [results, Try.results33, go_sem, z0, z1]) rfl ?_
      rw [HN.out]
      exact ⟨bz, ⟨⟨#[]⟩, [], none, 0⟩, rfl, rfl, ⟨Nat.le_refl _, by simp, fun _ => rfl, Rd.nil _ _ _, fun x hx => by cases hx⟩, by simp [ByteArray.size]⟩
    · have h1 : (la.length : Int) ≤ n := by omega
      have h2 : 0 ≤ n := by omega
      clear hin h0
      go_wp2_with fail
      have kz := (kE1.put 0 (.string ⟨#[]⟩)).put 1 (.slice none 0 0)
      have bz := (b1.setCell (p := ⟨w.heap.size + 1, 0, none⟩) (by simp) (.string ⟨#[]⟩)).setCell (p := ⟨w.heap.size + 1, 1, none⟩) (by simp) (.slice none 0 0)
      simp only [List.setIfInBounds_toArray, List.set_cons_zero, List.set_cons_succ] at kz
      generalize (w1.setCell ⟨w.heap.size + 1, 0, none⟩ (.string ⟨#[]⟩)).setCell ⟨w.heap.size + 1, 1, none⟩ (.slice none 0 0) = wX at *
      have z0 := kz.cell 0
      have z1 := kz.cell 1
      simp only [List.getElem?_toArray, List.getElem?_cons_zero, List.getElem?_cons_succ] at z0 z1
      refine bodyPost_ret (v := .tuple #[.agg #[.string ⟨#[]⟩, .slice none 0 0], .bool false, .int .i64 0]) (by simp [results, Try.results33, go_sem, z0, z1]) rfl ?_
      rw [HN.out]
      exact ⟨bz, ⟨⟨#[]⟩, [], none, 0⟩, rfl, rfl, ⟨Nat.le_refl _, by simp, fun _ => rfl, Rd.nil _ _ _, fun x hx => by cases hx⟩, by simp [ByteArray.size]⟩

set_option maxRecDepth 100000 in
set_option maxHeartbeats 4000000 in
theorem listFloor_ok (h : Nat) (S : Nat → Prop) (ns : List P3) (r : R) (ht : Nat) (L : List PE) (ta : ByteArray) (w : World) (hS : Shown w h S ns r ht L) :
    Calls Try.prog 35 #[pv h, r.val, .string ta] w (OnePost w (lastP (L.filter fun y => upTo ta y.1))) := by
  have hr := fun W (hb : Below w.heap.size w W) => asked_floor ta (w.heap.size + 1) h S ns r ht L W (hS.below hb)
  have hLl := hS.len
  obtain ⟨rk, rg, ro, rn⟩ := r
  have bR : Below w.heap.size w (((w.alloc (.cells #[.int .u64 (rk : Int), .int .i64 rg, .int .i64 ro, .int .i64 rn] 44)).alloc (.cells #[.string ta] 9)).alloc (.cells #[.string ⟨#[]⟩, .slice none 0 0] 58)) := (((Below.refl _ _).alloc (Nat.le_refl _) _).alloc (by simp) _).alloc (by simp; omega) _
  have kR := ((Blk.new w 44 #[.int .u64 (rk : Int), .int .i64 rg, .int .i64 ro, .int .i64 rn]).alloc (.cells #[.string ta] 9)).alloc (.cells #[.string ⟨#[]⟩, .slice none 0 0] 58)
  have kP := (Blk.new (w.alloc (.cells #[.int .u64 (rk : Int), .int .i64 rg, .int .i64 ro, .int .i64 rn] 44)) 9 #[.string ta]).alloc (.cells #[.string ⟨#[]⟩, .slice none 0 0] 58)
  have kE := Blk.new ((w.alloc (.cells #[.int .u64 (rk : Int), .int .i64 rg, .int .i64 ro, .int .i64 rn] 44)).alloc (.cells #[.string ta] 9)) 58 #[.string ⟨#[]⟩, .slice none 0 0]
  simp only [World.size_alloc] at kE kP
  have p0 := kP.cell 0
  simp only [List.getElem?_toArray, List.getElem?_cons_zero, List.getElem?_cons_succ] at p0
  have ha := hr _ bR p0 kP.lt
  have lP := kP.lt
  clear hr hS kP
  have hMl : (L.filter fun y => upTo ta y.1).length ≤ 50 := Nat.le_trans (List.length_filter_le _ _) hLl
  generalize (L.filter fun y => upTo ta y.1) = M at *
  clear hLl
  generalize hWR : ((w.alloc (.cells #[.int .u64 (rk : Int), .int .i64 rg, .int .i64 ro, .int .i64 rn] 44)).alloc (.cells #[.string ta] 9)).alloc (.cells #[.string ⟨#[]⟩, .slice none 0 0] 58) = WR at *
  have z0 := kR.cell 0
  have z1 := kR.cell 1
  have z2 := kR.cell 2
  have z3 := kR.cell 3
  simp only [List.getElem?_toArray, List.getElem?_cons_zero, List.getElem?_cons_succ] at z0 z1 z2 z3
  have lR := kR.lt
  have lE := kE.lt
  go_enter Try.func35, Try.ntmps35
  go_wp2_with fail
  refine ha.mono ?_
  rintro e w1 ⟨hb1, v, la, rfl, hla, hrow, hown, hel⟩
  have hll : la.length ≤ 50 := by rw [← List.length_map (f := pe), hla]; exact hMl
  clear ha z0 z1 z2 z3
  have kE1 := kE.below hb1 kE.lt
  have lE1 := kE1.lt
  have f0 := kE1.frozen 0
  have f1 := kE1.frozen 1
  have q0 := kE1.cell 0
  have q1 := kE1.cell 1
  simp only [List.getElem?_toArray, List.getElem?_cons_zero, List.getElem?_cons_succ] at q0 q1
  have b1 : Below w.heap.size w w1 := bR.trans (hb1.mono bR.size)
  obtain ⟨Au, cu, rfl, hcell⟩ := row_at hrow
  have HEL := vers.lay hel
  have HLA := vers.lay hla
  clear hel hla hrow hown
  by_cases hin : 0 < la.length
  · obtain ⟨k, hkl⟩ : ∃ k, la.length = k + 1 := ⟨la.length - 1, by omega⟩
    have hk : k < la.length := by omega
    obtain ⟨b, rfl, hob, hbl, y0, y1⟩ := hcell k hk
    have HN := vers.lay (lastP_at HLA.out hkl)
    have hx := HEL.out _ (List.getElem_mem hk)
    have hk6 : k < 60 := by omega
    clear hcell hin hll
    rw [hkl]
    generalize la[k] = x at y0 y1 HN hx
    have HKL := vers.lay hkl
    clear hkl hk
    have d0 : ((k : Int) + 1 == 0) = false := by rw [beq_eq_false_iff_ne]; omega
    have d1 : decide ((k : Int) + 1 = 0) = false := decide_eq_false (by omega)
    obtain ⟨xs, xl, xA, xc⟩ := x
    simp only [] at y0 y1 hx
    have HX := vers.lay hx
    clear hx
    go_wp2_with fail
    have kz := (kE1.put 0 (.string xs)).put 1 (.slice xA xl.length xc)
    have bz := (b1.setCell (p := ⟨w.heap.size + 1 + 1, 0, none⟩) (by show _ ≤ w.heap.size + 1 + 1; omega) (.string xs)).setCell (p := ⟨w.heap.size + 1 + 1, 1, none⟩) (by show _ ≤ w.heap.size + 1 + 1; omega) (.slice xA xl.length xc)
    have hsz : ((w1.setCell ⟨w.heap.size + 1 + 1, 0, none⟩ (.string xs)).setCell ⟨w.heap.size + 1 + 1, 1, none⟩ (.slice xA xl.length xc)).heap.size = w1.heap.size := by simp
    have hvs : Vs ((w1.setCell ⟨w.heap.size + 1 + 1, 0, none⟩ (.string xs)).setCell ⟨w.heap.size + 1 + 1, 1, none⟩ (.slice xA xl.length xc)) w1.heap.size xl xA xc := by
      have h1 := HX.out.1
      have hwr := World.size_alloc w (.cells #[.int .u64 (rk : Int), .int .i64 rg, .int .i64 ro, .int .i64 rn] 44)
      have h2 := h1.agree (w' := (w1.setCell ⟨w.heap.size + 1 + 1, 0, none⟩ (.string xs)).setCell ⟨w.heap.size + 1 + 1, 1, none⟩ (.slice xA xl.length xc)) (fun g hg => by
        have hne : g ≠ w.heap.size + 1 + 1 := by have := hg.1; omega
        rw [Below.heap_setCell _ _ _ _ hne, Below.heap_setCell _ _ _ _ hne])
      have h3 := h2.vs
      rwa [hsz] at h3
    simp only [List.setIfInBounds_toArray, List.set_cons_zero, List.set_cons_succ] at kz
    generalize (w1.setCell ⟨w.heap.size + 1 + 1, 0, none⟩ (.string xs)).setCell ⟨w.heap.size + 1 + 1, 1, none⟩ (.slice xA xl.length xc) = wX at *
    have z0 := kz.cell 0
    have z1 := kz.cell 1
    simp only [List.getElem?_toArray, List.getElem?_cons_zero, List.getElem?_cons_succ] at z0 z1
    refine bodyPost_ret (v := .tuple #[.agg #[.string xs, .slice xA xl.length xc], .bool true, .int .i64 0]) (by simp [results, Try.results35, go_sem, z0, z1]) rfl ?_
    rw [HN.out]
    exact ⟨bz, ⟨xs, xl, xA, xc⟩, rfl, rfl, by rw [hsz]; exact hvs, HX.out.2⟩
  · have hl0 : la.length = 0 := by omega
    have HN := vers.lay (lastP_no (L := M) (by rw [← HLA.out, List.eq_nil_of_length_eq_zero hl0]; rfl))
    rw [hl0]
    clear hcell hin hll
    · go_wp2_with fail
      have kz := (kE1.put 0 (.string ⟨#[]⟩)).put 1 (.slice none 0 0)
      have bz := (b1.setCell (p := ⟨w.heap.size + 1 + 1, 0, none⟩) (by show _ ≤ w.heap.size + 1 + 1; omega) (.string ⟨#[]⟩)).setCell (p := ⟨w.heap.size + 1 + 1, 1, none⟩) (by show _ ≤ w.heap.size + 1 + 1; omega) (.slice none 0 0)
      simp only [List.setIfInBounds_toArray, List.set_cons_zero, List.set_cons_succ] at kz
      generalize (w1.setCell ⟨w.heap.size + 1 + 1, 0, none⟩ (.string ⟨#[]⟩)).setCell ⟨w.heap.size + 1 + 1, 1, none⟩ (.slice none 0 0) = wX at *
      have z0 := kz.cell 0
      have z1 := kz.cell 1
      simp only [List.getElem?_toArray, List.getElem?_cons_zero, List.getElem?_cons_succ] at z0 z1
      refine bodyPost_ret (v := .tuple #[.agg #[.string ⟨#[]⟩, .slice none 0 0], .bool false, .int .i64 0]) (by simp [results, Try.results35, go_sem, z0, z1]) rfl ?_
      rw [HN.out]
      exact ⟨bz, ⟨⟨#[]⟩, [], none, 0⟩, rfl, rfl, ⟨Nat.le_refl _, by simp, fun _ => rfl, Rd.nil _ _ _, fun x hx => by cases hx⟩, by simp [ByteArray.size]⟩

end Go.Proofs.Ytchghlbiongccaa.trees
