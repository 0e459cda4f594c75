/- CachePlays. -/
import Derived.Test.YtoenkkbcpafanaaCcAF
import Derived.Test.YtoenkkbcpafanaaCcO
import Derived.BigQuiet
import Derived.Deep.QuietTactic
import Derived.Deep.CutBlock
import Derived.Deep.DeepCutAuto


namespace Go.Proofs.Ytoenkkbcpafanaa.caches
set_option linter.unusedVariables false
set_option linter.unusedSimpArgs false
open Go.RowKit Go.Proofs.Ytoenkkbcpafanaa.base Go.Proofs.Ytoenkkbcpafanaa.vers Go.Proofs.Ytoenkkbcpafanaa.nodes Go.Proofs.Ytoenkkbcpafanaa.trees

section
variable {w wr w' wz : World} {n k p g rp room f m q qr : Nat} {Z F : Nat → Prop} {A : Option Addr} {c : Nat} {v : Value} {l l2 : List H}
theorem Rf.hsr (h : Rf w rp F room f m (.slice A l.length c) l) : HsR w l A c := by
  obtain ⟨A1, c1, hv, h1, h2, h3⟩ := h.slice
  injection hv with e1 _ e2
  subst e1 e2
  exact ⟨h1, h2, h3.mono fun b hb => h.flt b (h.fv b hb).1, Nat.le_trans h.len h.cap, fun x hx => (h.node x hx).mono fun b hb => h.flt b hb.1⟩
theorem HeldF.hsr (h : HeldF w F (.slice A l.length c) l) (hF : ∀ b, F b → b < w.heap.size) (hl : l.length ≤ 32) : HsR w l A c := by
  obtain ⟨A1, c1, hv, h1, h2, h3⟩ := row_rdF h.1
  injection hv with e1 _ e2
  subst e1 e2
  exact ⟨h1, h2, h3.mono fun b hb => hF b (h.2.1 b hb), hl, fun x hx => (h.2.2 x hx).ns.mono fun b hb => hF b hb.1⟩
theorem TI.pins2 (h : TI w n wr p g Z rp F room f m l v l2) (hn : n < 4611686018427387904) : ∀ x ∈ l2, x.p < 4611686018427387904 := fun x hx => by
  have := h.ri.bp x.ph (h.eq ▸ List.mem_map_of_mem hx)
  exact Nat.lt_of_le_of_lt this hn
theorem same_ans {E5 E6 : Int} {a b X Y : List PH} {f : List PH → Int × List PH} (h5 : (E5, a) = f X) (h6 : (E6, b) = f Y) (e : Y = X) : E6 = E5 ∧ b = a := by
  rw [e, ← h5] at h6
  injection h6 with h1 h2
  exact ⟨h1, h2⟩
/-- the call's box and the reference's -/
def Bx (q qr : Nat) (cs : Array Value) (r : R) (w : World) : Prop := Blk w q 89 cs ∧ Blk w qr 27 #[.int .u64 (r.k : Int), .int .i64 r.g, .int .i64 r.o, .int .i64 r.n]
theorem Bx.cells {k s : Int} {lf : Bool} {y1 y2 y3 : Value} {r : R} (h : Bx q qr #[.int .i64 k, .int .i64 s, .bool lf, y1, y2, y3] r w) :
    w.cell? ⟨q, 2, none⟩ = some (.bool lf) ∧ w.cell? ⟨q, 3, none⟩ = some y1 ∧ w.cell? ⟨q, 4, none⟩ = some y2 ∧ w.cell? ⟨q, 5, none⟩ = some y3 ∧ w.cell? ⟨qr, 0, none⟩ = some (.int .u64 (r.k : Int)) ∧ w.cell? ⟨qr, 1, none⟩ = some (.int .i64 r.g) ∧ w.cell? ⟨qr, 2, none⟩ = some (.int .i64 r.o) ∧ w.cell? ⟨qr, 3, none⟩ = some (.int .i64 r.n) :=
  ⟨h.1.cell 2, h.1.cell 3, h.1.cell 4, h.1.cell 5, h.2.cell 0, h.2.cell 1, h.2.cell 2, h.2.cell 3⟩
theorem Bx.keep {T : Nat → Prop} {cs : Array Value} {r : R} (h : Bx q qr cs r w) (hk : Keep T w w') (h1 : ¬ T q) (h2 : ¬ T qr) : Bx q qr cs r w' := ⟨hk.blk h.1 h1, hk.blk h.2 h2⟩
theorem call_cls {P : Program} {fi : FuncId} {args : Array Value} {u : Value} {N : World → World} {x : World} (hN : ∀ y, Below wr.heap.size wr (N y)) (hM : ∀ wq, Below wr.heap.size wr wq → ∃ y, wq = N y)
    (hc : Calls P fi args (N x) fun e wq => e = .returned u ∧ Below (N x).heap.size (N x) wq) : Calls P fi args (N x) fun e wq => e = .returned u ∧ ∃ y, wq = N y :=
  hc.mono fun _ _ ⟨he, hb⟩ => ⟨he, hM _ ((hN x).trans (hb.mono (hN x).size))⟩
theorem norms (S : World → Prop) (w : World) (h : S w) : ∃ N : World → World, (∀ n, S (N n)) ∧ ∀ w', S w' → ∃ n, w' = N n := by
  refine ⟨fun n => @ite _ (S n) (Classical.propDecidable _) n w, fun n => ?_, fun w' hw => ⟨w', ?_⟩⟩
  · by_cases hn : S n
    · simp [hn]
    · simpa [hn] using h
  · simp [hw]
theorem region_class {P : Program} {id : Nat} {Q : Exit → Act → World → Prop} {a : Act} {w : World} {l : List Oper} (N : World → World) (hm : P.follows .mixedOrders = true) (hB : Region.lexB .any l.toArray = true) (hC : ∃ n, w.drew = N n)
    (h : wpQuiet P l.toArray (fun w' => ∃ n, w' = N n) (fun a' => ∀ w', (∃ n, w' = N n) → Q .normal a' w') l a) : (Code.region id l.toArray true).wp P Q a w :=
  wp_region_quiet (C := fun w' => ∃ n, w' = N n) hm hB hC (by simpa using h)
theorem Bx.below {cs : Array Value} {r : R} (h : Bx q qr cs r w) (hb : Below w.heap.size w w') : Bx q qr cs r w' := ⟨h.1.below hb h.1.lt, h.2.below hb h.2.lt⟩
end
set_option maxRecDepth 100000 in
set_option maxHeartbeats 16000000 in
theorem law_plays (a : Int) (l : List CO) (A : Option Addr) (c : Nat) (w : World) (hX : Cs w w.heap.size l A c) :
    Calls Try.prog 6 #[.int .i64 a, .slice A l.length c] w fun e w' => e = .returned (.bool true) ∧ Below w.heap.size w w' := by
  have hlen : l.length ≤ 140737488355328 := by have := hX.2.1; omega
  have hX1 := hX.take 80
  have hl80 : (l.take 80).length ≤ 80 := by rw [List.length_take]; omega
  have hsh := fun w' (hb : Below w.heap.size w w') => shortC_any l A c 80 (by omega) w' (hX.at_world hb)
  rw [show ((80 : Nat) : Int) = 80 from rfl] at hsh
  generalize l.take 80 = L at *
  have HX := vers.lay hX1
  clear hX hX1
  by_cases hr : a < 0 ∨ 32 < a
  · have hnew := new_no a w hr
    have hnr := newR_no a hr w
    clear hr hsh
    go_enter Try.func6, Try.ntmps6
    go_upto_region 2 with (go_at_call 31; refine hnew.mono ?_; rintro e w1 ⟨rfl, rfl⟩)
    go_upto_region 3 with (go_at_call 32; refine hnr.mono ?_; rintro e w2 ⟨rp, rfl, hb⟩)
    clear hnew hnr
    go_wp2_with fail
    go_ret
    exact ⟨rfl, hb⟩
  · obtain ⟨n, rfl⟩ := Int.eq_ofNat_of_zero_le (show 0 ≤ a by omega)
    have hn : n ≤ 32 := by omega
    have hnew := new_ok n w hn
    clear hr
    go_enter Try.func6, Try.ntmps6
    go_upto_region 2 with (go_at_call 31; refine hnew.mono ?_; rintro e w1 ⟨p, g, rfl, hc1, hb1⟩)
    have hnr := newR_ok n hn w1
    have HC1 := vers.lay hc1
    have HB1 := vers.lay hb1
    clear hnew hc1 hb1
    go_upto_region 3 with (go_at_call 32; refine hnr.mono ?_; rintro e w2 ⟨rp, rfl, hb2, hr2⟩)
    have H1 := vers.lay (show TI w 0 w2 p g (fun b => w.heap.size ≤ b ∧ b < w1.heap.size) rp (fun b => w1.heap.size ≤ b ∧ b < w2.heap.size) n 0 0 [] (.slice none 0 0) [] from
      ⟨⟨HB1.out.trans (hb2.mono HB1.out.size), HC1.out.below hb2, fun b hb => hb.1, Nat.le_refl _, Nat.le_refl _, fun x hx => by cases hx⟩, hr2, rfl, fun b hb hF => by omega, fun b hb => by have := HB1.out.size; omega⟩)
    have hs1 := hsh w2 H1.out.ri.below
    clear hnr hb2 hr2 hsh
    go_wp2_with (go_at_call 33; refine hs1.mono ?_; rintro e w2 ⟨rfl, rfl⟩)
    clear hs1
    go_loopw [51] (fun i wx => ∃ j : Nat, i = .int .i64 (j : Int) ∧ j ≤ L.length ∧ ∃ (f m : Nat) (l : List H) (Z F : Nat → Prop) (v : Value) (l2 : List H), Hid (TI w j wx p g Z rp F n f m l v l2)) (fun i _ => L.length - (RowKit.intOf i).toNat)
    case atStart => exact ⟨0, rfl, Nat.zero_le _, 0, 0, [], _, _, _, _, H1⟩
    case round =>
      as_aux_lemma =>
      clear H1 HC1 HB1
      obtain ⟨j, rfl, hj, f, m, l1, Z, F, v, l2, HR⟩ := hrel
      by_cases hlt : j < L.length
      · obtain ⟨b, off, rfl, hb, x0, x1, x2, x3, x4, x5⟩ := (HX.out.below HR.out.ri.below).at_ hlt
        have hbl : b < wr.heap.size := Nat.lt_of_lt_of_le hb HR.out.ri.below.size
        have hok := HX.out.2.2.2.2 _ (List.getElem_mem hlt)
        generalize L[j] = oo at *
        obtain ⟨k, s, ⟨lf, es, ks, nA, nc, nQ, nq⟩, rl, rA, rc⟩ := oo
        simp only at x0 x1 x2 x3 x4 x5
        obtain ⟨hk0, hs0, hnd0, hrl0⟩ := hok
        simp only at hk0 hs0 hnd0 hrl0
        obtain ⟨r1, hr1⟩ : ∃ r1, ofP s = r1 := ⟨_, rfl⟩
        have hft := ofP_fits s
        rw [hr1] at hft
        have hof0 := fun wx => of_any s wx hs0
        rw [hr1] at hof0
        obtain ⟨rk, rg, ro, rn⟩ := r1
        have HFT := vers.lay hft
        have HND := vers.lay hnd0
        have hrf0 := fun wx (hb : Below w.heap.size w wx) => refs_any rl rA rc wx (hrl0.at_world hb)
        have n1 : j + 1 ≤ L.length := hlt
        have d1 : decide ((j : Int) < (L.length : Int)) = true := decide_eq_true (by omega)
        have d2 : decide (j < L.length) = true := decide_eq_true hlt
        have ej : IntKind.i64.wrap ((j : Int) + 1) = (j : Int) + 1 := IntWalk.i64_in _ (by omega)
        have hj80 : j < 80 := by omega
        clear hr1 hft hnd0 hrl0 hk0 hs0 hlt hb
        have b3 : Below wr.heap.size wr (wr.alloc (.cells #[.int .i64 k, .int .i64 s, .bool lf, .slice nA es.length nc, .slice nQ ks.length nq, .slice rA rl.length rc] 89)) := (Below.refl _ _).alloc (Nat.le_refl _) _
        have k3 := Blk.new wr 89 #[.int .i64 k, .int .i64 s, .bool lf, .slice nA es.length nc, .slice nQ ks.length nq, .slice rA rl.length rc]
        go_upto_region 10 with (fail)
        generalize hW3 : wr.alloc (.cells #[.int .i64 k, .int .i64 s, .bool lf, .slice nA es.length nc, .slice nQ ks.length nq, .slice rA rl.length rc] 89) = W3 at b3 k3 ⊢
        obtain ⟨q, hq⟩ : ∃ q, wr.heap.size = q := ⟨_, rfl⟩
        rw [hq] at k3 ⊢
        have HQ := vers.lay hq
        clear hW3 hq
        obtain ⟨g0, g1, g2, g3, g4, g5⟩ : W3.cell? ⟨q, 0, none⟩ = _ ∧ W3.cell? ⟨q, 1, none⟩ = _ ∧ W3.cell? ⟨q, 2, none⟩ = _ ∧ W3.cell? ⟨q, 3, none⟩ = _ ∧ W3.cell? ⟨q, 4, none⟩ = _ ∧ W3.cell? ⟨q, 5, none⟩ = _ := ⟨k3.cell 0, k3.cell 1, k3.cell 2, k3.cell 3, k3.cell 4, k3.cell 5⟩
        simp only [List.getElem?_toArray, List.getElem?_cons_zero, List.getElem?_cons_succ] at g0 g1 g2 g3 g4 g5
        have hql := k3.lt
        have H3 := vers.lay (HR.out.next b3)
        have HB3W := vers.lay b3
        clear x0 x1 x2 x3 x4 x5 b3
        clear g0 g1 g2 g3 g4 g5 hql
        obtain ⟨g0, g1⟩ : W3.cell? ⟨q, 0, none⟩ = _ ∧ W3.cell? ⟨q, 1, none⟩ = _ := ⟨k3.cell 0, k3.cell 1⟩
        simp only [List.getElem?_toArray, List.getElem?_cons_zero, List.getElem?_cons_succ] at g0 g1
        have hql := k3.lt
        have hof := hof0 W3
        go_upto_region 11 with (go_at_call 34; refine hof.mono ?_; rintro e w4 ⟨rfl, hb4⟩)
        have b4 : Below W3.heap.size W3 (w4.alloc (.cells #[.int .u64 (rk : Int), .int .i64 rg, .int .i64 ro, .int .i64 rn] 27)) := hb4.alloc hb4.size _
        have k4 := Blk.new w4 27 #[.int .u64 (rk : Int), .int .i64 rg, .int .i64 ro, .int .i64 rn]
        have k34 := k3.below b4 k3.lt
        generalize w4.alloc (.cells #[.int .u64 (rk : Int), .int .i64 rg, .int .i64 ro, .int .i64 rn] 27) = W4 at b4 k4 k34 ⊢
        obtain ⟨qr, hqr⟩ : ∃ qr, w4.heap.size = qr := ⟨_, rfl⟩
        rw [hqr] at k4 ⊢
        have HNB := vers.lay (show ¬ Z q ∧ ¬ F q ∧ ¬ Z qr ∧ ¬ F qr from by
          have h1 := HQ.out
          have h2 := hb4.size
          have h3 := HB3W.out.size
          exact ⟨fun e => by have := HR.out.ri.ca.zlt q e; omega, fun e => by have := HR.out.rf.flt q e; omega, fun e => by have := HR.out.ri.ca.zlt qr e; omega, fun e => by have := HR.out.rf.flt qr e; omega⟩)
        have HBX := vers.lay (show Bx q qr #[.int .i64 k, .int .i64 s, .bool lf, .slice nA es.length nc, .slice nQ ks.length nq, .slice rA rl.length rc] ⟨rk, rg, ro, rn⟩ W4 from ⟨k34, k4⟩)
        have H4 := vers.lay (H3.out.next b4)
        obtain ⟨g0, g1⟩ : W4.cell? ⟨q, 0, none⟩ = _ ∧ W4.cell? ⟨q, 1, none⟩ = _ := ⟨k34.cell 0, k34.cell 1⟩
        simp only [List.getElem?_toArray, List.getElem?_cons_zero, List.getElem?_cons_succ] at g0 g1
        clear b4 k4 k34 k3 hqr hb4 hof
        clear hql H3 HB3W HR
        go_upto_block 2 with (fail)
        go_cut [] (fun wx => ∃ (f m : Nat) (l : List H) (Z F : Nat → Prop) (v : Value) (l2 : List H), Hid (TI w (j + 1) wx p g Z rp F n f m l v l2))
        case first =>
          as_aux_lemma =>
          clear g0 g1
          by_cases hk1 : k = 1
          · obtain rfl := hk1
            obtain ⟨_, _, _, _, s0, s1, s2, s3⟩ := HBX.out.cells
            cases hat : atR (l1.map H.ph) ⟨rk, rg, ro, rn⟩ with
            | none =>
              have HAT := vers.lay hat
              clear hat
              have hop := get_no H4.out.ri.ca rk rg ro rn HAT.out (by have := H4.out.ri.bm; omega)
              go_upto_region 16 with (go_at_call 35; refine hop.mono ?_; rintro e w5 ⟨rfl, hc5, hk5⟩)
              have hk5 : Keep Z W4 w5 := hk5.mono (fun b e _ => e ▸ H4.out.ri.ca.zp)
              obtain ⟨y5, hy5, hyF⟩ : ∃ y5 : N, y5 = ⟨false, [], [], none, 0, none, 0⟩ ∧ NsF w5 (fun b => W4.heap.size ≤ b ∧ b < w5.heap.size) y5 := ⟨_, rfl, EsF.nil _ _, KsF.nil _ _⟩
              have hNB : (#[.bool false, .slice none 0 0, .slice none 0 0] : Array Value) = #[.bool y5.lf, .slice y5.A y5.es.length y5.c, .slice y5.Q y5.ks.length y5.m] := by rw [hy5]; rfl
              try rw [hNB]
              have HYP := vers.lay (show y5.p = (false, [], []) by rw [hy5]; rfl)
              have HC := vers.lay (And.intro hc5 hk5)
              have HYF := vers.lay hyF
              have hl5 := vers.lay (show l1.map H.ph = l1.map H.ph from rfl)
              clear hop hc5 hyF hNB hy5
              have bN : Below w5.heap.size w5 (w5.alloc (.cells #[.bool y5.lf, .slice y5.A y5.es.length y5.c, .slice y5.Q y5.ks.length y5.m] 87)) := (Below.refl _ _).alloc (Nat.le_refl _) _
              have kN := Blk.new w5 87 #[.bool y5.lf, .slice y5.A y5.es.length y5.c, .slice y5.Q y5.ks.length y5.m]
              generalize w5.alloc (.cells #[.bool y5.lf, .slice y5.A y5.es.length y5.c, .slice y5.Q y5.ks.length y5.m] 87) = W5 at bN kN ⊢
              obtain ⟨qa, hqa⟩ : ∃ qa, w5.heap.size = qa := ⟨_, rfl⟩
              rw [hqa] at kN ⊢
              have HQA := vers.lay (show ¬ F qa from fun e => by have := H4.out.rf.flt qa e; have := hk5.size; omega)
              have HKN := vers.lay kN
              obtain ⟨_, _, _, _, u0, u1, u2, u3⟩ := ((HBX.out.keep hk5 HNB.out.1 HNB.out.2.2.1).below bN).cells
              have HBN := vers.lay bN
              have hRF := vers.lay ((H4.out.left hk5).below bN)
              clear hqa hk5 bN kN
              have hgr := getR_ok hRF.out rk rg ro rn (by have := H4.out.ri.bf; omega) (by have := H4.out.ri.bm; omega)
              rw [show atR (l2.map H.ph) ⟨rk, rg, ro, rn⟩ = none by rw [H4.out.eq]; exact HAT.out] at hgr
              go_upto_region 17 with (go_at_call 36; refine hgr.mono ?_; rintro e w6 ⟨rfl, ⟨v6, hr6⟩, hk6⟩)
              obtain ⟨y6, hy6, hyF⟩ : ∃ y6 : N, y6 = ⟨false, [], [], none, 0, none, 0⟩ ∧ NsF w6 (fun b => b < w6.heap.size) y6 := ⟨_, rfl, EsF.nil _ _, KsF.nil _ _⟩
              have hNB : (#[.bool false, .slice none 0 0, .slice none 0 0] : Array Value) = #[.bool y6.lf, .slice y6.A y6.es.length y6.c, .slice y6.Q y6.ks.length y6.m] := by rw [hy6]; rfl
              try rw [hNB]
              have HYQ := vers.lay (show y6.p = y5.p by rw [hy6, HYP.out]; rfl)
              have HN6 := vers.lay (H4.out.both (k := j + 1) HC.out.1 HC.out.2 (fun b hb => .inl hb) (by have := H4.out.ri.bf; omega) (by have := H4.out.ri.bm; omega) (H4.out.ri.bp.mono (by omega)) HBN.out hr6 hk6 (fun b hb => .inl hb) H4.out.eq)
              clear hgr hr6 hNB hy6
              have bM : Below w6.heap.size w6 (w6.alloc (.cells #[.bool y6.lf, .slice y6.A y6.es.length y6.c, .slice y6.Q y6.ks.length y6.m] 87)) := (Below.refl _ _).alloc (Nat.le_refl _) _
              have kM := Blk.new w6 87 #[.bool y6.lf, .slice y6.A y6.es.length y6.c, .slice y6.Q y6.ks.length y6.m]
              have kN7 := (hk6.blk HKN.out HQA.out).below bM (hk6.blk HKN.out HQA.out).lt
              generalize w6.alloc (.cells #[.bool y6.lf, .slice y6.A y6.es.length y6.c, .slice y6.Q y6.ks.length y6.m] 87) = W7 at bM kM kN7 ⊢
              obtain ⟨qc, hqc⟩ : ∃ qc, w6.heap.size = qc := ⟨_, rfl⟩
              rw [hqc] at kM ⊢
              obtain ⟨a0, a1, a2⟩ : W7.cell? ⟨qa, 0, none⟩ = _ ∧ W7.cell? ⟨qa, 1, none⟩ = _ ∧ W7.cell? ⟨qa, 2, none⟩ = _ := ⟨kN7.cell 0, kN7.cell 1, kN7.cell 2⟩
              obtain ⟨e0, e1, e2⟩ : W7.cell? ⟨qc, 0, none⟩ = _ ∧ W7.cell? ⟨qc, 1, none⟩ = _ ∧ W7.cell? ⟨qc, 2, none⟩ = _ := ⟨kM.cell 0, kM.cell 1, kM.cell 2⟩
              simp only [List.getElem?_toArray, List.getElem?_cons_zero, List.getElem?_cons_succ] at a0 a1 a2 e0 e1 e2
              have y5W : NsF W7 (fun b => b < W7.heap.size) y5 := by
                have z1 := HYF.out.agree (Agree.of_below HBN.out (fun b hb => hb.2))
                have z2 := z1.agree (hk6.agree fun b hb => ⟨Nat.lt_of_lt_of_le hb.2 HBN.out.size, fun e => by have := H4.out.rf.flt b e; omega⟩)
                exact (z2.agree (Agree.of_below bM fun b hb => Nat.lt_of_lt_of_le hb.2 (Nat.le_trans HBN.out.size hk6.size))).mono fun b hb => Nat.lt_of_lt_of_le hb.2 (Nat.le_trans HBN.out.size (Nat.le_trans hk6.size bM.size))
              have y6W : NsF W7 (fun b => b < W7.heap.size) y6 := (hyF.agree (Agree.of_below bM fun b hb => hb)).mono fun b hb => Nat.lt_of_lt_of_le hb bM.size
              have hlk := likeN_any y5.lf y6.lf y5.es y6.es y5.ks y6.ks y5.A y6.A y5.c y6.c y5.Q y6.Q y5.m y6.m W7 y5W.1.es y6W.1.es y5W.2.ks y6W.2.ks
              rw [show decide (y5.lf = y6.lf ∧ y5.es.map pe = y6.es.map pe ∧ y5.ks = y6.ks) = true from decide_eq_true (by
                have e := HYQ.out
                unfold N.p at e
                injection e with e1 e2
                injection e2 with e2 e3
                exact ⟨e1.symm, e2.symm, e3.symm⟩)] at hlk
              have HN7 := vers.lay (HN6.out.next bM)
              clear y5W y6W kM kN7 bM hk6 hyF hqc
              go_wp2_with (go_at_call 37; refine hlk.mono ?_; rintro e w8 ⟨rfl, hb8⟩)
              have HN := vers.lay (HN7.out.next hb8)
              go_meet
              exact ⟨_, _, _, _, _, _, _, HN⟩
            | some i =>
              have HAT := vers.lay hat
              have hi : i < l1.length := by obtain ⟨h, _⟩ := atR_lt hat; simpa using h
              have HI := vers.lay hi
              clear hat hi
              have hop := get_yes H4.out.ri.ca rk rg ro rn i HAT.out HI.out (by have := H4.out.ri.bf; omega)
              go_upto_region 16 with (go_at_call 35; refine hop.mono ?_; rintro e w5 ⟨y5, rfl, hyp5, hyo5, hc5, hk5⟩)
              have HYP := vers.lay hyp5
              have HC := vers.lay (And.intro hc5 hk5)
              have HYF := vers.lay hyo5.ns
              clear hop hc5 hyp5 hyo5
              have bN : Below w5.heap.size w5 (w5.alloc (.cells #[.bool y5.lf, .slice y5.A y5.es.length y5.c, .slice y5.Q y5.ks.length y5.m] 87)) := (Below.refl _ _).alloc (Nat.le_refl _) _
              have kN := Blk.new w5 87 #[.bool y5.lf, .slice y5.A y5.es.length y5.c, .slice y5.Q y5.ks.length y5.m]
              generalize w5.alloc (.cells #[.bool y5.lf, .slice y5.A y5.es.length y5.c, .slice y5.Q y5.ks.length y5.m] 87) = W5 at bN kN ⊢
              obtain ⟨qa, hqa⟩ : ∃ qa, w5.heap.size = qa := ⟨_, rfl⟩
              rw [hqa] at kN ⊢
              have HQA := vers.lay (show ¬ F qa from fun e => by have := H4.out.rf.flt qa e; have := hk5.size; omega)
              have HKN := vers.lay kN
              obtain ⟨_, _, _, _, u0, u1, u2, u3⟩ := ((HBX.out.keep hk5 HNB.out.1 HNB.out.2.2.1).below bN).cells
              have HBN := vers.lay bN
              have hRF := vers.lay ((H4.out.left hk5).below bN)
              clear hqa hk5 bN kN
              have hgr := getR_ok hRF.out rk rg ro rn (by have := H4.out.ri.bf; omega) (by have := H4.out.ri.bm; omega)
              rw [show atR (l2.map H.ph) ⟨rk, rg, ro, rn⟩ = some i by rw [H4.out.eq]; exact HAT.out] at hgr
              go_upto_region 17 with (go_at_call 36; refine hgr.mono ?_; rintro e w6 ⟨y6, v6, F6, rfl, ⟨hi6, hyp6⟩, hyF, hr6, hk6, hn6⟩)
              have HYQ := vers.lay (show y6.p = y5.p by
                rw [hyp6, HYP.out]
                have e := congrArg (fun L => L[i]?) H4.out.eq
                simp only [List.getElem?_map, List.getElem?_eq_getElem hi6, List.getElem?_eq_getElem HI.out, Option.map_some] at e
                injection e with e
                exact (ph_both e).2.1)
              have HN6 := vers.lay (H4.out.both (k := j + 1) HC.out.1 HC.out.2 (fun b hb => .inl hb) (by have := H4.out.ri.bf; omega) (by have := H4.out.ri.bm; omega) (by rw [mvL_map H.ph l1 HI.out]; exact (H4.out.ri.bp.mono (by omega)).mv (by simpa using HI.out)) HBN.out hr6 hk6 hn6 (by rw [mvL_map H.ph l2 hi6, mvL_map H.ph l1 HI.out, H4.out.eq]))
              clear hgr hr6 hn6 hyp6
              have bM : Below w6.heap.size w6 (w6.alloc (.cells #[.bool y6.lf, .slice y6.A y6.es.length y6.c, .slice y6.Q y6.ks.length y6.m] 87)) := (Below.refl _ _).alloc (Nat.le_refl _) _
              have kM := Blk.new w6 87 #[.bool y6.lf, .slice y6.A y6.es.length y6.c, .slice y6.Q y6.ks.length y6.m]
              have kN7 := (hk6.blk HKN.out HQA.out).below bM (hk6.blk HKN.out HQA.out).lt
              generalize w6.alloc (.cells #[.bool y6.lf, .slice y6.A y6.es.length y6.c, .slice y6.Q y6.ks.length y6.m] 87) = W7 at bM kM kN7 ⊢
              obtain ⟨qc, hqc⟩ : ∃ qc, w6.heap.size = qc := ⟨_, rfl⟩
              rw [hqc] at kM ⊢
              obtain ⟨a0, a1, a2⟩ : W7.cell? ⟨qa, 0, none⟩ = _ ∧ W7.cell? ⟨qa, 1, none⟩ = _ ∧ W7.cell? ⟨qa, 2, none⟩ = _ := ⟨kN7.cell 0, kN7.cell 1, kN7.cell 2⟩
              obtain ⟨e0, e1, e2⟩ : W7.cell? ⟨qc, 0, none⟩ = _ ∧ W7.cell? ⟨qc, 1, none⟩ = _ ∧ W7.cell? ⟨qc, 2, none⟩ = _ := ⟨kM.cell 0, kM.cell 1, kM.cell 2⟩
              simp only [List.getElem?_toArray, List.getElem?_cons_zero, List.getElem?_cons_succ] at a0 a1 a2 e0 e1 e2
              have y5W : NsF W7 (fun b => b < W7.heap.size) y5 := by
                have z1 := HYF.out.agree (Agree.of_below HBN.out (fun b hb => hb.2))
                have z2 := z1.agree (hk6.agree fun b hb => ⟨Nat.lt_of_lt_of_le hb.2 HBN.out.size, fun e => by have := H4.out.rf.flt b e; omega⟩)
                exact (z2.agree (Agree.of_below bM fun b hb => Nat.lt_of_lt_of_le hb.2 (Nat.le_trans HBN.out.size hk6.size))).mono fun b hb => Nat.lt_of_lt_of_le hb.2 (Nat.le_trans HBN.out.size (Nat.le_trans hk6.size bM.size))
              have y6W : NsF W7 (fun b => b < W7.heap.size) y6 := (hyF.agree (Agree.of_below bM fun b hb => hb)).mono fun b hb => Nat.lt_of_lt_of_le hb bM.size
              have hlk := likeN_any y5.lf y6.lf y5.es y6.es y5.ks y6.ks y5.A y6.A y5.c y6.c y5.Q y6.Q y5.m y6.m W7 y5W.1.es y6W.1.es y5W.2.ks y6W.2.ks
              rw [show decide (y5.lf = y6.lf ∧ y5.es.map pe = y6.es.map pe ∧ y5.ks = y6.ks) = true from decide_eq_true (by
                have e := HYQ.out
                unfold N.p at e
                injection e with e1 e2
                injection e2 with e2 e3
                exact ⟨e1.symm, e2.symm, e3.symm⟩)] at hlk
              have HN7 := vers.lay (HN6.out.next bM)
              clear y5W y6W kM kN7 bM hk6 hyF hqc
              go_wp2_with (go_at_call 37; refine hlk.mono ?_; rintro e w8 ⟨rfl, hb8⟩)
              have HN := vers.lay (HN7.out.next hb8)
              go_meet
              exact ⟨_, _, _, _, _, _, _, HN⟩
          · by_cases hk2 : k = 2
            · obtain rfl := hk2
              have hd4 : Below W4.heap.size W4 W4.drew := (Below.refl _ _).drew
              have HD := vers.lay (H4.out.next hd4)
              obtain ⟨t2, t3, t4, t5, s0, s1, s2, s3⟩ := (HBX.out.below hd4).cells
              have hop := pin_ok HD.out.ri.ca rk rg ro rn (HD.out.ri.pins (by omega))
              go_upto_region 20 with (fail)
              go_region_with (first | (go_at_call 38; refine hop.mono ?_; rintro e w5 ⟨E5, l5, rfl, hE5, hc5, hk5⟩; obtain ⟨_, _, _, _, u0, u1, u2, u3⟩ := ((HBX.out.below hd4).keep hk5 HNB.out.1 HNB.out.2.2.1).cells; have HC := vers.lay (And.intro hE5 (And.intro hc5 hk5)); have hpr := pinR_ok (HD.out.left hk5) rk rg ro rn (HD.out.pins2 (by omega)); clear hE5 hc5 hk5) | (go_at_call 39; refine hpr.mono ?_; rintro e w6 ⟨E6, v6, l6, F6, rfl, hE6, hr6, hk6, hn6⟩; obtain ⟨hEE, hLL⟩ := same_ans (f := fun L => pinP L ⟨rk, rg, ro, rn⟩) HC.out.1 hE6 HD.out.eq; subst hEE; have HN := vers.lay (HD.out.both (k := j + 1) HC.out.2.1 HC.out.2.2 (fun b hb => .inl hb) (by have := HD.out.ri.bf; omega) (by have := HD.out.ri.bm; omega) (by rw [show l5.map H.ph = (pinP (l1.map H.ph) ⟨rk, rg, ro, rn⟩).2 by rw [← HC.out.1]]; exact HD.out.ri.bp.pin _) (Below.refl _ _) hr6 hk6 hn6 hLL); clear hE6 hr6 hk6 hn6 hLL))
              all_goals (clear hop; try clear hpr)
              all_goals (go_wp2_with fail)
              all_goals (go_meet; exact ⟨_, _, _, _, _, _, _, HN⟩)
            · by_cases hk3 : k = 3
              · obtain rfl := hk3
                have hd4 : Below W4.heap.size W4 W4.drew := (Below.refl _ _).drew
                have HD := vers.lay (H4.out.next hd4)
                obtain ⟨t2, t3, t4, t5, s0, s1, s2, s3⟩ := (HBX.out.below hd4).cells
                have hop := unpin_ok HD.out.ri.ca rk rg ro rn (HD.out.ri.pins (by omega))
                go_upto_region 23 with (fail)
                go_region_with (first | (go_at_call 40; refine hop.mono ?_; rintro e w5 ⟨E5, l5, rfl, hE5, hc5, hk5⟩; obtain ⟨_, _, _, _, u0, u1, u2, u3⟩ := ((HBX.out.below hd4).keep hk5 HNB.out.1 HNB.out.2.2.1).cells; have HC := vers.lay (And.intro hE5 (And.intro hc5 hk5)); have hpr := unpinR_ok (HD.out.left hk5) rk rg ro rn (HD.out.pins2 (by omega)); clear hE5 hc5 hk5) | (go_at_call 41; refine hpr.mono ?_; rintro e w6 ⟨E6, v6, l6, F6, rfl, hE6, hr6, hk6, hn6⟩; obtain ⟨hEE, hLL⟩ := same_ans (f := fun L => unpinP L ⟨rk, rg, ro, rn⟩) HC.out.1 hE6 HD.out.eq; subst hEE; have HN := vers.lay (HD.out.both (k := j + 1) HC.out.2.1 HC.out.2.2 (fun b hb => .inl hb) (by have := HD.out.ri.bf; omega) (by have := HD.out.ri.bm; omega) (by rw [show l5.map H.ph = (unpinP (l1.map H.ph) ⟨rk, rg, ro, rn⟩).2 by rw [← HC.out.1]]; exact (HD.out.ri.bp.unpin _).mono (Nat.le_succ _)) (Below.refl _ _) hr6 hk6 hn6 hLL); clear hE6 hr6 hk6 hn6 hLL))
                all_goals (clear hop; try clear hpr)
                all_goals (go_wp2_with fail)
                all_goals (go_meet; exact ⟨_, _, _, _, _, _, _, HN⟩)
              · by_cases hk4 : k = 4
                · obtain rfl := hk4
                  have hd4 : Below W4.heap.size W4 W4.drew := (Below.refl _ _).drew
                  have HD := vers.lay (H4.out.next hd4)
                  obtain ⟨t2, t3, t4, t5, s0, s1, s2, s3⟩ := (HBX.out.below hd4).cells
                  have hbd : Below w.heap.size w W4.drew := HD.out.ri.below
                  go_upto_region 26 with (fail)
                  go_region_with (first | (go_at_call 43; refine (hrf0 W4.drew hbd).mono ?_; rintro e w5 ⟨A5, c5, rfl, hq5, hb5⟩; have HD5 := vers.lay (HD.out.next hb5); obtain ⟨_, _, _, t55, _⟩ := ((HBX.out.below hd4).below hb5).cells; have HB5 := vers.lay ((HBX.out.below hd4).below hb5); have hop := drop_ok HD5.out.ri.ca (refsP rl) A5 c5 _ hq5 (fun b hb => ⟨hb.2, fun hz => by have := HD.out.ri.ca.zlt b hz; omega⟩); clear hq5) | (go_at_call 42; refine hop.mono ?_; rintro e w6 ⟨l6, rfl, hE6, hc6, hk6⟩; have HC := vers.lay (And.intro hE6 (And.intro hc6 hk6)); obtain ⟨_, _, _, t56, _⟩ := (HB5.out.keep hk6 HNB.out.1 HNB.out.2.2.1).cells; have hbe : Below w.heap.size w w6 := HD5.out.ri.below.trans (hk6.below HD5.out.ri.z HD5.out.ri.below.size); have hRF := vers.lay (HD5.out.left hk6); clear hE6 hc6 hk6) | (go_at_call 43; refine (hrf0 w6 hbe).mono ?_; rintro e w7 ⟨A7, c7, rfl, hq7, hb7⟩; have hpr := dropR_ok (hRF.out.below hb7) (refsP rl) A7 c7 _ hq7 (fun b hb => ⟨hb.2, fun hz => by have := hRF.out.flt b hz; omega⟩); have HB7 := vers.lay hb7; clear hq7 hb7) | (go_at_call 44; refine hpr.mono ?_; rintro e w8 ⟨l8, v8, F8, rfl, hE8, hr8, hk8, hn8⟩; have hLL : l8.map H.ph = l6.map H.ph := by { rw [hE8, HC.out.1, HD.out.eq] }; have hel : ((l2.length : Int) - (l8.length : Int)) = ((l1.length : Int) - (l6.length : Int)) := by { have e1 := congrArg List.length hLL; have e2 := congrArg List.length HD.out.eq; simp only [List.length_map] at e1 e2; omega }; rw [hel]; have HN := vers.lay (HD5.out.both (k := j + 1) HC.out.2.1 HC.out.2.2 (fun b hb => .inl hb) (by have := HD.out.ri.bf; omega) (by have := HD.out.ri.bm; omega) (by rw [HC.out.1]; exact (HD.out.ri.bp.mono (by omega)).drop _) HB7.out hr8 hk8 hn8 hLL); clear hE8 hr8 hk8 hn8 hLL hel))
                  all_goals (go_wp2_with fail)
                  all_goals (go_meet; exact ⟨_, _, _, _, _, _, _, HN⟩)
                · by_cases hk5 : k = 5
                  · obtain rfl := hk5
                    have hop := wipeAll_ok H4.out.ri.ca
                    go_upto_region 30 with (go_at_call 45; refine hop.mono ?_; rintro e w5 ⟨rfl, hc5, hk5⟩)
                    have hR := H4.out.left hk5
                    have x1 := hR.blk.cell 1
                    have f1 := hR.blk.frozen 1
                    have hrl := hR.blk.lt
                    simp only [List.getElem?_toArray, List.getElem?_cons_zero, List.getElem?_cons_succ] at x1
                    obtain ⟨hr6, hk6⟩ := hR.setv (v' := .slice none 0 0) (l' := []) (Keep.refl _ _) hR.blk ⟨rfl, .inl ⟨rfl, rfl⟩⟩ (fun b hb => by simp [Value.ownBlock] at hb) (fun x hx => by cases hx) (Nat.zero_le _)
                    have HN := vers.lay (H4.out.both (k := j + 1) hc5 hk5 (fun b hb => .inl hb) (by have := H4.out.ri.bf; omega) (by have := H4.out.ri.bm; omega) (fun x hx => by cases hx) (Below.refl _ _) hr6 hk6 (fun b hb => hb.1) rfl)
                    clear hop hc5 hk5 hR hr6 hk6
                    go_wp2_with fail
                    go_meet
                    exact ⟨_, _, _, _, _, _, _, HN⟩
                  · by_cases hk6 : k = 6
                    · obtain rfl := hk6
                      have hho := fun wd (hb : Below W4.heap.size W4 wd) => holds_ok ((H4.out.next hb).ri.ca)
                      obtain ⟨A2, c2, hv2, _⟩ := H4.out.rf.slice
                      subst hv2
                      obtain ⟨hrpl, _, x1, _, _⟩ := H4.out.rf.head
                      have hS0 : Below W4.heap.size W4 W4.drew := (Below.refl _ _).drew
                      have x1d := (hS0.cell (p := ⟨rp, 1, none⟩) hrpl).trans x1
                      go_upto_region 32 with (fail)
                      go_region_with (first | (go_at_call 47; refine (hho _ hS0).mono ?_; rintro e w4 ⟨v5, l5, rfl, hm5, hd5, hb4⟩; have hs4 : Below W4.heap.size W4 w4 := hS0.trans (hb4.mono hS0.size); obtain ⟨A5, c5, rfl, _⟩ := row_rdF hd5.1; have HD5 := vers.lay (hd5.hsr (fun b hb => hb.2) (by have e9 := congrArg List.length hm5; simp only [List.length_map] at e9; have := H4.out.ri.ca.len; have := H4.out.ri.ca.cap; omega)); have HM5 := vers.lay (show l5.map H.ph = l2.map H.ph by rw [hm5, H4.out.eq]); have x14 := (hs4.cell (p := ⟨rp, 1, none⟩) hrpl).trans x1; clear hd5 hm5) | (go_at_call 46; refine (likeR_ok l5 l2 A5 A2 c5 c2 _ HD5.out ((H4.out.rf.below hs4).hsr) HM5.out).mono ?_; rintro e w5 ⟨rfl, hb5⟩; have hs5 : Below W4.heap.size W4 w5 := hs4.trans (hb5.mono hs4.size)))
                      all_goals (have HN := vers.lay ((H4.out.next hs5).more (k := j + 1) (by omega)))
                      all_goals (go_wp2_with fail)
                      all_goals (go_meet; exact ⟨_, _, _, _, _, _, _, HN⟩)
                    · have q1 : decide (k = 1) = false := decide_eq_false hk1
                      have q1' : (k == 1) = false := by simp [hk1]
                      have q2 : decide (k = 2) = false := decide_eq_false hk2
                      have q2' : (k == 2) = false := by simp [hk2]
                      have q3 : decide (k = 3) = false := decide_eq_false hk3
                      have q3' : (k == 3) = false := by simp [hk3]
                      have q4 : decide (k = 4) = false := decide_eq_false hk4
                      have q4' : (k == 4) = false := by simp [hk4]
                      have q5 : decide (k = 5) = false := decide_eq_false hk5
                      have q5' : (k == 5) = false := by simp [hk5]
                      have q6 : decide (k = 6) = false := decide_eq_false hk6
                      have q6' : (k == 6) = false := by simp [hk6]
                      clear hk1 hk2 hk3 hk4 hk5 hk6
                      obtain ⟨t2, t3, t4, t5, s0, s1, s2, s3⟩ := HBX.out.cells
                      have hqq := And.intro HBX.out.1.lt HBX.out.2.lt
                      have hd4 : Below W4.heap.size W4 W4.drew := (Below.refl _ _).drew
                      have HDD := vers.lay (H4.out.next hd4)
                      have hS0 : Keep (fun b => Z b ∨ F b) W4 W4.drew := Keep.of_below hd4
                      go_upto_region 12 with (fail)
                      refine mix.region_D (fun w' => Keep (fun b => Z b ∨ F b) W4 w') (fun _ => false) (by kernel_rfl) ?_
                      generalize W4.drew = Wd at *
                      refine mix.D_takeT (i := 0) (v := ?_) rfl (by kernel_rfl) (by kernel_rfl) (fun _ _ _ h => h) (Or.inl ⟨by first | rfl | simp [Region.wanted, yielded], ?_⟩) hS0 ?_
                      rotate_left
                      · intro w' hSw
                        have z2 := (hSw.cell (p := ⟨q, 2, none⟩) hqq.1 (fun e => e.elim HNB.out.1 HNB.out.2.1)).trans t2
                        have z3 := (hSw.cell (p := ⟨q, 3, none⟩) hqq.1 (fun e => e.elim HNB.out.1 HNB.out.2.1)).trans t3
                        have z4 := (hSw.cell (p := ⟨q, 4, none⟩) hqq.1 (fun e => e.elim HNB.out.1 HNB.out.2.1)).trans t4
                        have a0 := (hSw.cell (p := ⟨qr, 0, none⟩) hqq.2 (fun e => e.elim HNB.out.2.2.1 HNB.out.2.2.2)).trans s0
                        have a1 := (hSw.cell (p := ⟨qr, 1, none⟩) hqq.2 (fun e => e.elim HNB.out.2.2.1 HNB.out.2.2.2)).trans s1
                        have a2 := (hSw.cell (p := ⟨qr, 2, none⟩) hqq.2 (fun e => e.elim HNB.out.2.2.1 HNB.out.2.2.2)).trans s2
                        have a3 := (hSw.cell (p := ⟨qr, 3, none⟩) hqq.2 (fun e => e.elim HNB.out.2.2.1 HNB.out.2.2.2)).trans s3
                        try simp only [List.getElem_toArray, List.getElem_cons_zero, List.getElem_cons_succ]
                        go_simp
                        exact rfl
                      try simp only [Act.put, List.setIfInBounds_toArray, List.set_cons_zero, List.set_cons_succ, List.getElem_toArray, List.getElem_cons_zero, List.getElem_cons_succ]
                      refine mix.D_takeT (i := 1) (v := ?_) rfl (by kernel_rfl) (by kernel_rfl) (fun _ _ _ h => h) (Or.inl ⟨by first | rfl | simp [Region.wanted, yielded], ?_⟩) hS0 ?_
                      rotate_left
                      · intro w' hSw
                        have z2 := (hSw.cell (p := ⟨q, 2, none⟩) hqq.1 (fun e => e.elim HNB.out.1 HNB.out.2.1)).trans t2
                        have z3 := (hSw.cell (p := ⟨q, 3, none⟩) hqq.1 (fun e => e.elim HNB.out.1 HNB.out.2.1)).trans t3
                        have z4 := (hSw.cell (p := ⟨q, 4, none⟩) hqq.1 (fun e => e.elim HNB.out.1 HNB.out.2.1)).trans t4
                        have a0 := (hSw.cell (p := ⟨qr, 0, none⟩) hqq.2 (fun e => e.elim HNB.out.2.2.1 HNB.out.2.2.2)).trans s0
                        have a1 := (hSw.cell (p := ⟨qr, 1, none⟩) hqq.2 (fun e => e.elim HNB.out.2.2.1 HNB.out.2.2.2)).trans s1
                        have a2 := (hSw.cell (p := ⟨qr, 2, none⟩) hqq.2 (fun e => e.elim HNB.out.2.2.1 HNB.out.2.2.2)).trans s2
                        have a3 := (hSw.cell (p := ⟨qr, 3, none⟩) hqq.2 (fun e => e.elim HNB.out.2.2.1 HNB.out.2.2.2)).trans s3
                        try simp only [List.getElem_toArray, List.getElem_cons_zero, List.getElem_cons_succ]
                        go_simp
                        exact rfl
                      try simp only [Act.put, List.setIfInBounds_toArray, List.set_cons_zero, List.set_cons_succ, List.getElem_toArray, List.getElem_cons_zero, List.getElem_cons_succ]
                      refine mix.D_takeT (i := 2) (v := ?_) rfl (by kernel_rfl) (by kernel_rfl) (fun _ _ _ h => h) (Or.inl ⟨by first | rfl | simp [Region.wanted, yielded], ?_⟩) hS0 ?_
                      rotate_left
                      · intro w' hSw
                        have z2 := (hSw.cell (p := ⟨q, 2, none⟩) hqq.1 (fun e => e.elim HNB.out.1 HNB.out.2.1)).trans t2
                        have z3 := (hSw.cell (p := ⟨q, 3, none⟩) hqq.1 (fun e => e.elim HNB.out.1 HNB.out.2.1)).trans t3
                        have z4 := (hSw.cell (p := ⟨q, 4, none⟩) hqq.1 (fun e => e.elim HNB.out.1 HNB.out.2.1)).trans t4
                        have a0 := (hSw.cell (p := ⟨qr, 0, none⟩) hqq.2 (fun e => e.elim HNB.out.2.2.1 HNB.out.2.2.2)).trans s0
                        have a1 := (hSw.cell (p := ⟨qr, 1, none⟩) hqq.2 (fun e => e.elim HNB.out.2.2.1 HNB.out.2.2.2)).trans s1
                        have a2 := (hSw.cell (p := ⟨qr, 2, none⟩) hqq.2 (fun e => e.elim HNB.out.2.2.1 HNB.out.2.2.2)).trans s2
                        have a3 := (hSw.cell (p := ⟨qr, 3, none⟩) hqq.2 (fun e => e.elim HNB.out.2.2.1 HNB.out.2.2.2)).trans s3
                        try simp only [List.getElem_toArray, List.getElem_cons_zero, List.getElem_cons_succ]
                        go_simp
                        exact rfl
                      try simp only [Act.put, List.setIfInBounds_toArray, List.set_cons_zero, List.set_cons_succ, List.getElem_toArray, List.getElem_cons_zero, List.getElem_cons_succ]
                      refine mix.D_takeT (i := 3) (v := ?_) rfl (by kernel_rfl) (by kernel_rfl) (fun _ _ _ h => h) (Or.inl ⟨by first | rfl | simp [Region.wanted, yielded], ?_⟩) hS0 ?_
                      rotate_left
                      · intro w' hSw
                        have z2 := (hSw.cell (p := ⟨q, 2, none⟩) hqq.1 (fun e => e.elim HNB.out.1 HNB.out.2.1)).trans t2
                        have z3 := (hSw.cell (p := ⟨q, 3, none⟩) hqq.1 (fun e => e.elim HNB.out.1 HNB.out.2.1)).trans t3
                        have z4 := (hSw.cell (p := ⟨q, 4, none⟩) hqq.1 (fun e => e.elim HNB.out.1 HNB.out.2.1)).trans t4
                        have a0 := (hSw.cell (p := ⟨qr, 0, none⟩) hqq.2 (fun e => e.elim HNB.out.2.2.1 HNB.out.2.2.2)).trans s0
                        have a1 := (hSw.cell (p := ⟨qr, 1, none⟩) hqq.2 (fun e => e.elim HNB.out.2.2.1 HNB.out.2.2.2)).trans s1
                        have a2 := (hSw.cell (p := ⟨qr, 2, none⟩) hqq.2 (fun e => e.elim HNB.out.2.2.1 HNB.out.2.2.2)).trans s2
                        have a3 := (hSw.cell (p := ⟨qr, 3, none⟩) hqq.2 (fun e => e.elim HNB.out.2.2.1 HNB.out.2.2.2)).trans s3
                        try simp only [List.getElem_toArray, List.getElem_cons_zero, List.getElem_cons_succ]
                        go_simp
                        exact rfl
                      try simp only [Act.put, List.setIfInBounds_toArray, List.set_cons_zero, List.set_cons_succ, List.getElem_toArray, List.getElem_cons_zero, List.getElem_cons_succ]
                      refine mix.D_takeT (i := 5) (v := ?_) rfl (by kernel_rfl) (by kernel_rfl) (fun _ _ _ h => h) (Or.inl ⟨by first | rfl | simp [Region.wanted, yielded], ?_⟩) hS0 ?_
                      rotate_left
                      · intro w' hSw
                        have z2 := (hSw.cell (p := ⟨q, 2, none⟩) hqq.1 (fun e => e.elim HNB.out.1 HNB.out.2.1)).trans t2
                        have z3 := (hSw.cell (p := ⟨q, 3, none⟩) hqq.1 (fun e => e.elim HNB.out.1 HNB.out.2.1)).trans t3
                        have z4 := (hSw.cell (p := ⟨q, 4, none⟩) hqq.1 (fun e => e.elim HNB.out.1 HNB.out.2.1)).trans t4
                        have a0 := (hSw.cell (p := ⟨qr, 0, none⟩) hqq.2 (fun e => e.elim HNB.out.2.2.1 HNB.out.2.2.2)).trans s0
                        have a1 := (hSw.cell (p := ⟨qr, 1, none⟩) hqq.2 (fun e => e.elim HNB.out.2.2.1 HNB.out.2.2.2)).trans s1
                        have a2 := (hSw.cell (p := ⟨qr, 2, none⟩) hqq.2 (fun e => e.elim HNB.out.2.2.1 HNB.out.2.2.2)).trans s2
                        have a3 := (hSw.cell (p := ⟨qr, 3, none⟩) hqq.2 (fun e => e.elim HNB.out.2.2.1 HNB.out.2.2.2)).trans s3
                        try simp only [List.getElem_toArray, List.getElem_cons_zero, List.getElem_cons_succ]
                        go_simp
                        exact rfl
                      try simp only [Act.put, List.setIfInBounds_toArray, List.set_cons_zero, List.set_cons_succ, List.getElem_toArray, List.getElem_cons_zero, List.getElem_cons_succ]
                      refine mix.D_takeT (i := 6) (v := ?_) rfl (by kernel_rfl) (by kernel_rfl) (fun _ _ _ h => h) (Or.inl ⟨by first | rfl | simp [Region.wanted, yielded], ?_⟩) hS0 ?_
                      rotate_left
                      · intro w' hSw
                        have z2 := (hSw.cell (p := ⟨q, 2, none⟩) hqq.1 (fun e => e.elim HNB.out.1 HNB.out.2.1)).trans t2
                        have z3 := (hSw.cell (p := ⟨q, 3, none⟩) hqq.1 (fun e => e.elim HNB.out.1 HNB.out.2.1)).trans t3
                        have z4 := (hSw.cell (p := ⟨q, 4, none⟩) hqq.1 (fun e => e.elim HNB.out.1 HNB.out.2.1)).trans t4
                        have a0 := (hSw.cell (p := ⟨qr, 0, none⟩) hqq.2 (fun e => e.elim HNB.out.2.2.1 HNB.out.2.2.2)).trans s0
                        have a1 := (hSw.cell (p := ⟨qr, 1, none⟩) hqq.2 (fun e => e.elim HNB.out.2.2.1 HNB.out.2.2.2)).trans s1
                        have a2 := (hSw.cell (p := ⟨qr, 2, none⟩) hqq.2 (fun e => e.elim HNB.out.2.2.1 HNB.out.2.2.2)).trans s2
                        have a3 := (hSw.cell (p := ⟨qr, 3, none⟩) hqq.2 (fun e => e.elim HNB.out.2.2.1 HNB.out.2.2.2)).trans s3
                        try simp only [List.getElem_toArray, List.getElem_cons_zero, List.getElem_cons_succ]
                        go_simp
                        exact rfl
                      try simp only [Act.put, List.setIfInBounds_toArray, List.set_cons_zero, List.set_cons_succ, List.getElem_toArray, List.getElem_cons_zero, List.getElem_cons_succ]
                      refine mix.D_takeT (i := 7) (v := ?_) rfl (by kernel_rfl) (by kernel_rfl) (fun _ _ _ h => h) (Or.inl ⟨by first | rfl | simp [Region.wanted, yielded], ?_⟩) hS0 ?_
                      rotate_left
                      · intro w' hSw
                        have z2 := (hSw.cell (p := ⟨q, 2, none⟩) hqq.1 (fun e => e.elim HNB.out.1 HNB.out.2.1)).trans t2
                        have z3 := (hSw.cell (p := ⟨q, 3, none⟩) hqq.1 (fun e => e.elim HNB.out.1 HNB.out.2.1)).trans t3
                        have z4 := (hSw.cell (p := ⟨q, 4, none⟩) hqq.1 (fun e => e.elim HNB.out.1 HNB.out.2.1)).trans t4
                        have a0 := (hSw.cell (p := ⟨qr, 0, none⟩) hqq.2 (fun e => e.elim HNB.out.2.2.1 HNB.out.2.2.2)).trans s0
                        have a1 := (hSw.cell (p := ⟨qr, 1, none⟩) hqq.2 (fun e => e.elim HNB.out.2.2.1 HNB.out.2.2.2)).trans s1
                        have a2 := (hSw.cell (p := ⟨qr, 2, none⟩) hqq.2 (fun e => e.elim HNB.out.2.2.1 HNB.out.2.2.2)).trans s2
                        have a3 := (hSw.cell (p := ⟨qr, 3, none⟩) hqq.2 (fun e => e.elim HNB.out.2.2.1 HNB.out.2.2.2)).trans s3
                        try simp only [List.getElem_toArray, List.getElem_cons_zero, List.getElem_cons_succ]
                        go_simp
                        exact rfl
                      try simp only [Act.put, List.setIfInBounds_toArray, List.set_cons_zero, List.set_cons_succ, List.getElem_toArray, List.getElem_cons_zero, List.getElem_cons_succ]
                      refine mix.D_takeT (i := 8) (v := ?_) rfl (by kernel_rfl) (by kernel_rfl) (fun _ _ _ h => h) (Or.inl ⟨by first | rfl | simp [Region.wanted, yielded], ?_⟩) hS0 ?_
                      rotate_left
                      · intro w' hSw
                        have z2 := (hSw.cell (p := ⟨q, 2, none⟩) hqq.1 (fun e => e.elim HNB.out.1 HNB.out.2.1)).trans t2
                        have z3 := (hSw.cell (p := ⟨q, 3, none⟩) hqq.1 (fun e => e.elim HNB.out.1 HNB.out.2.1)).trans t3
                        have z4 := (hSw.cell (p := ⟨q, 4, none⟩) hqq.1 (fun e => e.elim HNB.out.1 HNB.out.2.1)).trans t4
                        have a0 := (hSw.cell (p := ⟨qr, 0, none⟩) hqq.2 (fun e => e.elim HNB.out.2.2.1 HNB.out.2.2.2)).trans s0
                        have a1 := (hSw.cell (p := ⟨qr, 1, none⟩) hqq.2 (fun e => e.elim HNB.out.2.2.1 HNB.out.2.2.2)).trans s1
                        have a2 := (hSw.cell (p := ⟨qr, 2, none⟩) hqq.2 (fun e => e.elim HNB.out.2.2.1 HNB.out.2.2.2)).trans s2
                        have a3 := (hSw.cell (p := ⟨qr, 3, none⟩) hqq.2 (fun e => e.elim HNB.out.2.2.1 HNB.out.2.2.2)).trans s3
                        try simp only [List.getElem_toArray, List.getElem_cons_zero, List.getElem_cons_succ]
                        go_simp
                        exact rfl
                      try simp only [Act.put, List.setIfInBounds_toArray, List.set_cons_zero, List.set_cons_succ, List.getElem_toArray, List.getElem_cons_zero, List.getElem_cons_succ]
                      refine mix.D_op (k := 4) rfl rfl (by kernel_rfl) (fun K' hK => ?_)
                      simp only [List.getElem_toArray, List.getElem_cons_zero, List.getElem_cons_succ]
                      go_wp2_with fail
                      have HDd := H4.out.next hd4
                      refine (put_ok HDd.ri.ca rk rg ro rn HFT.out lf es ks nA nc nQ nq _ (HDd.ri.arg HND.out).1 (HDd.ri.arg HND.out).2).mono ?_
                      rintro e w5 ⟨E5, l5, Z5, rfl, hE5, hc5, hk5, hz5⟩
                      have HC := vers.lay (And.intro hE5 (And.intro hc5 (And.intro hk5 hz5)))
                      have hs5 : Keep (fun b => Z b ∨ F b) W4 w5 := hS0.trans hk5 (fun b h _ => .inl h)
                      have hRF := vers.lay (HDd.left hk5)
                      have hbb := vers.lay (show Below w.heap.size w w5 from HDd.ri.below.trans (hk5.below HDd.ri.z HDd.ri.below.size))
                      clear hE5 hc5 hk5 hz5 HDd
                      refine hK.out _ _ (fun _ => hs5) ?_
                      clear hK K'
                      try simp only [Act.put, List.setIfInBounds_toArray, List.set_cons_zero, List.set_cons_succ]
                      refine mix.D_op (k := 9) rfl rfl (by kernel_rfl) (fun K' hK => ?_)
                      simp only [List.getElem_toArray, List.getElem_cons_zero, List.getElem_cons_succ]
                      go_wp2_with fail
                      refine (putR_ok hRF.out rk rg ro rn lf es ks nA nc nQ nq ⟨EsF.of ((HND.out.below hbb.out).more hbb.out.size).1, KsF.of ((HND.out.below hbb.out).more hbb.out.size).2⟩).mono ?_
                      rintro e w6 ⟨E6, v6, l6, F6, rfl, hE6, hr6, hk6, hn6⟩
                      have hs6 : Keep (fun b => Z b ∨ F b) W4 w6 := hs5.trans hk6 (fun b h _ => .inr h)
                      obtain ⟨hEE, hLL⟩ := same_ans (f := fun L => putP n L ⟨rk, rg, ro, rn⟩ (lf, es.map pe, ks)) HC.out.1 hE6 HDD.out.eq
                      subst hEE
                      have HN := vers.lay (HDD.out.both (k := j + 1) HC.out.2.1 HC.out.2.2.1 HC.out.2.2.2 (by have := HDD.out.ri.bf; omega) (by have := HDD.out.ri.bm; omega) (by rw [show l5.map H.ph = (putP n (l1.map H.ph) ⟨rk, rg, ro, rn⟩ (lf, es.map pe, ks)).2 by rw [← HC.out.1]]; exact (HDD.out.ri.bp.mono (by omega)).put _ _) (Below.refl _ _) hr6 hk6 hn6 hLL)
                      clear hE6 hr6 hk6 hn6 hLL
                      refine hK.out _ _ (fun _ => hs6) ?_
                      clear hK K'
                      try simp only [Act.put, List.setIfInBounds_toArray, List.set_cons_zero, List.set_cons_succ]
                      refine mix.D_takeT (i := 10) (v := ?_) rfl (by kernel_rfl) (by kernel_rfl) (fun _ _ _ h => h) (Or.inl ⟨by first | rfl | simp [Region.wanted, yielded], ?_⟩) hs6 ?_
                      rotate_left
                      · intro w' hSw
                        have z2 := (hSw.cell (p := ⟨q, 2, none⟩) hqq.1 (fun e => e.elim HNB.out.1 HNB.out.2.1)).trans t2
                        have z3 := (hSw.cell (p := ⟨q, 3, none⟩) hqq.1 (fun e => e.elim HNB.out.1 HNB.out.2.1)).trans t3
                        have z4 := (hSw.cell (p := ⟨q, 4, none⟩) hqq.1 (fun e => e.elim HNB.out.1 HNB.out.2.1)).trans t4
                        have a0 := (hSw.cell (p := ⟨qr, 0, none⟩) hqq.2 (fun e => e.elim HNB.out.2.2.1 HNB.out.2.2.2)).trans s0
                        have a1 := (hSw.cell (p := ⟨qr, 1, none⟩) hqq.2 (fun e => e.elim HNB.out.2.2.1 HNB.out.2.2.2)).trans s1
                        have a2 := (hSw.cell (p := ⟨qr, 2, none⟩) hqq.2 (fun e => e.elim HNB.out.2.2.1 HNB.out.2.2.2)).trans s2
                        have a3 := (hSw.cell (p := ⟨qr, 3, none⟩) hqq.2 (fun e => e.elim HNB.out.2.2.1 HNB.out.2.2.2)).trans s3
                        try simp only [List.getElem_toArray, List.getElem_cons_zero, List.getElem_cons_succ]
                        go_simp
                        exact rfl
                      try simp only [Act.put, List.setIfInBounds_toArray, List.set_cons_zero, List.set_cons_succ, List.getElem_toArray, List.getElem_cons_zero, List.getElem_cons_succ]
                      refine mix.D_done (by kernel_rfl) ?_ _
                      try simp only [Act.put, List.setIfInBounds_toArray, List.set_cons_zero, List.set_cons_succ, List.getElem_toArray, List.getElem_cons_zero, List.getElem_cons_succ]
                      clear hs5 hs6 hRF hbb HC
                      go_wp2_with fail
                      go_meet
                      exact ⟨_, _, _, _, _, _, _, HN⟩
        case rest =>
        as_aux_lemma =>
        obtain ⟨f2, m2, l3, Z2, F2, v2, l4, HR2⟩ := hcut
        have hhi := hits_ok HR2.out.ri.ca
        clear g0 g1
        go_upto_region 35 with (go_at_call 50; refine hhi.mono ?_; rintro e w9 ⟨rfl, hb9⟩)
        have HR9 := vers.lay (HR2.out.next hb9)
        obtain ⟨A8, c8, rfl, _⟩ := HR9.out.rf.slice
        obtain ⟨hrpl, _, y1, y2, y3⟩ := HR9.out.rf.head
        have hle : l4.length = l3.length := by have := congrArg List.length HR9.out.eq; simpa using this
        rw [hle] at y1
        clear hhi hb9
        obtain ⟨N, hN, hM⟩ := norms (fun wx => Below w9.heap.size w9 wx) w9 (Below.refl _ _)
        have hne : Nonempty World := ⟨w9⟩
        have m1 := fun n => ((hN n).cell (p := ⟨rp, 1, none⟩) hrpl).trans y1
        have mm2 := fun n => ((hN n).cell (p := ⟨rp, 2, none⟩) hrpl).trans y2
        have m3 := fun n => ((hN n).cell (p := ⟨rp, 3, none⟩) hrpl).trans y3
        have kp := fun n => kept_ok (HR9.out.next (hN n)).ri.ca
        refine region_class N (by kernel_rfl) (by kernel_rfl) (hM _ (Below.refl _ w9).drew) ?_
        repeat (go_big_quiet_step (first | (go_at_call 51; exact call_cls hN hM (kp _))))
        refine wpQuiet_nil ?_
        rintro _ ⟨n9, rfl⟩
        have HR10 := vers.lay (HR9.out.next (hN n9))
        generalize N n9 = wd at HR10 ⊢
        clear m1 mm2 m3 kp hM hN N n9 hne y1 y2 y3
        go_wp2_with fail
        go_roundw
        case rel => exact ⟨j + 1, by go_num, n1, f2, m2, l3, Z2, F2, _, l4, HR10⟩
        case measure => first | (simp [RowKit.intOf]; done) | (simp [RowKit.intOf]; omega) | omega
      · obtain rfl : j = L.length := by omega
        have hho := fun wd (hb : Below wr.heap.size wr wd) => holds_ok ((HR.out.next hb).ri.ca)
        obtain ⟨A2, c2, hv2, _⟩ := HR.out.rf.slice
        subst hv2
        obtain ⟨hrpl, _, x1, _, _⟩ := HR.out.rf.head
        have hS0 : Below wr.heap.size wr wr.drew := (Below.refl _ _).drew
        have x1d := (hS0.cell (p := ⟨rp, 1, none⟩) hrpl).trans x1
        go_upto_region 38 with (fail)
        go_region_with (first | (go_at_call 47; refine (hho _ hS0).mono ?_; rintro e w4 ⟨v5, l5, rfl, hm5, hd5, hb4⟩; have hs4 : Below wr.heap.size wr w4 := hS0.trans (hb4.mono hS0.size); obtain ⟨A5, c5, rfl, _⟩ := row_rdF hd5.1; have HD5 := vers.lay (hd5.hsr (fun b hb => hb.2) (by have e9 := congrArg List.length hm5; simp only [List.length_map] at e9; have := HR.out.ri.ca.len; have := HR.out.ri.ca.cap; omega)); have HM5 := vers.lay (show l5.map H.ph = l2.map H.ph by rw [hm5, HR.out.eq]); have x14 := (hs4.cell (p := ⟨rp, 1, none⟩) hrpl).trans x1; clear hd5 hm5) | (go_at_call 46; refine (likeR_ok l5 l2 A5 A2 c5 c2 _ HD5.out ((HR.out.rf.below hs4).hsr) HM5.out).mono ?_; rintro e w5 ⟨rfl, hb5⟩; have hs5 : Below wr.heap.size wr w5 := hs4.trans (hb5.mono hs4.size)))
        all_goals (go_wp2_with fail; go_ret; exact ⟨rfl, HR.out.ri.below.trans (hs5.mono HR.out.ri.below.size)⟩)
end Go.Proofs.Ytoenkkbcpafanaa.caches
