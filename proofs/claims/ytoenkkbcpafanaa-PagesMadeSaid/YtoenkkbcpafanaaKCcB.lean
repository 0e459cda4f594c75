/- Cache's Put. -/
import Derived.Test.YtoenkkbcpafanaaKCcA


namespace Go.Proofs.Ytoenkkbcpafanaa.caches
set_option linter.unusedVariables false
set_option linter.unusedSimpArgs false
open Go.RowKit Go.Proofs.Ytoenkkbcpafanaa.base Go.Proofs.Ytoenkkbcpafanaa.vers Go.Proofs.Ytoenkkbcpafanaa.nodes Go.Proofs.Ytoenkkbcpafanaa.trees

theorem run_put_in {P : Program} {e tS : TypeId} {i0 : TypeInfo} {size : Nat} (hun : P.underlying tS = some (.slice e)) (hi0 : P.info? e = some i0) (hz1 : i0.size = size)
    {w : World} {g n cap : Nat} {xs : List Value} {cs : Array Value} (ty : TypeId) (hown : w.ownsRow 0 e size (.slice (some ⟨g, 0, none⟩) n cap) n xs) (hcs : cs.toList.length = size) (h1 : ∀ u ∈ cs.toList, u.oneCell' = true) (hroom : n + 1 ≤ cap) :
    ∃ w', (Builtin.append_ #[tS, tS] ty #[.slice (some ⟨g, 0, none⟩) n cap, .slice (some ⟨w.heap.size, 0, none⟩) 1 1]).run P (w.alloc (.cells cs e)) = .ok (.slice (some ⟨g, 0, none⟩) (n + 1) cap) w' ∧ w'.ownsRow 0 e size (.slice (some ⟨g, 0, none⟩) (n + 1) cap) (n + 1) (xs ++ cs.toList) ∧ Keep (fun b => b = g) w w' ∧ w.heap.size + 1 ≤ w'.heap.size := by
  have hownA : (w.alloc (.cells cs e)).ownsRow 0 e size (.slice (some ⟨g, 0, none⟩) n cap) n xs := row_below hown ((Below.refl _ _).alloc (Nat.le_refl _) _)
  have hnews := World.news_of_block (cs := cs) (t := e) (fr := (0, 0)) (heap_alloc_new w (.cells cs e))
  obtain ⟨w', hr, ho', hg⟩ := run_append_fits (P := P) (w := w.alloc (.cells cs e)) 0 tS ty e i0 size hun hi0 hz1 g n cap xs hownA ⟨w.heap.size, 0, none⟩ 1 1 cs.toList (by omega) hnews h1 hroom
  have hz := hg.size
  simp only [World.size_alloc] at hz
  exact ⟨w', hr, ho', ⟨hg.os, hg.tape, hg.output, by omega, fun k hk hn => (hg.block k (by simp; omega) (fun e => hn (Option.some.inj e))).trans (Below.heap_alloc w _ k hk)⟩, hz⟩
theorem wp_put_in {e tS : TypeId} {i0 : TypeInfo} {size : Nat} (hun : Try.prog.underlying tS = some (.slice e)) (hi0 : Try.prog.info? e = some i0) (hz1 : i0.size = size)
    {o : Oper} {a : Act} {K : Act → World → Prop} {Q : Exit → Act → World → Prop} (s x : Operand) (ho : o.op = .call { callee := .builtin .append, args := #[s, x], argTypes := #[tS, tS] })
    {w : World} {g n cap : Nat} {xs : List Value} {cs : Array Value} (hown : w.ownsRow 0 e size (.slice (some ⟨g, 0, none⟩) n cap) n xs) (hs : a.eval s = .slice (some ⟨g, 0, none⟩) n cap) (hcs : cs.toList.length = size) (h1 : ∀ u ∈ cs.toList, u.oneCell' = true) {q : Nat} (hx : a.eval x = .slice (some ⟨q, 0, none⟩) 1 1) (hqz : q = w.heap.size) (hroom : n + 1 ≤ cap)
    (h : ∀ w', w'.ownsRow 0 e size (.slice (some ⟨g, 0, none⟩) (n + 1) cap) (n + 1) (xs ++ cs.toList) → Keep (fun b => b = g) w w' → w.heap.size + 1 ≤ w'.heap.size → K (a.put o.dst (.slice (some ⟨g, 0, none⟩) (n + 1) cap)) w') :
    Oper.wp Try.prog o a (w.alloc (.cells cs e)) K Q := by
  subst hqz
  obtain ⟨w', hr, h2, h3, h4⟩ := run_put_in hun hi0 hz1 o.type hown hcs h1 hroom
  unfold Oper.wp execOp
  simp only [ho, resolve, invoke, builtin, Sem.run_bind, Sem.run_pure, Result.andThen_ok, List.map_toArray, List.map_cons, List.map_nil, hs, hx, hr]
  exact h w' h2 h3 h4

def pinsAt (l : List PH) (i : Nat) : Nat := (l[i]?.map (fun x => x.2.2)).getD 0
def putP (room : Nat) (l : List PH) (r : R) (n : P3) : Int × List PH := match atR l r with
  | some i => (0, outL l i ++ [(r, n, pinsAt l i)])
  | none => if (makeP room l).1 = 0 then (0, (makeP room l).2 ++ [(r, n, 0)]) else makeP room l
theorem atR_lt {l : List PH} {r : R} {i : Nat} (h : atR l r = some i) : ∃ hi : i < l.length, l[i].1 = r := by
  unfold atR at h
  rw [List.findIdx?_eq_some_iff_getElem] at h
  obtain ⟨h, h1, _⟩ := h
  exact ⟨h, by simpa using h1⟩
theorem makeP_len {room : Nat} {l : List PH} (h : l.length ≤ room) (h0 : (makeP room l).1 = 0) : (makeP room l).2.length < room := by
  unfold makeP at h0 ⊢
  split
  · assumption
  · rename_i hc
    rw [if_neg hc] at h0
    split
    · rename_i e
      rw [e] at h0
      simp at h0
    · rename_i j e
      have hj : j < l.length := by
        unfold freeP at e
        rw [List.findIdx?_eq_some_iff_getElem] at e
        exact e.1
      show (outL l j).length < room
      rw [outL_len l hj]
      omega
section
variable {w w' w2 : World} {p g room f m : Nat} {Z : Nat → Prop} {l l' : List H}
theorem Ca.grow {W wx w9 w10 : World} {r : R} {y : N} {pn : Nat} (h : Ca wx p g Z room f m l) (hr : r.fits) (hb : Below wx.heap.size wx w9) (hy : OwnNF w9 (fun b => wx.heap.size ≤ b ∧ b < w9.heap.size) y) (ho : w10.ownsRow 0 110 8 (.slice (some ⟨g, 0, none⟩) (l.length + 1) room) (l.length + 1) (cellsH l ++ (⟨r, y, pn, fun b => wx.heap.size ≤ b ∧ b < w9.heap.size⟩ : H).cells)) (hk : Keep (fun b => b = g) w9 w10) (hW : W.heap.size ≤ wx.heap.size) :
    Ca (w10.setCell ⟨p, 0, none⟩ (.slice (some ⟨g, 0, none⟩) (l.length + 1) room)) p g (fun b => Z b ∨ (W.heap.size ≤ b ∧ b < (w10.setCell ⟨p, 0, none⟩ (.slice (some ⟨g, 0, none⟩) (l.length + 1) room)).heap.size)) room f m (l ++ [⟨r, y, pn, fun b => wx.heap.size ≤ b ∧ b < w9.heap.size⟩]) ∧ Keep Z wx (w10.setCell ⟨p, 0, none⟩ (.slice (some ⟨g, 0, none⟩) (l.length + 1) room)) := by
  have sz : (w10.setCell ⟨p, 0, none⟩ (.slice (some ⟨g, 0, none⟩) (l.length + 1) room)).heap.size = w10.heap.size := by simp
  rw [sz]
  have s9 := hb.size
  have s10 := hk.size
  have far : ∀ k, k ≠ p → (w10.setCell ⟨p, 0, none⟩ (.slice (some ⟨g, 0, none⟩) (l.length + 1) room)).heap[k]? = w10.heap[k]? := fun k hk => Below.heap_setCell _ _ _ _ (by simpa using hk)
  have hpl := h.head.1
  have hgl := h.head.2.1
  have kp : Blk w10 p _ _ := hk.blk (h.blk.below hb hpl) (fun e => h.ne e.symm)
  refine ⟨⟨?_, ?_, h.cap, h.ne, fun b hb => ?_, .inl h.zp, .inl h.zg, fun x hx => ?_, ?_, fun x hx => ?_⟩, ?_⟩
  · rw [List.length_append, List.length_singleton]
    simpa using kp.put 0 (.slice (some ⟨g, 0, none⟩) (l.length + 1) room)
  · rw [List.length_append, List.length_singleton, cellsH_app]
    exact ownsRow_agree (w := w10) (by simpa [cellsH] using ho) fun b hb => (by cases hb; exact far g h.ne)
  · rcases hb with hb | hb
    · have := h.zlt b hb; rw [sz]; omega
    · rw [sz]; exact hb.2
  · rcases List.mem_append.1 hx with hx | hx
    · have hN := h.node x hx
      refine ⟨hN.1.agree fun b hb' => ?_, fun b hb' => ⟨.inl (hN.2 b hb').1, (hN.2 b hb').2⟩⟩
      have hlt := h.zlt b (hN.2 b hb').1
      exact (far b (hN.2 b hb').2.1).trans ((hk.block b (by omega) (hN.2 b hb').2.2).trans (hb.block b hlt))
    · rw [List.mem_singleton.1 hx]
      refine ⟨hy.agree fun b hb' => ?_, fun b hb' => ⟨.inr ⟨by have := hb'.1; omega, by have := hb'.2; omega⟩, by have := hb'.1; omega, by have := hb'.1; omega⟩⟩
      exact (far b (by have := hb'.1; omega)).trans (hk.block b hb'.2 (by have := hb'.1; omega))
  · rw [List.pairwise_append]
    refine ⟨h.apart, List.pairwise_singleton _ _, fun x hx y hy b hb' hc => ?_⟩
    rw [List.mem_singleton.1 hy] at hc
    have := h.zlt b ((h.node x hx).2 b hb').1
    have := hc.1
    omega
  · rcases List.mem_append.1 hx with hx | hx
    · exact h.fits x hx
    · rw [List.mem_singleton.1 hx]; exact hr
  · refine ⟨hk.os.trans hb.os, hk.tape.trans hb.tape, hk.output.trans hb.output, by rw [sz]; omega, fun k hk1 hn => ?_⟩
    exact (far k (fun e => hn (e ▸ h.zp))).trans ((hk.block k (by omega) (fun e => hn (e ▸ h.zg))).trans (hb.block k hk1))

set_option maxRecDepth 100000 in
set_option maxHeartbeats 4000000 in
theorem put_ok (h : Ca w p g Z room f m l) (rk : Nat) (rg ro rn : Int) (hr : R.fits ⟨rk, rg, ro, rn⟩) (lf : Bool) (es : List E) (ks : List K) (A : Option Addr) (c : Nat) (Q : Option Addr) (q : Nat) (F : Nat → Prop) (hy : NsF w F ⟨lf, es, ks, A, c, Q, q⟩) (hF : ∀ b, F b → b < w.heap.size ∧ ¬ Z b) :
    Calls Try.prog 48 #[.pointer (some ⟨p, 0, none⟩), .agg #[.int .u64 (rk : Int), .int .i64 rg, .int .i64 ro, .int .i64 rn], .agg #[.bool lf, .slice A es.length c, .slice Q ks.length q]] w fun e w' => ∃ (E : Int) (l' : List H) (Z' : Nat → Prop), e = .returned (.int .i64 E) ∧ (E, l'.map H.ph) = putP room (l.map H.ph) ⟨rk, rg, ro, rn⟩ (lf, es.map pe, ks) ∧ Ca w' p g Z' room f m l' ∧ Keep Z w w' ∧ ∀ b, Z' b → Z b ∨ (w.heap.size ≤ b ∧ b < w'.heap.size) := by
  have bA : Below w.heap.size w ((w.alloc (.cells #[.int .u64 (rk : Int), .int .i64 rg, .int .i64 ro, .int .i64 rn] 27)).alloc (.cells #[.bool lf, .slice A es.length c, .slice Q ks.length q] 87)) := ((Below.refl _ _).alloc (Nat.le_refl _) _).alloc (by simp) _
  have k1 := (Blk.new w 27 #[.int .u64 (rk : Int), .int .i64 rg, .int .i64 ro, .int .i64 rn]).alloc (.cells #[.bool lf, .slice A es.length c, .slice Q ks.length q] 87)
  have k2 := Blk.new (w.alloc (.cells #[.int .u64 (rk : Int), .int .i64 rg, .int .i64 ro, .int .i64 rn] 27)) 87 #[.bool lf, .slice A es.length c, .slice Q ks.length q]
  rw [World.size_alloc] at k2
  have HH := vers.lay h
  have HR := vers.lay hr
  have HY0 := vers.lay hy
  have HF0 := vers.lay hF
  clear h hr hy hF
  go_enter Try.func48, Try.ntmps48
  go_upto_region 2 with (fail)
  generalize hWq : (w.alloc (.cells #[.int .u64 (rk : Int), .int .i64 rg, .int .i64 ro, .int .i64 rn] 27)).alloc (.cells #[.bool lf, .slice A es.length c, .slice Q ks.length q] 87) = W at *
  obtain ⟨q1, hq1e⟩ : ∃ q1, w.heap.size = q1 := ⟨_, rfl⟩
  have HQ := vers.lay hq1e
  rw [hq1e] at k1 k2 ⊢
  have hqs : W.heap.size = q1 + 2 := by rw [← hWq, ← hq1e]; simp
  clear hWq hq1e
  have HQS := vers.lay hqs
  clear hqs
  have H0 := vers.lay (HH.out.below bA)
  have hf := find_ok H0.out ⟨rk, rg, ro, rn⟩
  obtain ⟨b0, b1, b2, b3⟩ : W.cell? ⟨q1, 0, none⟩ = _ ∧ W.cell? ⟨q1, 1, none⟩ = _ ∧ W.cell? ⟨q1, 2, none⟩ = _ ∧ W.cell? ⟨q1, 3, none⟩ = _ := ⟨k1.cell 0, k1.cell 1, k1.cell 2, k1.cell 3⟩
  simp only [List.getElem?_toArray, List.getElem?_cons_zero, List.getElem?_cons_succ] at b0 b1 b2 b3
  have hq1l := k1.lt
  obtain ⟨at_, hat⟩ : ∃ at_, atR (l.map H.ph) ⟨rk, rg, ro, rn⟩ = at_ := ⟨_, rfl⟩
  rw [hat] at hf
  obtain ⟨z, hz⟩ : ∃ z, oi at_ = z := ⟨_, rfl⟩
  rw [hz] at hf
  have HZ := vers.lay hz
  clear hz
  have HAT := vers.lay hat
  have BA := vers.lay bA
  have K1 := vers.lay k1
  have K2 := vers.lay k2
  clear hat bA k1 k2
  go_upto_if 14 with (go_at_call 112; refine hf.mono ?_; rintro e1 w1 ⟨rfl, hb1⟩)
  have H1 := vers.lay (H0.out.below hb1)
  have BA1 := vers.lay (BA.out.trans (hb1.mono BA.out.size))
  have K11 := vers.lay (K1.out.below hb1 K1.out.lt)
  have K21 := vers.lay (K2.out.below hb1 K2.out.lt)
  have HS1 := vers.lay hb1.size
  clear hb1 hf b0 b1 b2 b3 hq1l K1 K2
  generalize hbb : decide (0 ≤ z) = bb
  have HBB := vers.lay hbb
  clear hbb
  go_cut [7] (fun s7 wx => ∃ (pn : Nat) (l1 : List H), s7 = .int .i64 (pn : Int) ∧ l1.length + 1 ≤ room ∧ Hid (Ca wx p g Z room f m l1) ∧ Hid (Keep Z w1 wx) ∧ Hid (putP room (l.map H.ph) ⟨rk, rg, ro, rn⟩ (lf, es.map pe, ks) = (0, l1.map H.ph ++ [(⟨rk, rg, ro, rn⟩, (lf, es.map pe, ks), pn)])))
  case first =>
    have hlen := HH.out.len
    have hcap := HH.out.cap
    cases hat : at_ with
    | some i =>
      have HA := vers.lay (HAT.out.trans hat)
      have hi : i < l.length := by obtain ⟨h, _⟩ := atR_lt HA.out; simpa using h
      obtain rfl : z = (i : Int) := by rw [← HZ.out, hat]; rfl
      obtain rfl : bb = true := by rw [← HBB.out]; exact decide_eq_true (by omega)
      have y7 := (H1.out.at_ hi).2.2.2.2.2.2.2
      obtain ⟨hp1, hg1, x0, _, _, _⟩ := H1.out.head
      have hW := wipe_ok H1.out hi
      have hpn : pinsAt (l.map H.ph) i = l[i].p := by unfold pinsAt; rw [List.getElem?_map, List.getElem?_eq_getElem hi]; rfl
      have HP := vers.lay (show putP room (l.map H.ph) ⟨rk, rg, ro, rn⟩ (lf, es.map pe, ks) = (0, (outL l i).map H.ph ++ [(⟨rk, rg, ro, rn⟩, (lf, es.map pe, ks), l[i].p)]) by unfold putP; rw [HA.out]; dsimp only; rw [hpn, outL_map])
      have HOL := vers.lay (outL_len l hi)
      have HI := vers.lay hi
      generalize l[i].p = pn at *
      have i1 : (0 : Int) ≤ (i : Int) := by omega
      have i2 : (i : Int) < (l.length : Int) := by omega
      obtain ⟨n, hn⟩ : ∃ n, n = l.length := ⟨_, rfl⟩
      rw [← hn] at x0 i2
      have HN := vers.lay (And.intro hn (And.intro hlen hcap))
      clear hpn hi hn hlen hcap hat
      go_wp2_with (go_at_call 119; refine hW.mono ?_; rintro e2 w2 ⟨rfl, h2, k2⟩)
      have hl2 : (outL l i).length + 1 ≤ room := by have := HOL.out; have := HN.out; have := HI.out; omega
      go_meet
      exact ⟨pn, outL l i, rfl, hl2, vers.lay h2, vers.lay k2, HP⟩
    | none =>
      have HA := vers.lay (HAT.out.trans hat)
      obtain rfl : z = -1 := by rw [← HZ.out, hat]; rfl
      obtain rfl : bb = false := by rw [← HBB.out]; rfl
      have hM := makeRoom_ok H1.out
      have HL := vers.lay (And.intro hlen hcap)
      clear hlen hcap hat
      go_upto_region 7 with (go_at_call 121; refine hM.mono ?_; rintro e2 w2 ⟨E, l2, rfl, hE, h2, k2⟩)
      have hm1 : (makeP room (l.map H.ph)).1 = E := by rw [← hE]
      have hm2 : (makeP room (l.map H.ph)).2 = l2.map H.ph := by rw [← hE]
      by_cases hE0 : E = 0
      · subst hE0
        have hl2 : l2.length + 1 ≤ room := by
          have := makeP_len (room := room) (l := l.map H.ph) (by rw [List.length_map]; exact HL.out.1) hm1
          rw [hm2, List.length_map] at this
          exact this
        have HP := vers.lay (show putP room (l.map H.ph) ⟨rk, rg, ro, rn⟩ (lf, es.map pe, ks) = (0, l2.map H.ph ++ [(⟨rk, rg, ro, rn⟩, (lf, es.map pe, ks), 0)]) by unfold putP; rw [HA.out]; dsimp only; rw [if_pos hm1, hm2])
        have H2 := vers.lay h2
        have K2' := vers.lay k2
        clear hm1 hm2 hE h2 k2
        go_wp2_with fail
        go_meet
        exact ⟨0, l2, rfl, hl2, H2, K2', HP⟩
      · have e1 : (E == 0) = false := by simpa using hE0
        have e2 : decide (E = 0) = false := decide_eq_false hE0
        have HP := vers.lay (show (E, l2.map H.ph) = putP room (l.map H.ph) ⟨rk, rg, ro, rn⟩ (lf, es.map pe, ks) by unfold putP; rw [HA.out]; dsimp only; rw [if_neg (by rw [hm1]; exact hE0), ← hE])
        have H2 := vers.lay h2
        have K2' := vers.lay k2
        clear hm1 hm2 hE h2 k2
        go_wp2_with fail
        go_ret
        exact ⟨E, l2, Z, rfl, HP.out, H2.out, Keep.trans (S := Z) (Keep.of_below BA1.out) K2'.out fun _ h _ => h, fun b h => .inl h⟩
  case rest =>
    obtain ⟨pn, l1, rfl, hl1, H2, HK2, HP⟩ := hcut
    generalize wc = W9 at *
    clear wc
    have hK := HK2.out
    have hKs := hK.size
    have hZ1 := H1.out.zlt
    have hqZ : ∀ b, q1 ≤ b → ¬ Z b := fun b hb h => by have := HH.out.zlt b h; have := HQ.out; omega
    have k1 := hK.blk K11.out (hqZ _ (Nat.le_refl _))
    have k2 := hK.blk K21.out (hqZ _ (by omega))
    have hq1 := k1.lt
    have hq2 := k2.lt
    have hgZ : g < q1 := by have := HH.out.zlt g HH.out.zg; have := HQ.out; omega
    have hg1 : q1 ≠ g := by omega
    have hg2 : q1 + 1 ≠ g := by omega
    obtain ⟨hpW, hgW, x0, _, _, _⟩ := H2.out.head
    obtain ⟨b0, b1, b2, b3⟩ : W9.cell? ⟨q1, 0, none⟩ = _ ∧ W9.cell? ⟨q1, 1, none⟩ = _ ∧ W9.cell? ⟨q1, 2, none⟩ = _ ∧ W9.cell? ⟨q1, 3, none⟩ = _ := ⟨k1.cell 0, k1.cell 1, k1.cell 2, k1.cell 3⟩
    obtain ⟨c0, c1, c2⟩ : W9.cell? ⟨q1 + 1, 0, none⟩ = _ ∧ W9.cell? ⟨q1 + 1, 1, none⟩ = _ ∧ W9.cell? ⟨q1 + 1, 2, none⟩ = _ := ⟨k2.cell 0, k2.cell 1, k2.cell 2⟩
    simp only [List.getElem?_toArray, List.getElem?_cons_zero, List.getElem?_cons_succ] at b0 b1 b2 b3 c0 c1 c2
    have hAg0 : Agree w W9 F := fun b hb => (hK.block b (by have := (HF0.out b hb).1; have := BA1.out.size; omega) (HF0.out b hb).2).trans (BA1.out.block b (HF0.out b hb).1)
    have hNs := HY0.out.agree hAg0
    have hAg : ∀ w', Keep (fun b => b = g) W9 w' → Agree W9 w' F := fun w' hk => hk.agree fun b hb => ⟨by have := (HF0.out b hb).1; have := BA1.out.size; omega, fun e => (HF0.out b hb).2 (e ▸ HH.out.zg)⟩
    have HKW := vers.lay (Keep.trans (S := Z) (Keep.of_below BA1.out) hK fun _ h _ => h)
    have HSZ := vers.lay (show w.heap.size ≤ W9.drew.heap.size from by have := BA1.out.size; show w.heap.size ≤ W9.heap.size; omega)
    have HBd := vers.lay ((Below.refl W9.heap.size W9).drew)
    have hS9 : Keep (fun b => b = g) W9 W9.drew := Keep.of_below HBd.out
    obtain ⟨i0, hi0, hz0, hz1, hz2⟩ := info_parts infoH
    clear hZ1 hqZ k1 k2 hgZ hAg0 hK hKs HK2
    have H1 := H2
    clear H2
    go_upto_region 9 with (fail)
    refine mix.region_D (fun w' => Keep (fun b => b = g) W9 w') (fun j => j == 14) (by kernel_rfl) ?_
    generalize W9.drew = Wd at *
    refine mix.D_takeT (i := 0) (v := ?_) rfl (by kernel_rfl) (by kernel_rfl) (fun _ _ _ h => h) (Or.inl ⟨by first | rfl | simp [Region.wanted, yielded], ?_⟩) hS9 ?_
    rotate_left
    · intro w' hSw
      have z0 := (hSw.cell (p := ⟨p, 0, none⟩) hpW (fun e => H1.out.ne e.symm)).trans x0
      have a0 := (hSw.cell (p := ⟨q1, 0, none⟩) hq1 hg1).trans b0
      have a1 := (hSw.cell (p := ⟨q1, 1, none⟩) hq1 hg1).trans b1
      have a2 := (hSw.cell (p := ⟨q1, 2, none⟩) hq1 hg1).trans b2
      have a3 := (hSw.cell (p := ⟨q1, 3, none⟩) hq1 hg1).trans b3
      have n0 := (hSw.cell (p := ⟨q1 + 1, 0, none⟩) hq2 hg2).trans c0
      have n1 := (hSw.cell (p := ⟨q1 + 1, 1, none⟩) hq2 hg2).trans c1
      have n2 := (hSw.cell (p := ⟨q1 + 1, 2, none⟩) hq2 hg2).trans c2
      try simp only [List.getElem_toArray, List.getElem_cons_zero, List.getElem_cons_succ]
      go_simp
      exact rfl
    try simp only [Act.put, List.setIfInBounds_toArray, List.set_cons_zero, List.set_cons_succ, List.getElem_toArray, List.getElem_cons_zero, List.getElem_cons_succ]
    refine mix.D_takeT (i := 1) (v := ?_) rfl (by kernel_rfl) (by kernel_rfl) (fun _ _ _ h => h) (Or.inl ⟨by first | rfl | simp [Region.wanted, yielded], ?_⟩) hS9 ?_
    rotate_left
    · intro w' hSw
      have z0 := (hSw.cell (p := ⟨p, 0, none⟩) hpW (fun e => H1.out.ne e.symm)).trans x0
      have a0 := (hSw.cell (p := ⟨q1, 0, none⟩) hq1 hg1).trans b0
      have a1 := (hSw.cell (p := ⟨q1, 1, none⟩) hq1 hg1).trans b1
      have a2 := (hSw.cell (p := ⟨q1, 2, none⟩) hq1 hg1).trans b2
      have a3 := (hSw.cell (p := ⟨q1, 3, none⟩) hq1 hg1).trans b3
      have n0 := (hSw.cell (p := ⟨q1 + 1, 0, none⟩) hq2 hg2).trans c0
      have n1 := (hSw.cell (p := ⟨q1 + 1, 1, none⟩) hq2 hg2).trans c1
      have n2 := (hSw.cell (p := ⟨q1 + 1, 2, none⟩) hq2 hg2).trans c2
      try simp only [List.getElem_toArray, List.getElem_cons_zero, List.getElem_cons_succ]
      go_simp
      exact rfl
    try simp only [Act.put, List.setIfInBounds_toArray, List.set_cons_zero, List.set_cons_succ, List.getElem_toArray, List.getElem_cons_zero, List.getElem_cons_succ]
    refine mix.D_takeT (i := 2) (v := ?_) rfl (by kernel_rfl) (by kernel_rfl) (fun _ _ _ h => h) (Or.inl ⟨by first | rfl | simp [Region.wanted, yielded], ?_⟩) hS9 ?_
    rotate_left
    · intro w' hSw
      have z0 := (hSw.cell (p := ⟨p, 0, none⟩) hpW (fun e => H1.out.ne e.symm)).trans x0
      have a0 := (hSw.cell (p := ⟨q1, 0, none⟩) hq1 hg1).trans b0
      have a1 := (hSw.cell (p := ⟨q1, 1, none⟩) hq1 hg1).trans b1
      have a2 := (hSw.cell (p := ⟨q1, 2, none⟩) hq1 hg1).trans b2
      have a3 := (hSw.cell (p := ⟨q1, 3, none⟩) hq1 hg1).trans b3
      have n0 := (hSw.cell (p := ⟨q1 + 1, 0, none⟩) hq2 hg2).trans c0
      have n1 := (hSw.cell (p := ⟨q1 + 1, 1, none⟩) hq2 hg2).trans c1
      have n2 := (hSw.cell (p := ⟨q1 + 1, 2, none⟩) hq2 hg2).trans c2
      try simp only [List.getElem_toArray, List.getElem_cons_zero, List.getElem_cons_succ]
      go_simp
      exact rfl
    try simp only [Act.put, List.setIfInBounds_toArray, List.set_cons_zero, List.set_cons_succ, List.getElem_toArray, List.getElem_cons_zero, List.getElem_cons_succ]
    refine mix.D_takeT (i := 3) (v := ?_) rfl (by kernel_rfl) (by kernel_rfl) (fun _ _ _ h => h) (Or.inl ⟨by first | rfl | simp [Region.wanted, yielded], ?_⟩) hS9 ?_
    rotate_left
    · intro w' hSw
      have z0 := (hSw.cell (p := ⟨p, 0, none⟩) hpW (fun e => H1.out.ne e.symm)).trans x0
      have a0 := (hSw.cell (p := ⟨q1, 0, none⟩) hq1 hg1).trans b0
      have a1 := (hSw.cell (p := ⟨q1, 1, none⟩) hq1 hg1).trans b1
      have a2 := (hSw.cell (p := ⟨q1, 2, none⟩) hq1 hg1).trans b2
      have a3 := (hSw.cell (p := ⟨q1, 3, none⟩) hq1 hg1).trans b3
      have n0 := (hSw.cell (p := ⟨q1 + 1, 0, none⟩) hq2 hg2).trans c0
      have n1 := (hSw.cell (p := ⟨q1 + 1, 1, none⟩) hq2 hg2).trans c1
      have n2 := (hSw.cell (p := ⟨q1 + 1, 2, none⟩) hq2 hg2).trans c2
      try simp only [List.getElem_toArray, List.getElem_cons_zero, List.getElem_cons_succ]
      go_simp
      exact rfl
    try simp only [Act.put, List.setIfInBounds_toArray, List.set_cons_zero, List.set_cons_succ, List.getElem_toArray, List.getElem_cons_zero, List.getElem_cons_succ]
    refine mix.D_takeT (i := 4) (v := ?_) rfl (by kernel_rfl) (by kernel_rfl) (fun _ _ _ h => h) (Or.inl ⟨by first | rfl | simp [Region.wanted, yielded], ?_⟩) hS9 ?_
    rotate_left
    · intro w' hSw
      have z0 := (hSw.cell (p := ⟨p, 0, none⟩) hpW (fun e => H1.out.ne e.symm)).trans x0
      have a0 := (hSw.cell (p := ⟨q1, 0, none⟩) hq1 hg1).trans b0
      have a1 := (hSw.cell (p := ⟨q1, 1, none⟩) hq1 hg1).trans b1
      have a2 := (hSw.cell (p := ⟨q1, 2, none⟩) hq1 hg1).trans b2
      have a3 := (hSw.cell (p := ⟨q1, 3, none⟩) hq1 hg1).trans b3
      have n0 := (hSw.cell (p := ⟨q1 + 1, 0, none⟩) hq2 hg2).trans c0
      have n1 := (hSw.cell (p := ⟨q1 + 1, 1, none⟩) hq2 hg2).trans c1
      have n2 := (hSw.cell (p := ⟨q1 + 1, 2, none⟩) hq2 hg2).trans c2
      try simp only [List.getElem_toArray, List.getElem_cons_zero, List.getElem_cons_succ]
      go_simp
      exact rfl
    try simp only [Act.put, List.setIfInBounds_toArray, List.set_cons_zero, List.set_cons_succ, List.getElem_toArray, List.getElem_cons_zero, List.getElem_cons_succ]
    refine mix.D_takeT (i := 5) (v := ?_) rfl (by kernel_rfl) (by kernel_rfl) (fun _ _ _ h => h) (Or.inl ⟨by first | rfl | simp [Region.wanted, yielded], ?_⟩) hS9 ?_
    rotate_left
    · intro w' hSw
      have z0 := (hSw.cell (p := ⟨p, 0, none⟩) hpW (fun e => H1.out.ne e.symm)).trans x0
      have a0 := (hSw.cell (p := ⟨q1, 0, none⟩) hq1 hg1).trans b0
      have a1 := (hSw.cell (p := ⟨q1, 1, none⟩) hq1 hg1).trans b1
      have a2 := (hSw.cell (p := ⟨q1, 2, none⟩) hq1 hg1).trans b2
      have a3 := (hSw.cell (p := ⟨q1, 3, none⟩) hq1 hg1).trans b3
      have n0 := (hSw.cell (p := ⟨q1 + 1, 0, none⟩) hq2 hg2).trans c0
      have n1 := (hSw.cell (p := ⟨q1 + 1, 1, none⟩) hq2 hg2).trans c1
      have n2 := (hSw.cell (p := ⟨q1 + 1, 2, none⟩) hq2 hg2).trans c2
      try simp only [List.getElem_toArray, List.getElem_cons_zero, List.getElem_cons_succ]
      go_simp
      exact rfl
    try simp only [Act.put, List.setIfInBounds_toArray, List.set_cons_zero, List.set_cons_succ, List.getElem_toArray, List.getElem_cons_zero, List.getElem_cons_succ]
    refine mix.D_takeT (i := 6) (v := ?_) rfl (by kernel_rfl) (by kernel_rfl) (fun _ _ _ h => h) (Or.inl ⟨by first | rfl | simp [Region.wanted, yielded], ?_⟩) hS9 ?_
    rotate_left
    · intro w' hSw
      have z0 := (hSw.cell (p := ⟨p, 0, none⟩) hpW (fun e => H1.out.ne e.symm)).trans x0
      have a0 := (hSw.cell (p := ⟨q1, 0, none⟩) hq1 hg1).trans b0
      have a1 := (hSw.cell (p := ⟨q1, 1, none⟩) hq1 hg1).trans b1
      have a2 := (hSw.cell (p := ⟨q1, 2, none⟩) hq1 hg1).trans b2
      have a3 := (hSw.cell (p := ⟨q1, 3, none⟩) hq1 hg1).trans b3
      have n0 := (hSw.cell (p := ⟨q1 + 1, 0, none⟩) hq2 hg2).trans c0
      have n1 := (hSw.cell (p := ⟨q1 + 1, 1, none⟩) hq2 hg2).trans c1
      have n2 := (hSw.cell (p := ⟨q1 + 1, 2, none⟩) hq2 hg2).trans c2
      try simp only [List.getElem_toArray, List.getElem_cons_zero, List.getElem_cons_succ]
      go_simp
      exact rfl
    try simp only [Act.put, List.setIfInBounds_toArray, List.set_cons_zero, List.set_cons_succ, List.getElem_toArray, List.getElem_cons_zero, List.getElem_cons_succ]
    refine mix.D_takeT (i := 8) (v := ?_) rfl (by kernel_rfl) (by kernel_rfl) (fun _ _ _ h => h) (Or.inl ⟨by first | rfl | simp [Region.wanted, yielded], ?_⟩) hS9 ?_
    rotate_left
    · intro w' hSw
      have z0 := (hSw.cell (p := ⟨p, 0, none⟩) hpW (fun e => H1.out.ne e.symm)).trans x0
      have a0 := (hSw.cell (p := ⟨q1, 0, none⟩) hq1 hg1).trans b0
      have a1 := (hSw.cell (p := ⟨q1, 1, none⟩) hq1 hg1).trans b1
      have a2 := (hSw.cell (p := ⟨q1, 2, none⟩) hq1 hg1).trans b2
      have a3 := (hSw.cell (p := ⟨q1, 3, none⟩) hq1 hg1).trans b3
      have n0 := (hSw.cell (p := ⟨q1 + 1, 0, none⟩) hq2 hg2).trans c0
      have n1 := (hSw.cell (p := ⟨q1 + 1, 1, none⟩) hq2 hg2).trans c1
      have n2 := (hSw.cell (p := ⟨q1 + 1, 2, none⟩) hq2 hg2).trans c2
      try simp only [List.getElem_toArray, List.getElem_cons_zero, List.getElem_cons_succ]
      go_simp
      exact rfl
    try simp only [Act.put, List.setIfInBounds_toArray, List.set_cons_zero, List.set_cons_succ, List.getElem_toArray, List.getElem_cons_zero, List.getElem_cons_succ]
    refine mix.D_op (k := 7) rfl rfl (by kernel_rfl) (fun K' hK => ?_)
    simp only [List.getElem_toArray, List.getElem_cons_zero, List.getElem_cons_succ]
    have hEs := (hNs.agree (hAg _ hS9)).1.es
    have hKs := (hNs.agree (hAg _ hS9)).2.ks
    go_wp2_with fail
    refine (copied_any lf es ks A c Q q Wd hEs hKs).mono ?_
    rintro e w9 ⟨y9, rfl, hy9p, hy9, hb9⟩
    have hs9 : Keep (fun b => b = g) W9 w9 := hS9.seq hb9
    have HY := vers.lay hy9
    have HYP := vers.lay hy9p
    have HB9 := vers.lay hb9
    clear hy9 hy9p hb9 hEs hKs
    refine hK.out _ _ (fun _ => hs9) ?_
    clear hK K'
    try simp only [Act.put, List.setIfInBounds_toArray, List.set_cons_zero, List.set_cons_succ]
    refine mix.D_takeT (i := 9) (v := ?_) rfl (by kernel_rfl) (by kernel_rfl) (fun _ _ _ h => h) (Or.inl ⟨by first | rfl | simp [Region.wanted, yielded], ?_⟩) hs9 ?_
    rotate_left
    · intro w' hSw
      have z0 := (hSw.cell (p := ⟨p, 0, none⟩) hpW (fun e => H1.out.ne e.symm)).trans x0
      have a0 := (hSw.cell (p := ⟨q1, 0, none⟩) hq1 hg1).trans b0
      have a1 := (hSw.cell (p := ⟨q1, 1, none⟩) hq1 hg1).trans b1
      have a2 := (hSw.cell (p := ⟨q1, 2, none⟩) hq1 hg1).trans b2
      have a3 := (hSw.cell (p := ⟨q1, 3, none⟩) hq1 hg1).trans b3
      have n0 := (hSw.cell (p := ⟨q1 + 1, 0, none⟩) hq2 hg2).trans c0
      have n1 := (hSw.cell (p := ⟨q1 + 1, 1, none⟩) hq2 hg2).trans c1
      have n2 := (hSw.cell (p := ⟨q1 + 1, 2, none⟩) hq2 hg2).trans c2
      try simp only [List.getElem_toArray, List.getElem_cons_zero, List.getElem_cons_succ]
      go_simp
      exact rfl
    try simp only [Act.put, List.setIfInBounds_toArray, List.set_cons_zero, List.set_cons_succ, List.getElem_toArray, List.getElem_cons_zero, List.getElem_cons_succ]
    refine mix.D_op (k := 10) rfl rfl (by kernel_rfl) (fun K' hK => ?_)
    simp only [List.getElem_toArray, List.getElem_cons_zero, List.getElem_cons_succ]
    go_wp2_with fail
    have hs10 : Keep (fun b => b = g) W9 (w9.alloc (.cells (⟨⟨rk, rg, ro, rn⟩, y9, pn, fun b => Wd.heap.size ≤ b ∧ b < w9.heap.size⟩ : H).cells.toArray 110)) := hs9.seq ((Below.refl _ _).alloc (Nat.le_refl _) _)
    refine hK.out _ _ (fun _ => hs10) ?_
    clear hK K'
    try simp only [Act.put, List.setIfInBounds_toArray, List.set_cons_zero, List.set_cons_succ]
    refine mix.D_op (k := 11) rfl rfl (by kernel_rfl) (fun K' hK => ?_)
    simp only [List.getElem_toArray, List.getElem_cons_zero, List.getElem_cons_succ]
    have hrow9 := (H1.out.below HBd.out).below HB9.out |>.row
    refine wp_put_in Try.underlying98 hi0 hz1 _ _ rfl hrow9 rfl rfl (by intro u hu; simp at hu; rcases hu with rfl | rfl | rfl | rfl | rfl | rfl | rfl | rfl <;> rfl) rfl rfl hl1 ?_
    intro w10 ho10 hk10 hz10
    have hs11 : Keep (fun b => b = g) W9 w10 := hs9.trans hk10 fun _ h _ => h
    refine hK.out _ _ (fun _ => hs11) ?_
    clear hK K'
    try simp only [Act.put, List.setIfInBounds_toArray, List.set_cons_zero, List.set_cons_succ]
    refine mix.D_takeT (i := 12) (v := ?_) rfl (by kernel_rfl) (by kernel_rfl) (fun _ _ _ h => h) (Or.inl ⟨by first | rfl | simp [Region.wanted, yielded], ?_⟩) hs11 ?_
    rotate_left
    · intro w' hSw
      have z0 := (hSw.cell (p := ⟨p, 0, none⟩) hpW (fun e => H1.out.ne e.symm)).trans x0
      have a0 := (hSw.cell (p := ⟨q1, 0, none⟩) hq1 hg1).trans b0
      have a1 := (hSw.cell (p := ⟨q1, 1, none⟩) hq1 hg1).trans b1
      have a2 := (hSw.cell (p := ⟨q1, 2, none⟩) hq1 hg1).trans b2
      have a3 := (hSw.cell (p := ⟨q1, 3, none⟩) hq1 hg1).trans b3
      have n0 := (hSw.cell (p := ⟨q1 + 1, 0, none⟩) hq2 hg2).trans c0
      have n1 := (hSw.cell (p := ⟨q1 + 1, 1, none⟩) hq2 hg2).trans c1
      have n2 := (hSw.cell (p := ⟨q1 + 1, 2, none⟩) hq2 hg2).trans c2
      try simp only [List.getElem_toArray, List.getElem_cons_zero, List.getElem_cons_succ]
      go_simp
      exact rfl
    try simp only [Act.put, List.setIfInBounds_toArray, List.set_cons_zero, List.set_cons_succ, List.getElem_toArray, List.getElem_cons_zero, List.getElem_cons_succ]
    refine mix.D_takeT (i := 13) (v := ?_) rfl (by kernel_rfl) (by kernel_rfl) (fun _ _ _ h => h) (Or.inl ⟨by first | rfl | simp [Region.wanted, yielded], ?_⟩) hs11 ?_
    rotate_left
    · intro w' hSw
      have z0 := (hSw.cell (p := ⟨p, 0, none⟩) hpW (fun e => H1.out.ne e.symm)).trans x0
      have a0 := (hSw.cell (p := ⟨q1, 0, none⟩) hq1 hg1).trans b0
      have a1 := (hSw.cell (p := ⟨q1, 1, none⟩) hq1 hg1).trans b1
      have a2 := (hSw.cell (p := ⟨q1, 2, none⟩) hq1 hg1).trans b2
      have a3 := (hSw.cell (p := ⟨q1, 3, none⟩) hq1 hg1).trans b3
      have n0 := (hSw.cell (p := ⟨q1 + 1, 0, none⟩) hq2 hg2).trans c0
      have n1 := (hSw.cell (p := ⟨q1 + 1, 1, none⟩) hq2 hg2).trans c1
      have n2 := (hSw.cell (p := ⟨q1 + 1, 2, none⟩) hq2 hg2).trans c2
      try simp only [List.getElem_toArray, List.getElem_cons_zero, List.getElem_cons_succ]
      go_simp
      exact rfl
    try simp only [Act.put, List.setIfInBounds_toArray, List.set_cons_zero, List.set_cons_succ, List.getElem_toArray, List.getElem_cons_zero, List.getElem_cons_succ]
    refine mix.D_op (k := 14) rfl rfl (by kernel_rfl) (fun K' hK => ?_)
    simp only [List.getElem_toArray, List.getElem_cons_zero, List.getElem_cons_succ]
    obtain ⟨cg, kz⟩ := Ca.grow (W := w) (H1.out.below HBd.out) HR.out HB9.out HY.out ho10 hk10 (HSZ.out)
    have kpp := hk10.blk ((H1.out.below HBd.out).below HB9.out).blk (fun e => H1.out.ne e.symm)
    have xp := kpp.cell 0
    have fp := kpp.frozen 0
    have lp := kpp.lt
    simp only [List.getElem?_toArray, List.getElem?_cons_zero, List.getElem?_cons_succ] at xp
    have HCG := vers.lay cg
    have HKZ := vers.lay kz
    clear cg kz kpp
    go_wp2_with fail
    refine hK.out _ _ (fun h => by simp at h) ?_
    clear hK K'
    try simp only [Act.put, List.setIfInBounds_toArray, List.set_cons_zero, List.set_cons_succ]
    refine mix.D_done (by kernel_rfl) ?_ _
    try simp only [Act.put, List.setIfInBounds_toArray, List.set_cons_zero, List.set_cons_succ, List.getElem_toArray, List.getElem_cons_zero, List.getElem_cons_succ]
    go_wp2_with fail
    go_ret
    refine ⟨0, _, _, rfl, ?_, HCG.out, Keep.trans (S := Z) HKW.out (Keep.trans (S := Z) (Keep.of_below HBd.out) HKZ.out fun _ h _ => h) fun _ h _ => h, fun b h => h⟩
    rw [List.map_append, List.map_singleton, HP.out]
    simp only [H.ph, HYP.out]
end
end Go.Proofs.Ytoenkkbcpafanaa.caches

/- Cache's Get, Wipe, Kept, Hits, New. -/

namespace Go.Proofs.Ytoenkkbcpafanaa.caches
set_option linter.unusedVariables false
set_option linter.unusedSimpArgs false
open Go.RowKit Go.Proofs.Ytoenkkbcpafanaa.base Go.Proofs.Ytoenkkbcpafanaa.vers Go.Proofs.Ytoenkkbcpafanaa.nodes Go.Proofs.Ytoenkkbcpafanaa.trees

section
variable {w w' w2 : World} {p g room f m f' m' : Nat} {Z : Nat → Prop} {l l' : List H}
theorem Ca.head' (h : Ca w p g Z room f m l) (hk : Keep (fun b => b = p) w w') (hb : Blk w' p 212 #[.slice (some ⟨g, 0, none⟩) l.length room, .int .i64 (room : Int), .int .i64 (f' : Int), .int .i64 (m' : Int)]) : Ca w' p g Z room f' m' l :=
  ⟨hb, ownsRow_agree h.row fun b hb => (by cases hb; exact hk.block g h.head.2.1 h.ne), h.cap, h.ne, fun b hb => Nat.lt_of_lt_of_le (h.zlt b hb) hk.size, h.zp, h.zg, fun x hx => ⟨(h.node x hx).1.agree (hk.agree fun b hb => ⟨h.zlt b ((h.node x hx).2 b hb).1, ((h.node x hx).2 b hb).2.1⟩), (h.node x hx).2⟩, h.apart, h.fits⟩
theorem keep_p (w : World) (q o : Nat) (u : Value) : Keep (fun b => b = q) w (w.setCell ⟨q, o, none⟩ u) := ⟨rfl, rfl, rfl, by simp, fun k _ hn => Below.heap_setCell _ _ _ _ (by simpa using hn)⟩
theorem Ca.hit (h : Ca w p g Z room f m l) : Ca (w.setCell ⟨p, 2, none⟩ (.int .i64 ((f : Int) + 1))) p g Z room (f + 1) m l := h.head' (keep_p w p 2 _) (by simpa using h.blk.put 2 (.int .i64 ((f : Int) + 1)))
theorem Ca.miss (h : Ca w p g Z room f m l) : Ca (w.setCell ⟨p, 3, none⟩ (.int .i64 ((m : Int) + 1))) p g Z room f (m + 1) l := h.head' (keep_p w p 3 _) (by simpa using h.blk.put 3 (.int .i64 ((m : Int) + 1)))

set_option maxRecDepth 100000 in
set_option maxHeartbeats 4000000 in
theorem get_no (h : Ca w p g Z room f m l) (rk : Nat) (rg ro rn : Int) (hat : atR (l.map H.ph) ⟨rk, rg, ro, rn⟩ = none) (hm : m < 4611686018427387904) :
    Calls Try.prog 35 #[.pointer (some ⟨p, 0, none⟩), .agg #[.int .u64 (rk : Int), .int .i64 rg, .int .i64 ro, .int .i64 rn]] w fun e w' => e = .returned (.tuple #[.agg #[.bool false, .slice none 0 0, .slice none 0 0], .bool false]) ∧ Ca w' p g Z room f (m + 1) l ∧ Keep (fun b => b = p) w w' := by
  have bA : Below w.heap.size w ((w.alloc (.cells #[.int .u64 (rk : Int), .int .i64 rg, .int .i64 ro, .int .i64 rn] 27)).alloc (.cells #[.bool false, .slice none 0 0, .slice none 0 0] 87)) := ((Below.refl _ _).alloc (Nat.le_refl _) _).alloc (by simp) _
  have k1 := (Blk.new w 27 #[.int .u64 (rk : Int), .int .i64 rg, .int .i64 ro, .int .i64 rn]).alloc (.cells #[.bool false, .slice none 0 0, .slice none 0 0] 87)
  have k2 := Blk.new (w.alloc (.cells #[.int .u64 (rk : Int), .int .i64 rg, .int .i64 ro, .int .i64 rn] 27)) 87 #[.bool false, .slice none 0 0, .slice none 0 0]
  rw [World.size_alloc] at k2
  have HH := vers.lay h
  clear h
  go_enter Try.func35, Try.ntmps35
  go_upto_region 1 with (fail)
  generalize hWq : (w.alloc (.cells #[.int .u64 (rk : Int), .int .i64 rg, .int .i64 ro, .int .i64 rn] 27)).alloc (.cells #[.bool false, .slice none 0 0, .slice none 0 0] 87) = W at *
  obtain ⟨q1, hq1e⟩ : ∃ q1, w.heap.size = q1 := ⟨_, rfl⟩
  have HQ := vers.lay hq1e
  rw [hq1e] at k1 k2 ⊢
  have hqs : W.heap.size = q1 + 2 := by rw [← hWq, ← hq1e]; simp
  clear hWq hq1e
  have HQS := vers.lay hqs
  clear hqs
  have H0 := vers.lay (HH.out.below bA)
  have hf := find_ok H0.out ⟨rk, rg, ro, rn⟩
  obtain ⟨b0, b1, b2, b3⟩ : W.cell? ⟨q1, 0, none⟩ = _ ∧ W.cell? ⟨q1, 1, none⟩ = _ ∧ W.cell? ⟨q1, 2, none⟩ = _ ∧ W.cell? ⟨q1, 3, none⟩ = _ := ⟨k1.cell 0, k1.cell 1, k1.cell 2, k1.cell 3⟩
  simp only [List.getElem?_toArray, List.getElem?_cons_zero, List.getElem?_cons_succ] at b0 b1 b2 b3
  have hq1l := k1.lt
  rw [hat] at hf
  clear hat
  have BA := vers.lay bA
  have K2 := vers.lay k2
  clear bA k1 k2
  have d1 : oi (none : Option Nat) = (-1 : Int) := rfl
  rw [d1] at hf
  clear d1
  go_upto_region 3 with (go_at_call 112; refine hf.mono ?_; rintro e1 w1 ⟨rfl, hb1⟩)
  have H1 := vers.lay (H0.out.below hb1)
  have BA1 := vers.lay (BA.out.trans (hb1.mono BA.out.size))
  have K21 := vers.lay (K2.out.below hb1 K2.out.lt)
  clear hb1 hf b0 b1 b2 b3 hq1l K2
  obtain ⟨hpW, hgW, _, _, _, x3⟩ := H1.out.head
  obtain ⟨_, _, _, f3⟩ := H1.out.frz
  have ew : IntKind.i64.wrap ((m : Int) + 1) = (m : Int) + 1 := IntWalk.i64_in _ (by omega)
  have H2 := vers.lay H1.out.miss
  have hne : p ≠ q1 + 1 := fun e => by have := HH.out.zlt p HH.out.zp; have := HQ.out; omega
  have K22 := (keep_p w1 p 3 (.int .i64 ((m : Int) + 1))).blk K21.out (fun e => hne e.symm)
  have KK := vers.lay (keep_p w1 p 3 (.int .i64 ((m : Int) + 1)))
  go_upto_region 4 with (fail)
  generalize w1.setCell ⟨p, 3, none⟩ (.int .i64 ((m : Int) + 1)) = w2 at *
  have c0 := K22.cell 0
  have c1 := K22.cell 1
  have c2 := K22.cell 2
  simp only [List.getElem?_toArray, List.getElem?_cons_zero, List.getElem?_cons_succ] at c0 c1 c2
  have g0 := K22.frozen 0
  have g1 := K22.frozen 1
  have g2 := K22.frozen 2
  have gl := K22.lt
  have HK22 := vers.lay K22
  clear K22 x3 f3
  have hzq : ∀ b, Z b → b ≠ q1 + 1 := fun b hb e => by have := HH.out.zlt b hb; have := HQ.out; omega
  have HZQ := vers.lay hzq
  clear hzq
  go_wp2_with fail
  have kk := three_blk HK22.out (.bool false) (.slice none 0 0) (.slice none 0 0)
  have far := three_heap w2 (q1 + 1) (.bool false) (.slice none 0 0) (.slice none 0 0)
  have fsz := three_size w2 (q1 + 1) (.bool false) (.slice none 0 0) (.slice none 0 0)
  unfold three at kk far fsz
  have z0 := kk.cell 0
  have z1 := kk.cell 1
  have z2 := kk.cell 2
  simp only [List.getElem?_toArray, List.getElem?_cons_zero, List.getElem?_cons_succ] at z0 z1 z2
  have hKf : Keep (fun b => b = q1 + 1) w2 (((w2.setCell ⟨q1 + 1, 0, none⟩ (.bool false)).setCell ⟨q1 + 1, 1, none⟩ (.slice none 0 0)).setCell ⟨q1 + 1, 2, none⟩ (.slice none 0 0)) := ⟨rfl, rfl, rfl, by rw [fsz]; exact Nat.le_refl _, fun k _ hn => far k hn⟩
  refine bodyPost_ret (v := .tuple #[.agg #[.bool false, .slice none 0 0, .slice none 0 0], .bool false]) (by simp [results, Try.results35, go_sem, z0, z1, z2]) rfl ⟨rfl, H2.out.keep hKf HZQ.out, ?_⟩
  exact (Keep.trans (S := fun b => b = p) (Keep.of_below BA1.out) KK.out fun _ h _ => h).trans hKf fun b h1 h2 => by have := HQ.out; omega

set_option maxRecDepth 100000 in
set_option maxHeartbeats 4000000 in
theorem get_yes (h : Ca w p g Z room f m l) (rk : Nat) (rg ro rn : Int) (i : Nat) (hat : atR (l.map H.ph) ⟨rk, rg, ro, rn⟩ = some i) (hi : i < l.length) (hm : f < 4611686018427387904) :
    Calls Try.prog 35 #[.pointer (some ⟨p, 0, none⟩), .agg #[.int .u64 (rk : Int), .int .i64 rg, .int .i64 ro, .int .i64 rn]] w fun e w' => ∃ y : N, e = .returned (.tuple #[.agg #[.bool y.lf, .slice y.A y.es.length y.c, .slice y.Q y.ks.length y.m], .bool true]) ∧ y.p = l[i].n.p ∧ OwnNF w' (fun b => w.heap.size ≤ b ∧ b < w'.heap.size) y ∧ Ca w' p g Z room (f + 1) m (mvL l i) ∧ Keep Z w w' := by
  have bA : Below w.heap.size w ((w.alloc (.cells #[.int .u64 (rk : Int), .int .i64 rg, .int .i64 ro, .int .i64 rn] 27)).alloc (.cells #[.bool false, .slice none 0 0, .slice none 0 0] 87)) := ((Below.refl _ _).alloc (Nat.le_refl _) _).alloc (by simp) _
  have k1 := (Blk.new w 27 #[.int .u64 (rk : Int), .int .i64 rg, .int .i64 ro, .int .i64 rn]).alloc (.cells #[.bool false, .slice none 0 0, .slice none 0 0] 87)
  have k2 := Blk.new (w.alloc (.cells #[.int .u64 (rk : Int), .int .i64 rg, .int .i64 ro, .int .i64 rn] 27)) 87 #[.bool false, .slice none 0 0, .slice none 0 0]
  rw [World.size_alloc] at k2
  have HH := vers.lay h
  clear h
  go_enter Try.func35, Try.ntmps35
  go_upto_region 1 with (fail)
  generalize hWq : (w.alloc (.cells #[.int .u64 (rk : Int), .int .i64 rg, .int .i64 ro, .int .i64 rn] 27)).alloc (.cells #[.bool false, .slice none 0 0, .slice none 0 0] 87) = W at *
  obtain ⟨q1, hq1e⟩ : ∃ q1, w.heap.size = q1 := ⟨_, rfl⟩
  have HQ := vers.lay hq1e
  rw [hq1e] at k1 k2 ⊢
  have hqs : W.heap.size = q1 + 2 := by rw [← hWq, ← hq1e]; simp
  clear hWq hq1e
  have HQS := vers.lay hqs
  clear hqs
  have H0 := vers.lay (HH.out.below bA)
  have hf := find_ok H0.out ⟨rk, rg, ro, rn⟩
  obtain ⟨b0, b1, b2, b3⟩ : W.cell? ⟨q1, 0, none⟩ = _ ∧ W.cell? ⟨q1, 1, none⟩ = _ ∧ W.cell? ⟨q1, 2, none⟩ = _ ∧ W.cell? ⟨q1, 3, none⟩ = _ := ⟨k1.cell 0, k1.cell 1, k1.cell 2, k1.cell 3⟩
  simp only [List.getElem?_toArray, List.getElem?_cons_zero, List.getElem?_cons_succ] at b0 b1 b2 b3
  have hq1l := k1.lt
  rw [hat] at hf
  clear hat
  have BA := vers.lay bA
  have K2 := vers.lay k2
  clear bA k1 k2
  have d1 : oi (some i) = (i : Int) := rfl
  rw [d1] at hf
  clear d1
  have i1 : (0 : Int) ≤ (i : Int) := by omega
  have i0 : decide ((i : Int) < 0) = false := decide_eq_false (by omega)
  have i2 : (i : Int) < (l.length : Int) := by omega
  go_upto_region 5 with (go_at_call 112; refine hf.mono ?_; rintro e1 w1 ⟨rfl, hb1⟩)
  have H1 := vers.lay (H0.out.below hb1)
  have BA1 := vers.lay (BA.out.trans (hb1.mono BA.out.size))
  have K21 := vers.lay (K2.out.below hb1 K2.out.lt)
  clear hb1 hf b0 b1 b2 b3 hq1l K2
  obtain ⟨hpW, hgW, x0, _, x2, _⟩ := H1.out.head
  obtain ⟨_, _, f2, _⟩ := H1.out.frz
  have ew : IntKind.i64.wrap ((f : Int) + 1) = (f : Int) + 1 := IntWalk.i64_in _ (by omega)
  have H2 := vers.lay H1.out.hit
  have hne : p ≠ q1 + 1 := fun e => by have := HH.out.zlt p HH.out.zp; have := HQ.out; omega
  have K22 := vers.lay ((keep_p w1 p 2 (.int .i64 ((f : Int) + 1))).blk K21.out (fun e => hne e.symm))
  have KK := vers.lay (keep_p w1 p 2 (.int .i64 ((f : Int) + 1)))
  clear x0
  go_upto_region 6 with (fail)
  generalize w1.setCell ⟨p, 2, none⟩ (.int .i64 ((f : Int) + 1)) = w2 at *
  have KW := vers.lay (Keep.trans (S := Z) (Keep.of_below BA1.out) (KK.out.mono (G := Z) fun b e _ => e ▸ H1.out.zp) fun _ h _ => h)
  have SW := vers.lay KK.out.size
  clear x2 f2 KK K21 H1 hpW hgW
  obtain ⟨hpW, hgW, x0, _, _, _⟩ := H2.out.head
  obtain ⟨_, _, _, _, y4, y5, y6, _⟩ := H2.out.at_ hi
  have hNi := H2.out.node _ (List.getElem_mem hi)
  have hNs := hNi.1.ns.mono (G := fun b => b < w2.heap.size) fun b hb => H2.out.zlt b (hNi.2 b hb).1
  have HM := vers.lay (fun w' (hc : Ca w' p g Z room (f + 1) m l) => putLast_ok hc hi)
  have HI := vers.lay hi
  clear hNi
  obtain ⟨x9, hx9⟩ : ∃ x9, l[i]'hi = x9 := ⟨_, rfl⟩
  rw [hx9] at y4 y5 y6 hNs
  obtain ⟨xr, ⟨lf, es, ks, A, c, Q, q⟩, xp, xF⟩ := x9
  have HYP := vers.lay (show (lf, es.map pe, ks) = (l[i]'hi).n.p from by rw [hx9]; rfl)
  clear hx9
  simp only at y4 y5 y6 hNs
  have hcp := copied_any lf es ks A c Q q w2 hNs.1.es hNs.2.ks
  clear hNs
  go_upto_region 7 with (go_at_call 113; refine hcp.mono ?_; rintro e2 w3 ⟨y9, rfl, hy9p, hy9, hb3⟩)
  have b4 : Below w3.heap.size w3 (w3.alloc (.cells #[.bool y9.lf, .slice y9.A y9.es.length y9.c, .slice y9.Q y9.ks.length y9.m] 87)) := (Below.refl _ _).alloc (Nat.le_refl _) _
  have K4 := vers.lay (Blk.new w3 87 #[.bool y9.lf, .slice y9.A y9.es.length y9.c, .slice y9.Q y9.ks.length y9.m])
  have H4 := vers.lay ((H2.out.below hb3).below b4)
  have HY := vers.lay (And.intro hy9p hy9)
  have B4 := vers.lay (And.intro hb3 b4)
  have hpl := HM.out _ H4.out
  obtain ⟨W4, hW4⟩ : ∃ W4, w3.alloc (.cells #[.bool y9.lf, .slice y9.A y9.es.length y9.c, .slice y9.Q y9.ks.length y9.m] 87) = W4 := ⟨_, rfl⟩
  obtain ⟨q4, hq4⟩ : ∃ q4, w3.heap.size = q4 := ⟨_, rfl⟩
  rw [hW4] at hpl K4 H4 B4 ⊢
  rw [hq4] at K4 ⊢
  have HQ4 := vers.lay hq4
  clear hy9p hy9 hb3 b4 hcp y4 y5 y6 x0 hW4 hq4
  go_upto_region 8 with (go_at_call 114; refine hpl.mono ?_; rintro e3 w5 ⟨rfl, h5, k5⟩)
  have s3 := B4.out.1.size
  have s4 := B4.out.2.size
  have s5 := k5.size
  have sq := K4.out.lt
  have hgq : g < q1 := by have := HH.out.zlt g HH.out.zg; have := HQ.out; omega
  have hq2 := HQS.out
  have hsW := BA1.out.size
  have sW := SW.out
  have sK := K22.out.lt
  have q4e := HQ4.out
  have k7 := k5.blk K4.out (fun e => by omega)
  have k6 := k5.blk ((K22.out.below B4.out.1 K22.out.lt).below B4.out.2 (by omega)) (fun e => by omega)
  have n0 := k7.cell 0
  have n1 := k7.cell 1
  have n2 := k7.cell 2
  have c0 := k6.cell 0
  have c1 := k6.cell 1
  have c2 := k6.cell 2
  simp only [List.getElem?_toArray, List.getElem?_cons_zero, List.getElem?_cons_succ] at n0 n1 n2 c0 c1 c2
  have g0 := k6.frozen 0
  have g1 := k6.frozen 1
  have g2 := k6.frozen 2
  have gl := k6.lt
  have gl4 := k7.lt
  have H5 := vers.lay h5
  have HK6 := vers.lay k6
  have HK5 := vers.lay k5
  clear h5 k6 k7 k5 hpl
  go_wp2_with fail
  have kk := three_blk HK6.out (.bool y9.lf) (.slice y9.A y9.es.length y9.c) (.slice y9.Q y9.ks.length y9.m)
  have far := three_heap w5 (q1 + 1) (.bool y9.lf) (.slice y9.A y9.es.length y9.c) (.slice y9.Q y9.ks.length y9.m)
  have fsz := three_size w5 (q1 + 1) (.bool y9.lf) (.slice y9.A y9.es.length y9.c) (.slice y9.Q y9.ks.length y9.m)
  unfold three at kk far fsz
  have z0 := kk.cell 0
  have z1 := kk.cell 1
  have z2 := kk.cell 2
  simp only [List.getElem?_toArray, List.getElem?_cons_zero, List.getElem?_cons_succ] at z0 z1 z2
  have hKf : Keep (fun b => b = q1 + 1) w5 (((w5.setCell ⟨q1 + 1, 0, none⟩ (.bool y9.lf)).setCell ⟨q1 + 1, 1, none⟩ (.slice y9.A y9.es.length y9.c)).setCell ⟨q1 + 1, 2, none⟩ (.slice y9.Q y9.ks.length y9.m)) := ⟨rfl, rfl, rfl, by rw [fsz]; exact Nat.le_refl _, fun k _ hn => far k hn⟩
  have hZq : ∀ b, Z b → b ≠ q1 + 1 := fun b hb e => by have := HH.out.zlt b hb; have := HQ.out; omega
  have hwq := HQ.out
  refine bodyPost_ret (v := .tuple #[y9.val, .bool true]) (by simp [results, Try.results35, go_sem, z0, z1, z2]) rfl ⟨y9, rfl, ?_, ?_, H5.out.keep hKf hZq, ?_⟩
  · rw [HY.out.1]; exact HYP.out
  · refine (HY.out.2.agree (w' := (((w5.setCell ⟨q1 + 1, 0, none⟩ (.bool y9.lf)).setCell ⟨q1 + 1, 1, none⟩ (.slice y9.A y9.es.length y9.c)).setCell ⟨q1 + 1, 2, none⟩ (.slice y9.Q y9.ks.length y9.m))) fun b hb => ?_).mono fun b hb => ⟨by omega, by rw [fsz]; omega⟩
    exact (far b (by omega)).trans ((HK5.out.block b (by omega) (by omega)).trans (B4.out.2.block b (by omega)))
  · refine (Keep.trans (S := Z) KW.out (Keep.trans (S := Z) (Keep.of_below (B4.out.1.trans (B4.out.2.mono s3))) (HK5.out.mono (G := Z) fun b e _ => e ▸ H4.out.zg) fun _ h _ => h) fun _ h _ => h).trans hKf fun b h1 h2 => by omega

end
end Go.Proofs.Ytoenkkbcpafanaa.caches

/- Cache's New, Kept, Hits, Wipe, Pin, Unpin. -/

namespace Go.Proofs.Ytoenkkbcpafanaa.caches
set_option linter.unusedVariables false
set_option linter.unusedSimpArgs false
open Go.RowKit Go.Proofs.Ytoenkkbcpafanaa.base Go.Proofs.Ytoenkkbcpafanaa.vers Go.Proofs.Ytoenkkbcpafanaa.nodes Go.Proofs.Ytoenkkbcpafanaa.trees

/-- one turned -/
def repL {α : Type} (φ : α → α) (l : List α) (i : Nat) : List α := l.take i ++ (l[i]?.map φ).toList ++ l.drop (i + 1)
theorem repL_eq {α : Type} (φ : α → α) (l : List α) {i : Nat} (hi : i < l.length) : repL φ l i = l.take i ++ φ l[i] :: l.drop (i + 1) := by unfold repL; rw [List.getElem?_eq_getElem hi]; simp
theorem repL_len {α : Type} (φ : α → α) (l : List α) {i : Nat} (hi : i < l.length) : (repL φ l i).length = l.length := by rw [repL_eq φ l hi]; simp; omega
theorem repL_map {α β : Type} (μ : α → β) (φ : α → α) (ψ : β → β) (hm : ∀ x, μ (φ x) = ψ (μ x)) (l : List α) {i : Nat} (hi : i < l.length) : (repL φ l i).map μ = repL ψ (l.map μ) i := by
  rw [repL_eq φ l hi, repL_eq ψ (l.map μ) (by simpa using hi)]
  simp [List.map_take, List.map_drop, hm]
def withPins (k : Nat) (x : PH) : PH := (x.1, x.2.1, k)
def H.pins (k : Nat) (x : H) : H := ⟨x.r, x.n, k, x.F⟩
theorem cellsH_pin (a t : List H) (x : H) (k : Nat) : (cellsH (a ++ x :: t)).set (a.length * 8 + 7) (.int .i64 (k : Int)) = cellsH (a ++ x.pins k :: t) := by
  have hl := cellsH_len a
  rw [cellsH_app, cellsH_app, cellsH, cellsH, List.set_append_right _ _ (by rw [hl]; omega), hl]
  simp only [Nat.add_sub_cancel_left]
  rfl
section
variable {w w' w2 : World} {p g room f m f' m' : Nat} {Z : Nat → Prop} {l l' : List H}
theorem Ca.pin (h : Ca w p g Z room f m l) {i : Nat} (hi : i < l.length) (k : Nat) : Ca (w.setCell ⟨g, i * 8 + 7, none⟩ (.int .i64 (k : Int))) p g Z room f m (repL (H.pins k) l i) ∧ Keep (fun b => b = g) w (w.setCell ⟨g, i * 8 + 7, none⟩ (.int .i64 (k : Int))) := by
  have hl : (l.take i).length = i := by rw [List.length_take]; omega
  have e : l = l.take i ++ l[i] :: l.drop (i + 1) := by rw [← List.drop_eq_getElem_cons hi, List.take_append_drop]
  have hk := keep_p w g (i * 8 + 7) (.int .i64 (k : Int))
  refine ⟨?_, hk⟩
  rw [repL_eq _ l hi]
  have hlen : (l.take i ++ l[i].pins k :: l.drop (i + 1)).length = l.length := by simp; omega
  have hrow := (h.row.stored (i * 8 + 7) (.int .i64 (k : Int))).1
  have hrow2 : (w.setCell ⟨g, i * 8 + 7, none⟩ (.int .i64 (k : Int))).ownsRow 0 110 8 (.slice (some ⟨g, 0, none⟩) l.length room) l.length (cellsH (l.take i ++ l[i].pins k :: l.drop (i + 1))) := by
    have h1 := cellsH_pin (l.take i) (l.drop (i + 1)) l[i] k
    rw [hl, ← e] at h1
    rw [← h1]
    exact hrow
  have hmem : ∀ x ∈ l.take i ++ l[i].pins k :: l.drop (i + 1), ∃ y ∈ l, x.n = y.n ∧ x.F = y.F ∧ x.r = y.r := fun x hx => by
    rcases List.mem_append.1 hx with h1 | h1
    · exact ⟨x, List.mem_of_mem_take h1, rfl, rfl, rfl⟩
    · rcases List.mem_cons.1 h1 with h1 | h1
      · exact ⟨l[i], List.getElem_mem hi, by rw [h1]; rfl, by rw [h1]; rfl, by rw [h1]; rfl⟩
      · exact ⟨x, List.mem_of_mem_drop h1, rfl, rfl, rfl⟩
  refine ⟨by rw [hlen]; exact hk.blk h.blk (fun e => h.ne e.symm), by rw [hlen]; exact hrow2, h.cap, h.ne, fun b hb => by simpa using h.zlt b hb, h.zp, h.zg, fun x hx => ?_, ?_, fun x hx => ?_⟩
  · obtain ⟨y, hy, e1, e2, _⟩ := hmem x hx
    rw [e1, e2]
    exact ⟨(h.node y hy).1.agree (hk.agree fun b hb => ⟨h.zlt b ((h.node y hy).2 b hb).1, ((h.node y hy).2 b hb).2.2⟩), (h.node y hy).2⟩
  · have hp := h.apart
    rw [e] at hp
    simp only [List.pairwise_append, List.pairwise_cons] at hp ⊢
    obtain ⟨h1, ⟨h2, h3⟩, h4⟩ := hp
    refine ⟨h1, ⟨h2, h3⟩, fun x hx y hy => ?_⟩
    rcases List.mem_cons.1 hy with e1 | e1
    · subst e1
      exact h4 x hx l[i] (List.mem_cons_self)
    · exact h4 x hx y (List.mem_cons_of_mem _ e1)
  · obtain ⟨y, hy, _, _, e3⟩ := hmem x hx
    rw [e3]
    exact h.fits y hy
set_option maxRecDepth 100000 in
set_option maxHeartbeats 4000000 in
theorem kept_ok (h : Ca w p g Z room f m l) : Calls Try.prog 51 #[.pointer (some ⟨p, 0, none⟩)] w fun e w' => e = .returned (.int .i64 (l.length : Int)) ∧ Below w.heap.size w w' := by
  obtain ⟨hp, hg, x0, _, _, _⟩ := h.head
  clear h
  go_enter Try.func51, Try.ntmps51
  go_wp2_with fail
  go_ret
  exact ⟨rfl, Below.refl _ _⟩
set_option maxRecDepth 100000 in
set_option maxHeartbeats 4000000 in
theorem hits_ok (h : Ca w p g Z room f m l) : Calls Try.prog 50 #[.pointer (some ⟨p, 0, none⟩)] w fun e w' => e = .returned (.tuple #[.int .i64 (f : Int), .int .i64 (m : Int)]) ∧ Below w.heap.size w w' := by
  obtain ⟨hp, hg, _, _, x2, x3⟩ := h.head
  clear h
  go_enter Try.func50, Try.ntmps50
  go_upto_region 1 with (fail)
  go_quiet (fail)
  go_wp2_with fail
  refine bodyPost_ret (v := .tuple #[.int .i64 (f : Int), .int .i64 (m : Int)]) (by simp [results, Try.results50, go_sem]) rfl ⟨rfl, below_drewN _ _⟩
set_option maxRecDepth 100000 in
set_option maxHeartbeats 4000000 in
theorem wipeAll_ok (h : Ca w p g Z room f m l) : Calls Try.prog 45 #[.pointer (some ⟨p, 0, none⟩)] w fun e w' => e = .returned (.tuple #[]) ∧ Ca w' p g Z room f m [] ∧ Keep Z w w' := by
  obtain ⟨hp, hg, x0, _, _, _⟩ := h.head
  have hFG := forget_any [] l g room room w h.row (by have := h.len; have := h.cap; simp only [List.nil_append]; omega) (fun y hy => (h.node y hy).1) (fun y hy b hb => h.zlt b ((h.node y hy).2 b hb).1) (fun y hy b hb => ((h.node y hy).2 b hb).2.2) h.apart
  simp only [List.length_nil, Nat.zero_mul] at hFG
  have HF := vers.lay hFG
  have HH := vers.lay h
  have hlen := h.len
  clear hFG h
  have o1 : (0 : Int) ≤ (room : Int) := by omega
  have o2 : (0 : Int) ≤ (l.length : Int) := by omega
  go_enter Try.func45, Try.ntmps45
  go_upto_region 1 with (go_at_call 120; refine HF.out.mono ?_; rintro e2 w2 ⟨rfl, hr2, k2⟩)
  obtain ⟨c2, z2⟩ := Ca.shorter (A := []) (L := l) (w' := w2) HH.out hr2 k2
  have kp := k2.blk HH.out.blk (by rintro (e | ⟨y, hy, e⟩); exact HH.out.ne e.symm; exact ((HH.out.node y hy).2 p e).2.1 rfl)
  have x2 := kp.cell 0
  have f2 := kp.frozen 0
  have l2 := kp.lt
  simp only [List.getElem?_toArray, List.getElem?_cons_zero, List.getElem?_cons_succ] at x2
  have HC2 := vers.lay c2
  have HZ2 := vers.lay z2
  clear c2 z2 hr2 k2 kp x0
  go_wp2_with fail
  refine bodyPost_end (v := .tuple #[]) (by simp [results, Try.results45, go_sem]) rfl ⟨rfl, HC2.out, HZ2.out⟩
def pinP (l : List PH) (r : R) : Int × List PH := match atR l r with
  | none => (3, l)
  | some i => (0, repL (withPins (pinsAt l i + 1)) l i)
def unpinP (l : List PH) (r : R) : Int × List PH := match atR l r with
  | none => (3, l)
  | some i => if pinsAt l i = 0 then (150, l) else (0, repL (withPins (pinsAt l i - 1)) l i)
theorem pinsAt_map (l : List H) {i : Nat} (hi : i < l.length) : pinsAt (l.map H.ph) i = l[i].p := by unfold pinsAt; rw [List.getElem?_map, List.getElem?_eq_getElem hi]; rfl
theorem pins_map (k : Nat) (l : List H) {i : Nat} (hi : i < l.length) : (repL (H.pins k) l i).map H.ph = repL (withPins k) (l.map H.ph) i := repL_map H.ph (H.pins k) (withPins k) (fun _ => rfl) l hi

set_option maxRecDepth 100000 in
set_option maxHeartbeats 4000000 in
theorem pin_ok (h : Ca w p g Z room f m l) (rk : Nat) (rg ro rn : Int) (hp : ∀ x ∈ l, x.p < 4611686018427387904) :
    Calls Try.prog 38 #[.pointer (some ⟨p, 0, none⟩), .agg #[.int .u64 (rk : Int), .int .i64 rg, .int .i64 ro, .int .i64 rn]] w fun e w' => ∃ (E : Int) (l' : List H), e = .returned (.int .i64 E) ∧ (E, l'.map H.ph) = pinP (l.map H.ph) ⟨rk, rg, ro, rn⟩ ∧ Ca w' p g Z room f m l' ∧ Keep Z w w' := by
  have HP := vers.lay hp
  clear hp
  have bA : Below w.heap.size w (w.alloc (.cells #[.int .u64 (rk : Int), .int .i64 rg, .int .i64 ro, .int .i64 rn] 27)) := (Below.refl _ _).alloc (Nat.le_refl _) _
  have k1 := Blk.new w 27 #[.int .u64 (rk : Int), .int .i64 rg, .int .i64 ro, .int .i64 rn]
  have HH := vers.lay h
  clear h
  go_enter Try.func38, Try.ntmps38
  go_upto_region 1 with (fail)
  generalize hWq : w.alloc (.cells #[.int .u64 (rk : Int), .int .i64 rg, .int .i64 ro, .int .i64 rn] 27) = W at *
  obtain ⟨q1, hq1e⟩ : ∃ q1, w.heap.size = q1 := ⟨_, rfl⟩
  have HQ := vers.lay hq1e
  rw [hq1e] at k1 ⊢
  clear hWq hq1e
  have H0 := vers.lay (HH.out.below bA)
  have hf := find_ok H0.out ⟨rk, rg, ro, rn⟩
  obtain ⟨b0, b1, b2, b3⟩ : W.cell? ⟨q1, 0, none⟩ = _ ∧ W.cell? ⟨q1, 1, none⟩ = _ ∧ W.cell? ⟨q1, 2, none⟩ = _ ∧ W.cell? ⟨q1, 3, none⟩ = _ := ⟨k1.cell 0, k1.cell 1, k1.cell 2, k1.cell 3⟩
  simp only [List.getElem?_toArray, List.getElem?_cons_zero, List.getElem?_cons_succ] at b0 b1 b2 b3
  have hq1l := k1.lt
  have BA := vers.lay bA
  clear bA k1
  cases hat : atR (l.map H.ph) ⟨rk, rg, ro, rn⟩ with
  | none =>
    have hE := vers.lay (show (3, l.map H.ph) = pinP (l.map H.ph) ⟨rk, rg, ro, rn⟩ by unfold pinP; rw [hat])
    rw [hat] at hf
    have d1 : oi (none : Option Nat) = (-1 : Int) := rfl
    rw [d1] at hf
    clear d1 hat
    go_wp2_with (go_at_call 112; refine hf.mono ?_; rintro e1 w1 ⟨rfl, hb1⟩)
    go_ret
    exact ⟨3, l, rfl, hE.out, H0.out.below hb1, Keep.of_below (BA.out.trans (hb1.mono BA.out.size))⟩
  | some i =>
    have hi : i < l.length := by obtain ⟨h, _⟩ := atR_lt hat; simpa using h
    have hE := vers.lay (fun E L (h : (E, L) = pinP (l.map H.ph) ⟨rk, rg, ro, rn⟩) => h)
    have HAT := vers.lay hat
    rw [hat] at hf
    have d1 : oi (some i) = (i : Int) := rfl
    rw [d1] at hf
    have i1 : (0 : Int) ≤ (i : Int) := by omega
    have i0 : decide ((i : Int) < 0) = false := decide_eq_false (by omega)
    have i2 : (i : Int) < (l.length : Int) := by omega
    have hpi := HP.out _ (List.getElem_mem hi)
    have HPA := vers.lay (pinsAt_map l hi)
    have HPM := vers.lay (fun k => pins_map k l hi)
    have HPN := vers.lay (fun w' (hc : Ca w' p g Z room f m l) k => hc.pin hi k)
    have H7 := vers.lay (fun w' (hc : Ca w' p g Z room f m l) => (hc.at_ hi).2.2.2.2.2.2.2)
    have HFZ := vers.lay (fun w' (hc : Ca w' p g Z room f m l) => hc.row.frozenAt (i * 8 + 7))
    obtain ⟨pn, hpn⟩ : ∃ pn, (l[i]'hi).p = pn := ⟨_, rfl⟩
    rw [hpn] at hpi HPA H7
    clear d1 hat hpn hi
    go_upto_region 4 with (go_at_call 112; refine hf.mono ?_; rintro e1 w1 ⟨rfl, hb1⟩)
    have H1 := vers.lay (H0.out.below hb1)
    have BA1 := vers.lay (BA.out.trans (hb1.mono BA.out.size))
    clear hf b0 b1 b2 b3 hq1l hb1
    obtain ⟨hpW, hgW, x0, _, _, _⟩ := H1.out.head
    have y7 := H7.out _ H1.out
    have f7 := HFZ.out _ H1.out
    have ew : IntKind.i64.wrap ((pn : Int) + 1) = ((pn + 1 : Nat) : Int) := by rw [IntWalk.i64_in _ (by omega)]; rfl
    obtain ⟨cp, kp⟩ := HPN.out _ H1.out (pn + 1)
    have hE2 := vers.lay (show (0, (repL (H.pins (pn + 1)) l i).map H.ph) = pinP (l.map H.ph) ⟨rk, rg, ro, rn⟩ by unfold pinP; rw [HAT.out]; dsimp only; rw [HPA.out, HPM.out])
    have HCP := vers.lay cp
    have HKP := vers.lay (kp.mono (G := Z) fun b e _ => e ▸ H1.out.zg)
    clear cp kp
    go_wp2_with fail
    go_ret
    exact ⟨0, repL (H.pins (pn + 1)) l i, rfl, hE2.out, HCP.out, Keep.trans (S := Z) (Keep.of_below BA1.out) HKP.out fun _ h _ => h⟩

set_option maxRecDepth 100000 in
set_option maxHeartbeats 4000000 in
theorem unpin_ok (h : Ca w p g Z room f m l) (rk : Nat) (rg ro rn : Int) (hp : ∀ x ∈ l, x.p < 4611686018427387904) :
    Calls Try.prog 40 #[.pointer (some ⟨p, 0, none⟩), .agg #[.int .u64 (rk : Int), .int .i64 rg, .int .i64 ro, .int .i64 rn]] w fun e w' => ∃ (E : Int) (l' : List H), e = .returned (.int .i64 E) ∧ (E, l'.map H.ph) = unpinP (l.map H.ph) ⟨rk, rg, ro, rn⟩ ∧ Ca w' p g Z room f m l' ∧ Keep Z w w' := by
  have HP := vers.lay hp
  clear hp
  have bA : Below w.heap.size w (w.alloc (.cells #[.int .u64 (rk : Int), .int .i64 rg, .int .i64 ro, .int .i64 rn] 27)) := (Below.refl _ _).alloc (Nat.le_refl _) _
  have k1 := Blk.new w 27 #[.int .u64 (rk : Int), .int .i64 rg, .int .i64 ro, .int .i64 rn]
  have HH := vers.lay h
  clear h
  go_enter Try.func40, Try.ntmps40
  go_upto_region 1 with (fail)
  generalize hWq : w.alloc (.cells #[.int .u64 (rk : Int), .int .i64 rg, .int .i64 ro, .int .i64 rn] 27) = W at *
  obtain ⟨q1, hq1e⟩ : ∃ q1, w.heap.size = q1 := ⟨_, rfl⟩
  have HQ := vers.lay hq1e
  rw [hq1e] at k1 ⊢
  clear hWq hq1e
  have H0 := vers.lay (HH.out.below bA)
  have hf := find_ok H0.out ⟨rk, rg, ro, rn⟩
  obtain ⟨b0, b1, b2, b3⟩ : W.cell? ⟨q1, 0, none⟩ = _ ∧ W.cell? ⟨q1, 1, none⟩ = _ ∧ W.cell? ⟨q1, 2, none⟩ = _ ∧ W.cell? ⟨q1, 3, none⟩ = _ := ⟨k1.cell 0, k1.cell 1, k1.cell 2, k1.cell 3⟩
  simp only [List.getElem?_toArray, List.getElem?_cons_zero, List.getElem?_cons_succ] at b0 b1 b2 b3
  have hq1l := k1.lt
  have BA := vers.lay bA
  clear bA k1
  cases hat : atR (l.map H.ph) ⟨rk, rg, ro, rn⟩ with
  | none =>
    have hE := vers.lay (show (3, l.map H.ph) = unpinP (l.map H.ph) ⟨rk, rg, ro, rn⟩ by unfold unpinP; rw [hat])
    rw [hat] at hf
    have d1 : oi (none : Option Nat) = (-1 : Int) := rfl
    rw [d1] at hf
    clear d1 hat
    go_wp2_with (go_at_call 112; refine hf.mono ?_; rintro e1 w1 ⟨rfl, hb1⟩)
    go_ret
    exact ⟨3, l, rfl, hE.out, H0.out.below hb1, Keep.of_below (BA.out.trans (hb1.mono BA.out.size))⟩
  | some i =>
    have hi : i < l.length := by obtain ⟨h, _⟩ := atR_lt hat; simpa using h
    have hE := vers.lay (fun E L (h : (E, L) = unpinP (l.map H.ph) ⟨rk, rg, ro, rn⟩) => h)
    have HAT := vers.lay hat
    rw [hat] at hf
    have d1 : oi (some i) = (i : Int) := rfl
    rw [d1] at hf
    have i1 : (0 : Int) ≤ (i : Int) := by omega
    have i0 : decide ((i : Int) < 0) = false := decide_eq_false (by omega)
    have i2 : (i : Int) < (l.length : Int) := by omega
    have hpi := HP.out _ (List.getElem_mem hi)
    have HPA := vers.lay (pinsAt_map l hi)
    have HPM := vers.lay (fun k => pins_map k l hi)
    have HPN := vers.lay (fun w' (hc : Ca w' p g Z room f m l) k => hc.pin hi k)
    have H7 := vers.lay (fun w' (hc : Ca w' p g Z room f m l) => (hc.at_ hi).2.2.2.2.2.2.2)
    have HFZ := vers.lay (fun w' (hc : Ca w' p g Z room f m l) => hc.row.frozenAt (i * 8 + 7))
    obtain ⟨pn, hpn⟩ : ∃ pn, (l[i]'hi).p = pn := ⟨_, rfl⟩
    rw [hpn] at hpi HPA H7
    clear d1 hat hpn hi
    go_upto_region 4 with (go_at_call 112; refine hf.mono ?_; rintro e1 w1 ⟨rfl, hb1⟩)
    have H1 := vers.lay (H0.out.below hb1)
    have BA1 := vers.lay (BA.out.trans (hb1.mono BA.out.size))
    clear hf b0 b1 b2 b3 hq1l hb1
    obtain ⟨hpW, hgW, x0, _, _, _⟩ := H1.out.head
    have y7 := H7.out _ H1.out
    have f7 := HFZ.out _ H1.out
    rcases Nat.eq_zero_or_pos pn with h0 | h0
    · subst h0
      have hE2 := vers.lay (show (150, l.map H.ph) = unpinP (l.map H.ph) ⟨rk, rg, ro, rn⟩ by unfold unpinP; rw [HAT.out]; dsimp only; rw [HPA.out, if_pos rfl])
      go_wp2_with fail
      go_ret
      exact ⟨150, l, rfl, hE2.out, H1.out, Keep.of_below BA1.out⟩
    · obtain ⟨k, rfl⟩ : ∃ k, pn = k + 1 := ⟨pn - 1, by omega⟩
      have d7 : (((k + 1 : Nat) : Int) == 0) = false := by simp; omega
      have d8 : decide (((k + 1 : Nat) : Int) = 0) = false := decide_eq_false (by omega)
      have d9 : ((k : Int) + 1 == 0) = false := by simp; omega
      have d5 : decide ((k : Int) + 1 = 0) = false := decide_eq_false (by omega)
      have ew : IntKind.i64.wrap (((k + 1 : Nat) : Int) - 1) = (k : Int) := by rw [IntWalk.i64_in _ (by omega)]; omega
      have ew2 : IntKind.i64.wrap ((k : Int) + 1 - 1) = (k : Int) := by rw [IntWalk.i64_in _ (by omega)]; omega
      have ew3 : IntKind.i64.wrap (k : Int) = (k : Int) := IntWalk.i64_in _ (by omega)
      obtain ⟨cp, kp⟩ := HPN.out _ H1.out k
      have hE2 := vers.lay (show (0, (repL (H.pins k) l i).map H.ph) = unpinP (l.map H.ph) ⟨rk, rg, ro, rn⟩ by unfold unpinP; rw [HAT.out]; dsimp only; rw [HPA.out, if_neg (by omega), Nat.add_sub_cancel, HPM.out])
      have HCP := vers.lay cp
      have HKP := vers.lay (kp.mono (G := Z) fun b e _ => e ▸ H1.out.zg)
      clear cp kp
      go_wp2_with fail
      go_ret
      exact ⟨0, repL (H.pins k) l i, rfl, hE2.out, HCP.out, Keep.trans (S := Z) (Keep.of_below BA1.out) HKP.out fun _ h _ => h⟩

end
set_option maxRecDepth 100000 in
set_option maxHeartbeats 4000000 in
theorem new_no (n : Int) (w : World) (hn : n < 0 ∨ 32 < n) : Calls Try.prog 31 #[.int .i64 n] w fun e w' => e = .returned (.tuple #[.pointer none, .int .i64 1]) ∧ w' = w := by
  rcases hn with h | h
  · have d0 : decide (n < 0) = true := decide_eq_true h
    go_enter Try.func31, Try.ntmps31
    go_wp2_with fail
    refine bodyPost_ret (v := .tuple #[.pointer none, .int .i64 1]) (by simp [results, Try.results31, go_sem]) rfl ⟨rfl, rfl⟩
  · have d0 : decide (n < 0) = false := decide_eq_false (by omega)
    have d1 : decide (32 < n) = true := decide_eq_true h
    go_enter Try.func31, Try.ntmps31
    go_wp2_with fail
    refine bodyPost_ret (v := .tuple #[.pointer none, .int .i64 1]) (by simp [results, Try.results31, go_sem]) rfl ⟨rfl, rfl⟩
set_option maxRecDepth 100000 in
set_option maxHeartbeats 4000000 in
theorem new_ok (n : Nat) (w : World) (hn : n ≤ 32) : Calls Try.prog 31 #[.int .i64 (n : Int)] w fun e w' => ∃ p g, e = .returned (.tuple #[.pointer (some ⟨p, 0, none⟩), .int .i64 0]) ∧ Ca w' p g (fun b => w.heap.size ≤ b ∧ b < w'.heap.size) n 0 0 [] ∧ Below w.heap.size w w' := by
  obtain ⟨i0, hi0, hz0, hz1, hz2⟩ := info_parts infoH
  have hmk : ∀ u : World, (Instr.makeSlice 98 (.int .i64 0) (.int .i64 (n : Int))).run Try.prog u = .ok (.slice (some ⟨u.heap.size, 0, none⟩) 0 n) (u.alloc (.cells (madeCells (Value.agg #[.int .u64 0, .int .i64 0, .int .i64 0, .int .i64 0, .bool false, .slice none 0 0, .slice none 0 0, .int .i64 0]).cells (n * 8)) 110)) := fun u => by
    have h := run_make (P := Try.prog) u 98 110 i0 _ Try.underlying98 hi0 hz0 .i64 .i64 0 (n : Int) (by omega) (by omega) (by rw [hz2]; omega) (by omega)
    simpa [hz1] using h
  have hsz : (madeCells (Value.agg #[.int .u64 0, .int .i64 0, .int .i64 0, .int .i64 0, .bool false, .slice none 0 0, .slice none 0 0, .int .i64 0]).cells (n * 8)).size = n * 8 := size_madeCells _ _
  generalize madeCells (Value.agg #[.int .u64 0, .int .i64 0, .int .i64 0, .int .i64 0, .bool false, .slice none 0 0, .slice none 0 0, .int .i64 0]).cells (n * 8) = cur at hmk hsz
  have hb1 : Below w.heap.size w (w.alloc (.cells cur 110)) := (Below.refl _ _).alloc (Nat.le_refl _) _
  have hb2 : Below w.heap.size w ((w.alloc (.cells cur 110)).alloc (.cells #[.slice (some ⟨w.heap.size, 0, none⟩) 0 n, .int .i64 (n : Int), .int .i64 0, .int .i64 0] 212)) := hb1.alloc (by simp) _
  have k1 := (Blk.new w 110 cur).alloc (.cells #[.slice (some ⟨w.heap.size, 0, none⟩) 0 n, .int .i64 (n : Int), .int .i64 0, .int .i64 0] 212)
  have k2 := Blk.new (w.alloc (.cells cur 110)) 212 #[.slice (some ⟨w.heap.size, 0, none⟩) 0 n, .int .i64 (n : Int), .int .i64 0, .int .i64 0]
  rw [World.size_alloc] at k2
  have HSZ := vers.lay hsz
  clear hsz hz0 hz1 hz2 hi0
  have d0 : decide ((n : Int) < 0) = false := decide_eq_false (by omega)
  have d1 : decide (32 < (n : Int)) = false := decide_eq_false (by omega)
  have d2 : decide (32 < n) = false := decide_eq_false (by omega)
  go_enter Try.func31, Try.ntmps31
  go_wp2_with fail
  refine bodyPost_ret (v := .tuple #[.pointer (some ⟨w.heap.size + 1, 0, none⟩), .int .i64 0]) (by simp [results, Try.results31, go_sem]) rfl ?_
  refine ⟨w.heap.size + 1, w.heap.size, rfl, ⟨k2, ⟨rfl, .inr ⟨w.heap.size, n, cur, rfl, Nat.zero_le _, k1, Nat.zero_le _, by unfold maxLen; omega, HSZ.out, by simp [cellsH]⟩⟩, hn, by omega, fun b hb => hb.2, ⟨by omega, by simp⟩, ⟨Nat.le_refl _, by simp; omega⟩, (fun x hx => by cases hx), List.Pairwise.nil, (fun x hx => by cases hx)⟩, hb2⟩
end Go.Proofs.Ytoenkkbcpafanaa.caches
