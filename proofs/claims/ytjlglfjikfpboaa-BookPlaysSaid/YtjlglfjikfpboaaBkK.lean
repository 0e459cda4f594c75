/- book's All. -/
import Derived.Test.YtjlglfjikfpboaaBkJ


namespace Go.Proofs.Ytjlglfjikfpboaa.books
set_option linter.unusedVariables false
set_option linter.unusedSimpArgs false
open Go.RowKit Go.Shelf Go.Proofs.Ytjlglfjikfpboaa.base Go.Proofs.Ytjlglfjikfpboaa.quotas Go.Proofs.Ytjlglfjikfpboaa.vers Go.Proofs.Ytjlglfjikfpboaa.nodes Go.Proofs.Ytjlglfjikfpboaa.trees Go.Proofs.Ytjlglfjikfpboaa.texts

theorem wp_look1 {ops : Array Oper} {rest : List Oper} {o : Oper} {a : Act} {Q : Exit → Act → World → Prop} (w : World) (hg : o.guard = none) (m x : Operand) (hop : o.op = Op.lookup 130 m x false) {ms : Nat} {es : List E} (hm : a.eval m = .map (some ms)) (hown : Own w ms es) {s : ByteArray} (hx : a.eval x = .string s) (hs : s.size ≤ maxLen) {e : E} (he : lkE es s = some e)
    (hK : wpList Try.prog ops Q rest (a.put o.dst (.agg #[.string e.s, .slice e.A e.l.length e.c])) w) : wpList Try.prog ops Q (o :: rest) a w := by
  refine wpList_plain hg fun K' hK' => ?_
  obtain ⟨v, ps, hrun, hv⟩ := hown.lookup kK Try.underlying130 (zE w) (zd := .held (.agg #[.string ⟨#[]⟩, .slice none 0 0])) (zp := []) rfl (kS hs)
  rw [DE_at, he] at hv
  obtain ⟨_, _, _, _, rfl, hz⟩ := RE_inv hv
  injection hz with hz _
  injection hz with hz
  rw [← hz] at hrun
  unfold Oper.wp
  simp [execOp, hop, hm, hx, hrun, Result.andThen]
  exact hK' _ _ hK
theorem infoEn : (Try.prog.info? 79).map (fun i => (i.zero, i.size, i.bytes)) = some (some (.agg #[.string ⟨#[]⟩, .slice none 0 0]), 2, 40) := by kernel_rfl
/-- append of one secret -/
theorem wp_secret {ops : Array Oper} {rest : List Oper} {o : Oper} {a : Act} {Q : Exit → Act → World → Prop} (hgd : o.guard = none) (s x : Operand) (ho : o.op = .call { callee := .builtin .append, args := #[s, x], argTypes := #[64, 64] })
    {w : World} {v : Value} {l : List E} {e : E} (hown : w.ownsRow 0 79 2 v l.length (cellsE l)) (hs : a.eval s = v) {q : Nat} (hx : a.eval x = .slice (some ⟨q, 0, none⟩) 1 1) (hqz : q = w.heap.size) (hlen : l.length ≤ 1000000)
    (h : ∀ v' w', w'.ownsRow 0 79 2 v' (l ++ [e]).length (cellsE (l ++ [e])) → Keep (fun g => v.ownBlock = some g) w w' → (∀ g, v'.ownBlock = some g → v.ownBlock = some g ∨ (w.heap.size ≤ g ∧ g < w'.heap.size)) → w.heap.size + 1 ≤ w'.heap.size → wpList Try.prog ops Q rest (a.put o.dst v') w') :
    wpList Try.prog ops Q (o :: rest) a (w.alloc (.cells #[.string e.s, .slice e.A e.l.length e.c] 79)) := by
  obtain ⟨i0, hi0, hz0, hz1, hz2⟩ := info_parts infoEn
  refine wpList_put1 Try.underlying64 hi0 hz0 hz1 hz2 rfl (by decide) hgd s x ho hown hs rfl (by intro u hu; simp at hu; rcases hu with rfl | rfl <;> rfl) hx hqz (by omega) (by unfold maxLen; omega) ?_
  intro v' w' h1 h2 h3 h4
  refine h v' w' ?_ h2 h3 h4
  rw [List.length_append, cellsE_app]
  exact h1
theorem ownEF_snoc {B : Nat} {wr w2 w4 : World} {le : List E} {v v9 : Value} {x : E} (h : OwnEF wr (fun g => B ≤ g ∧ g < wr.heap.size) le v) (hB : B ≤ wr.heap.size) (b2 : Below wr.heap.size wr w2) (hx : OwnVF w2 (fun g => wr.heap.size ≤ g ∧ g < w2.heap.size) x) (hs : x.s.size ≤ maxLen)
    (ho : w4.ownsRow 0 79 2 v9 (le ++ [x]).length (cellsE (le ++ [x]))) (hK : Keep (fun g => v.ownBlock = some g) w2 w4) (hv : ∀ g, v9.ownBlock = some g → v.ownBlock = some g ∨ (w2.heap.size ≤ g ∧ g < w4.heap.size)) (hlen : le.length ≤ 1000000) : OwnEF w4 (fun g => B ≤ g ∧ g < w4.heap.size) (le ++ [x]) v9 := by
  have z2 := b2.size
  have z4 := hK.size
  have hvl := fun g (hg : v.ownBlock = some g) => (h.2.2.1 g hg)
  refine ⟨ho, by rw [List.length_append]; simp only [List.length_singleton]; omega, fun g hg => ?_, fun y hy => ?_⟩
  · rcases hv g hg with h1 | h1
    · have := hvl g h1; exact ⟨this.1, by omega⟩
    · exact ⟨by omega, h1.2⟩
  · rcases List.mem_append.1 hy with hy | hy
    · have h1 := h.2.2.2 y hy
      refine ⟨(h1.1.agree (w' := w4) fun g hg => (hK.block g (by omega) fun e => hg.2 e.symm).trans (b2.block g hg.1.2)).mono fun g hg => ⟨⟨hg.1.1, by omega⟩, fun e => ?_⟩, h1.2⟩
      rcases hv g e.symm with h2 | h2
      · exact hg.2 h2.symm
      · omega
    · rw [List.mem_singleton.1 hy]
      refine ⟨(hx.agree (w' := w4) fun g hg => hK.block g hg.2 fun e => by have := hvl g e; omega).mono fun g hg => ⟨⟨by omega, by omega⟩, fun e => ?_⟩, hs⟩
      rcases hv g e.symm with h2 | h2
      · have := hvl g h2; omega
      · omega
theorem ownEF_below {B : Nat} {w w' : World} {le : List E} {v : Value} (h : OwnEF w (fun g => B ≤ g ∧ g < w.heap.size) le v) (hb : Below w.heap.size w w') : OwnEF w' (fun g => B ≤ g ∧ g < w'.heap.size) le v :=
  (h.agree (Agree.of_below hb fun g hg => hg.2)).mono fun g hg => ⟨hg.1, Nat.lt_of_lt_of_le hg.2 hb.size⟩
/-- what All leaves -/
def AllPost (w : World) (L : List PB) (e : Ending) (w' : World) : Prop := Below w.heap.size w w' ∧ ∃ (v : Value) (le : List E), e = .returned v ∧ le.map pe = L ∧ OwnEF w' (fun g => w.heap.size ≤ g ∧ g < w'.heap.size) le v
def AHead9 (w : World) (L : List PB) (u i : Value) (wr : World) : Prop := ∃ (j : Nat) (le : List E), j ≤ L.length ∧ i = .int .i64 (j : Int) ∧ Below w.heap.size w wr ∧ OwnEF wr (fun g => w.heap.size ≤ g ∧ g < wr.heap.size) le u ∧ Hid (le.map pe = L.take j) ∧ le.length = j
theorem names_all (L : List PB) : namesP L [] = (nmB L).map bn := by
  unfold namesP
  congr 1
  exact List.filter_eq_self.2 fun a _ => by simp [fitP]
theorem lkE_at {es : List E} (h : Up (es.map pe)) {e : E} (he : e ∈ es) : lkE es e.s = some e := by
  induction es with
  | nil => cases he
  | cons x r ih =>
    obtain ⟨h1, h2⟩ := List.pairwise_cons.1 h
    rw [lkE]
    rcases List.mem_cons.1 he with rfl | he
    · rw [if_pos rfl]
    · rw [if_neg (fun e2 => ?_), ih h2 he]
      have := h1 (pe e) (List.mem_map.2 ⟨e, he, rfl⟩)
      rw [show (pe x).1 = (pe e).1 from e2] at this
      exact bn_irrefl _ this
theorem txt_at {w : World} {lo : Nat} {v : Value} {ts : List (List UInt8)} (h : Txt w lo v ts) : ∃ A c, v = .slice A ts.length c ∧ ts.length ≤ 140737488355328 ∧ ∀ j (h : j < ts.length), ∃ g, A = some ⟨g, 0, none⟩ ∧ lo ≤ g ∧ g < w.heap.size ∧ w.cell? ⟨g, j, none⟩ = some (encStr ts[j]) := h

set_option maxRecDepth 100000 in
set_option maxHeartbeats 2000000 in
theorem all_own (bp ms mp : Nat) (q : Qt) (es : List E) (Y : Nat → Prop) (w : World) (e1 : Blk w bp 132 (bcells q ms mp)) (hown : Own w ms es) (hV : ∀ e ∈ es, VsF w Y e.l e.A e.c ∧ e.s.size ≤ maxLen) (hup : Up (es.map pe)) (hlen : es.length ≤ 1000000) :
    Calls Try.prog 77 #[.pointer (some ⟨bp, 0, none⟩)] w (AllPost w (es.map pe)) := by
  have lB := e1.lt
  have x7 := e1.cell 7
  simp only [bcells, List.getElem?_toArray, List.getElem?_cons_zero, List.getElem?_cons_succ] at x7
  have hn := names_own bp ms mp q es [] none 0 w e1 hown hup (Ts.nil _ _) hlen
  rw [names_all] at hn
  simp only [List.length_nil] at hn
  have hVs := fun e he => (hV e he).1.vs
  go_enter Try.func77, Try.ntmps77
  go_wp2_with fail
  refine hn.mono ?_
  rintro e2 w1 ⟨vn, rfl, hb1, hon⟩
  have hNl : ((nmB (es.map pe)).map bn).length = es.length := by simp
  obtain ⟨A, c, rfl, hll, hT⟩ := txt_at (own_txt hon (by omega))
  rw [hNl]
  have hln : es.length ≤ 140737488355328 := by omega
  go_wp2_with fail
  go_loopw [3, 9] (fun u i wr => AHead9 w1 (es.map pe) u i wr) (fun _ i _ => es.length - (intOf i).toNat)
  case atStart =>
    exact ⟨0, [], Nat.zero_le _, rfl, Below.refl _ _, ⟨⟨rfl, .inl ⟨rfl, rfl⟩⟩, by simp, (fun g h => by cases h), (fun x h => by cases h)⟩, vers.lay rfl, rfl⟩
  case round =>
    obtain ⟨j, le, hj, rfl, hbw, hO, hpe, hlj⟩ := hrel
    have hb := hb1.trans (hbw.mono hb1.size)
    rw [List.length_map] at hj
    have hsz := hb.size
    by_cases hlt : j < es.length
    · obtain ⟨g, rfl, hlo, hgl, hc⟩ := hT j (by rw [hNl]; exact hlt)
      have hnj : ((nmB (es.map pe)).map bn)[j]'(by rw [hNl]; exact hlt) = bn es[j].s := by simp [pe]
      rw [hnj] at hc
      have hmem := List.getElem_mem hlt
      have hlk : lkE es es[j].s = some es[j] := lkE_at hup hmem
      have hvj := (hVs es[j] hmem).at_world hb
      have hsj := (hV es[j] hmem).2
      have hpe2 := vers.lay (show (le.map pe ++ [pe es[j]]) = (es.map pe).take (j + 1) by rw [hpe.out, List.take_succ_eq_append_getElem (by simpa using hlt)]; simp)
      clear hpe
      generalize es[j] = x at hc hlk hvj hsj hpe2
      obtain ⟨xs, xl, xA, xc⟩ := x
      simp only [] at hc hlk hvj hsj hpe2
      have hcl := (hbw.cell (p := ⟨g, j, none⟩) hgl).trans hc
      have hes : encStr (bn xs) = .string xs := by simp [encStr, bn]
      rw [hes] at hcl
      have x7r := (hb.cell (p := ⟨bp, 7, none⟩) lB).trans x7
      have hownr := own_keep hown (Keep.of_below (S := fun _ => False) hb) id
      have hcc := copied_ok xs xl xA xc wr hvj
      go_wp2_with (first | (at_lookup; refine wp_look1 _ rfl _ _ rfl rfl hownr rfl hsj hlk ?_))
      refine hcc.mono ?_
      rintro e3 w2 ⟨A', c', rfl, hX, hb2⟩
      have hO2 := row_below hO.1 hb2
      clear hes hc
      go_wp2_with (at_builtin; refine wp_secret (e := ⟨xs, xl, A', c'⟩) rfl _ _ rfl hO2 rfl rfl rfl (by omega) ?_; intro v9 w9 ho9 hk9 hv9 hz9)
      have z9 := hbw.size
      have hO9 := ownEF_snoc hO hbw.size hb2 hX hsj ho9 hk9 hv9 (by omega)
      refine ⟨⟨j + 1, le ++ [⟨xs, xl, A', c'⟩], by rw [List.length_map]; exact hlt, by go_num, (hbw.trans (hb2.mono z9)).trans (hk9.below (fun g hg => (hO.2.2.1 g hg).1) (by have := hb2.size; omega)), hO9, vers.lay (by rw [List.map_append]; exact hpe2.out), by simp [hlj]⟩, by first | (simp [intOf]; done) | (simp [intOf]; omega) | omega⟩
    · obtain rfl : j = es.length := by omega
      have hpe2 := vers.lay (hpe.out.trans (by rw [List.take_of_length_le (by simp)]))
      clear hpe hlj
      have z1 := hb1.size
      go_wp2_with fail
      go_ret
      exact ⟨hb, u3, le, rfl, hpe2.out, hO.mono fun g hg => ⟨by omega, hg.2⟩⟩

end Go.Proofs.Ytjlglfjikfpboaa.books
