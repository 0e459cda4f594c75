/- climber.kid where the heap has room. -/
import Derived.Test.YtnndohdiiglgmaaKTrW
import Derived.Test.YtnndohdiiglgmaaKTrV
import Derived.Test.YtnndohdiiglgmaaKTrO


namespace Go.Proofs.Ytnndohdiiglgmaa.trees
set_option linter.unusedVariables false
set_option linter.unusedSimpArgs false
open Go.RowKit Go.Proofs.Ytnndohdiiglgmaa.base Go.Proofs.Ytnndohdiiglgmaa.vers Go.Proofs.Ytnndohdiiglgmaa.nodes Go.Proofs.Ytnndohdiiglgmaa.quotas

/-- the kid that a node is, laid down at that number -/
def kidP (x : P3) (low : ByteArray) (i : Nat) : K := ⟨low, (refOf i).k, (refOf i).g, (refOf i).o, (refOf i).n⟩
/-- what kid leaves -/
def KPost (w : World) (h : Nat) (S : Nat → Prop) (ns : List P3) (x : P3) (low : ByteArray) (e : Ending) (w' : World) : Prop :=
  Keep S w w' ∧ e = .returned (.tuple #[(kidP x low ns.length).v, .int .i64 0]) ∧ Hp w' h (More S w w') (ns ++ [x])
theorem kcatch_idle (p q : Value) (w : World) :
    CallsD Try.prog 117 #[p, q] .returning w fun e u' w' => e = .returned (.tuple #[]) ∧ u' = .returning ∧ w' = w := by
  refine callsD_of_wpS Try.func117 rfl fun c₀ cs hu => ?_
  apply wpS_seq
  apply wpS_region
  simp [wpOpsS, go_sem, recoverD, hu, Try.ntmps117, Exit.thenS]
  refine wpS_cond (t := false) (by simp [Act.eval, Array.replicate]) ?_
  simp only [Bool.false_eq_true, if_false]
  refine wpS_of_wp (wp_skip ?_)
  cases c₀
  simp_all [bodyPostS, results, Try.results117]

set_option maxRecDepth 100000 in
set_option maxHeartbeats 400000 in
theorem kid_ok (lf : Bool) (es : List E) (ks : List K) (A : Option Addr) (c : Nat) (Q : Option Addr) (m : Nat) (h : Nat) (S : Nat → Prop) (ns : List P3) (w : World) (hh : Hp w h S ns) (hn : ns.length < 20000) (hv : Es w w.heap.size es A c) (hk : Ks w w.heap.size ks Q m) :
    Calls Try.prog 96 #[clim h, .agg #[.bool lf, .slice A es.length c, .slice Q ks.length m]] w (KPost w h S ns (lf, es.map pe, ks) (lowOf lf es ks)) := by
  have hmf : ∀ (fn : Fn) (first cap : Array Value) (w : World), (Instr.makeFunc fn first cap).run Try.prog w = .ok (.func fn first cap) w := fun _ _ _ _ => rfl
  have hm : ∀ (a : Addr) (w : World), (method 302 23 (.pointer (some a)) "Write").run Try.prog w = .ok (163, .pointer (some a)) w := fun _ _ => by kernel_rfl
  have b4 : Below w.heap.size w ((((w.alloc (.cells #[.iface 23 (.pointer (some ⟨h, 0, none⟩))] 111)).alloc (.cells #[.bool lf, .slice A es.length c, .slice Q ks.length m] 60)).alloc (.cells #[.string ⟨#[]⟩, .int .u64 0, .int .i64 0, .int .i64 0, .int .i64 0] 66)).alloc (.cells #[.int .i64 0] 28)) := ((((Below.refl _ _).alloc (Nat.le_refl _) _).alloc (by simp) _).alloc (by simp; omega) _).alloc (by simp; omega) _
  have k2 := (((Blk.new w 111 #[.iface 23 (.pointer (some ⟨h, 0, none⟩))]).alloc (.cells #[.bool lf, .slice A es.length c, .slice Q ks.length m] 60)).alloc (.cells #[.string ⟨#[]⟩, .int .u64 0, .int .i64 0, .int .i64 0, .int .i64 0] 66)).alloc (.cells #[.int .i64 0] 28)
  have k3 := ((Blk.new (w.alloc (.cells #[.iface 23 (.pointer (some ⟨h, 0, none⟩))] 111)) 60 #[.bool lf, .slice A es.length c, .slice Q ks.length m]).alloc (.cells #[.string ⟨#[]⟩, .int .u64 0, .int .i64 0, .int .i64 0, .int .i64 0] 66)).alloc (.cells #[.int .i64 0] 28)
  have k4 := (Blk.new ((w.alloc (.cells #[.iface 23 (.pointer (some ⟨h, 0, none⟩))] 111)).alloc (.cells #[.bool lf, .slice A es.length c, .slice Q ks.length m] 60)) 66 #[.string ⟨#[]⟩, .int .u64 0, .int .i64 0, .int .i64 0, .int .i64 0]).alloc (.cells #[.int .i64 0] 28)
  have k5 := Blk.new (((w.alloc (.cells #[.iface 23 (.pointer (some ⟨h, 0, none⟩))] 111)).alloc (.cells #[.bool lf, .slice A es.length c, .slice Q ks.length m] 60)).alloc (.cells #[.string ⟨#[]⟩, .int .u64 0, .int .i64 0, .int .i64 0, .int .i64 0] 66)) 28 #[.int .i64 0]
  simp only [World.size_alloc] at k3 k4 k5
  have hlow := fun w' (hb : Below w.heap.size w w') => ownLow_any lf es ks A c Q m w' (hv.at_world hb) (hk.at_world hb)
  have hwr := fun w' (hb : Below w.heap.size w w') => write_any lf es ks A c Q m h S ns w' (hh.agree (fun g hg => hb.block g (hh.lt g hg)) hb.size) (hv.at_world hb) (hk.at_world hb)
  have HP := vers.lay (rfl : es.map pe = es.map pe)
  generalize lowOf lf es ks = low at hlow ⊢
  go_enter_defers Try.func96, Try.ntmps96
  go_wp2_with fail
  refine (hlow _ b4).mono ?_
  rintro e w1 ⟨rfl, hb1⟩
  have b1 := b4.trans (hb1.mono b4.size)
  have s1 := hb1.size
  simp only [World.size_alloc] at s1
  have k2 := k2.below hb1 k2.lt
  have k3 := k3.below hb1 k3.lt
  have k4 := k4.below hb1 k4.lt
  have k5 := k5.below hb1 k5.lt
  have c0 := k2.cell 0
  have n0 := k3.cell 0
  have n1 := k3.cell 1
  have n2 := k3.cell 2
  simp at c0 n0 n1 n2
  have l2 := k2.lt
  have l3 := k3.lt
  clear b4 hb1 hlow
  go_wp2_with fail
  refine (hwr _ b1).mono ?_
  rintro e w2 ⟨hK2, hw2⟩
  rw [if_pos hn] at hw2
  obtain ⟨rfl, hH2⟩ := hw2
  have hSl := hh.lt
  have k4 := hK2.blk k4 (fun h => by have := hSl _ h; omega)
  have k5 := hK2.blk k5 (fun h => by have := hSl _ h; omega)
  have s2 := hK2.size
  have KW : Keep S w w2 := ⟨hK2.os.trans b1.os, hK2.tape.trans b1.tape, hK2.output.trans b1.output, by omega, fun k hk hn => (hK2.block k (by omega) hn).trans (b1.block k hk)⟩
  clear hwr c0 n0 n1 n2 l2 l3 k2 k3 hv hk
  have HR := vers.lay (rfl : refOf ns.length = refOf ns.length)
  generalize hrr : refOf ns.length = rr
  have HRR := vers.lay hrr
  clear hrr HR
  obtain ⟨rk, rg, ro, rn⟩ := rr
  have c0 := k4.cell 0
  have c1 := k4.cell 1
  have c2 := k4.cell 2
  have c3 := k4.cell 3
  have c4 := k4.cell 4
  have e0 := k5.cell 0
  have f0 := k4.frozen 0
  have f1 := k4.frozen 1
  have f2 := k4.frozen 2
  have f3 := k4.frozen 3
  have f4 := k4.frozen 4
  have fe := k5.frozen 0
  simp at c0 c1 c2 c3 c4 e0
  have l4 := k4.lt
  have l5 := k5.lt
  go_wp2_with fail
  have kz := (((((((k4.far (p := ⟨w.heap.size + 1 + 1 + 1, 0, none⟩) (by simp) (.int .i64 0)).put 0 (.string low)).put 1 (.int .u64 (rk : Int))).put 2 (.int .i64 rg)).put 3 (.int .i64 ro)).put 4 (.int .i64 rn)).far (p := ⟨w.heap.size + 1 + 1 + 1, 0, none⟩) (by simp) (.int .i64 0))
  have ke := (((((((k5.put 0 (.int .i64 0)).far (p := ⟨w.heap.size + 1 + 1, 0, none⟩) (by simp) (.string low)).far (p := ⟨w.heap.size + 1 + 1, 1, none⟩) (by simp) (.int .u64 (rk : Int))).far (p := ⟨w.heap.size + 1 + 1, 2, none⟩) (by simp) (.int .i64 rg)).far (p := ⟨w.heap.size + 1 + 1, 3, none⟩) (by simp) (.int .i64 ro)).far (p := ⟨w.heap.size + 1 + 1, 4, none⟩) (by simp) (.int .i64 rn)).put 0 (.int .i64 0))
  have az : ∀ k, k ≠ w.heap.size + 1 + 1 → k ≠ w.heap.size + 1 + 1 + 1 → (((((((w2.setCell ⟨w.heap.size + 1 + 1 + 1, 0, none⟩ (.int .i64 0)).setCell ⟨w.heap.size + 1 + 1, 0, none⟩ (.string low)).setCell ⟨w.heap.size + 1 + 1, 1, none⟩ (.int .u64 (rk : Int))).setCell ⟨w.heap.size + 1 + 1, 2, none⟩ (.int .i64 rg)).setCell ⟨w.heap.size + 1 + 1, 3, none⟩ (.int .i64 ro)).setCell ⟨w.heap.size + 1 + 1, 4, none⟩ (.int .i64 rn)).setCell ⟨w.heap.size + 1 + 1 + 1, 0, none⟩ (.int .i64 0)).heap[k]? = w2.heap[k]? := fun k h1 h2 => by
    rw [Below.heap_setCell _ _ _ _ (by simpa using h2), Below.heap_setCell _ _ _ _ (by simpa using h1), Below.heap_setCell _ _ _ _ (by simpa using h1), Below.heap_setCell _ _ _ _ (by simpa using h1), Below.heap_setCell _ _ _ _ (by simpa using h1), Below.heap_setCell _ _ _ _ (by simpa using h1), Below.heap_setCell _ _ _ _ (by simpa using h2)]
  have sz : (((((((w2.setCell ⟨w.heap.size + 1 + 1 + 1, 0, none⟩ (.int .i64 0)).setCell ⟨w.heap.size + 1 + 1, 0, none⟩ (.string low)).setCell ⟨w.heap.size + 1 + 1, 1, none⟩ (.int .u64 (rk : Int))).setCell ⟨w.heap.size + 1 + 1, 2, none⟩ (.int .i64 rg)).setCell ⟨w.heap.size + 1 + 1, 3, none⟩ (.int .i64 ro)).setCell ⟨w.heap.size + 1 + 1, 4, none⟩ (.int .i64 rn)).setCell ⟨w.heap.size + 1 + 1 + 1, 0, none⟩ (.int .i64 0)).heap.size = w2.heap.size := by simp
  have bz := ((((((((Below.refl 0 w2).setCell (p := ⟨w.heap.size + 1 + 1 + 1, 0, none⟩) (Nat.zero_le _) (.int .i64 0)).setCell (p := ⟨w.heap.size + 1 + 1, 0, none⟩) (Nat.zero_le _) (.string low)).setCell (p := ⟨w.heap.size + 1 + 1, 1, none⟩) (Nat.zero_le _) (.int .u64 (rk : Int))).setCell (p := ⟨w.heap.size + 1 + 1, 2, none⟩) (Nat.zero_le _) (.int .i64 rg)).setCell (p := ⟨w.heap.size + 1 + 1, 3, none⟩) (Nat.zero_le _) (.int .i64 ro)).setCell (p := ⟨w.heap.size + 1 + 1, 4, none⟩) (Nat.zero_le _) (.int .i64 rn)).setCell (p := ⟨w.heap.size + 1 + 1 + 1, 0, none⟩) (Nat.zero_le _) (.int .i64 0))
  have oz : (((((((w2.setCell ⟨w.heap.size + 1 + 1 + 1, 0, none⟩ (.int .i64 0)).setCell ⟨w.heap.size + 1 + 1, 0, none⟩ (.string low)).setCell ⟨w.heap.size + 1 + 1, 1, none⟩ (.int .u64 (rk : Int))).setCell ⟨w.heap.size + 1 + 1, 2, none⟩ (.int .i64 rg)).setCell ⟨w.heap.size + 1 + 1, 3, none⟩ (.int .i64 ro)).setCell ⟨w.heap.size + 1 + 1, 4, none⟩ (.int .i64 rn)).setCell ⟨w.heap.size + 1 + 1 + 1, 0, none⟩ (.int .i64 0)).os = w2.os ∧ (((((((w2.setCell ⟨w.heap.size + 1 + 1 + 1, 0, none⟩ (.int .i64 0)).setCell ⟨w.heap.size + 1 + 1, 0, none⟩ (.string low)).setCell ⟨w.heap.size + 1 + 1, 1, none⟩ (.int .u64 (rk : Int))).setCell ⟨w.heap.size + 1 + 1, 2, none⟩ (.int .i64 rg)).setCell ⟨w.heap.size + 1 + 1, 3, none⟩ (.int .i64 ro)).setCell ⟨w.heap.size + 1 + 1, 4, none⟩ (.int .i64 rn)).setCell ⟨w.heap.size + 1 + 1 + 1, 0, none⟩ (.int .i64 0)).tape = w2.tape ∧ (((((((w2.setCell ⟨w.heap.size + 1 + 1 + 1, 0, none⟩ (.int .i64 0)).setCell ⟨w.heap.size + 1 + 1, 0, none⟩ (.string low)).setCell ⟨w.heap.size + 1 + 1, 1, none⟩ (.int .u64 (rk : Int))).setCell ⟨w.heap.size + 1 + 1, 2, none⟩ (.int .i64 rg)).setCell ⟨w.heap.size + 1 + 1, 3, none⟩ (.int .i64 ro)).setCell ⟨w.heap.size + 1 + 1, 4, none⟩ (.int .i64 rn)).setCell ⟨w.heap.size + 1 + 1 + 1, 0, none⟩ (.int .i64 0)).output = w2.output := ⟨bz.os, bz.tape, bz.output⟩
  clear bz
  simp at kz ke
  generalize (((((((w2.setCell ⟨w.heap.size + 1 + 1 + 1, 0, none⟩ (.int .i64 0)).setCell ⟨w.heap.size + 1 + 1, 0, none⟩ (.string low)).setCell ⟨w.heap.size + 1 + 1, 1, none⟩ (.int .u64 (rk : Int))).setCell ⟨w.heap.size + 1 + 1, 2, none⟩ (.int .i64 rg)).setCell ⟨w.heap.size + 1 + 1, 3, none⟩ (.int .i64 ro)).setCell ⟨w.heap.size + 1 + 1, 4, none⟩ (.int .i64 rn)).setCell ⟨w.heap.size + 1 + 1 + 1, 0, none⟩ (.int .i64 0)) = wY at kz ke az sz oz ⊢
  have D : Below wY.heap.size wY (wY.alloc (.cells #[.int .u64 (rk : Int), .int .i64 rg, .int .i64 ro, .int .i64 rn] 27)) := (Below.refl _ _).alloc (Nat.le_refl _) _
  have kz := kz.below D kz.lt
  have ke := ke.below D ke.lt
  have sD : (wY.alloc (.cells #[.int .u64 (rk : Int), .int .i64 rg, .int .i64 ro, .int .i64 rn] 27)).heap.size = w2.heap.size + 1 := by simp [sz]
  have oD := D.os
  have tD := D.tape
  have uD := D.output
  have hD := D.block
  clear D
  generalize wY.alloc (.cells #[.int .u64 (rk : Int), .int .i64 rg, .int .i64 ro, .int .i64 rn] 27) = wX at kz ke sD oD tD uD hD ⊢
  have c0 := kz.cell 0
  have c1 := kz.cell 1
  have c2 := kz.cell 2
  have c3 := kz.cell 3
  have c4 := kz.cell 4
  have e0 := ke.cell 0
  simp at c0 c1 c2 c3 c4 e0
  refine leaves_cons (f := 117) (args := #[.pointer (some ⟨w.heap.size + 1 + 1, 0, none⟩), .pointer (some ⟨w.heap.size + 1 + 1 + 1, 0, none⟩)]) (by simp) (by simp [go_sem]) ?_
  refine (kcatch_idle _ _ _).mono ?_
  rintro e u' w'' ⟨rfl, rfl, rfl⟩
  have hX : ∀ k, k < w2.heap.size → k ≠ w.heap.size + 1 + 1 → k ≠ w.heap.size + 1 + 1 + 1 → w''.heap[k]? = w2.heap[k]? := fun k h1 h2 h3 => (hD k (by omega)).trans (az k h2 h3)
  refine ⟨.tuple #[.agg #[.string low, .int .u64 (rk : Int), .int .i64 rg, .int .i64 ro, .int .i64 rn], .int .i64 0], by simp [results, Try.results96, go_sem, c0, c1, c2, c3, c4, e0], ?_, ?_, ?_⟩
  · exact ⟨oD.trans (oz.1.trans KW.os), tD.trans (oz.2.1.trans KW.tape), uD.trans (oz.2.2.trans KW.output), by omega, fun k hk hn => (hX k (by omega) (by omega) (by omega)).trans (KW.block k hk hn)⟩
  · simp only [kidP]
    rw [HRR.out]
  · refine ((hH2.agree (fun g hg => hX g ?_ ?_ ?_) (by omega)).mono (fun g hg => ?_) fun g hg => ?_)
    · rcases hg with hg | hg
      · have := hSl g hg; omega
      · exact hg.2
    · rcases hg with hg | hg
      · have := hSl g hg; omega
      · omega
    · rcases hg with hg | hg
      · have := hSl g hg; omega
      · omega
    · rcases hg with hg | hg
      · exact .inl hg
      · exact .inr ⟨by omega, by omega⟩
    · rcases hg with hg | hg
      · have := hSl g hg; omega
      · omega

end Go.Proofs.Ytnndohdiiglgmaa.trees

/- climber.lay where the heap has room. -/

namespace Go.Proofs.Ytnndohdiiglgmaa.trees
set_option linter.unusedVariables false
set_option linter.unusedSimpArgs false
open Go.RowKit Go.Proofs.Ytnndohdiiglgmaa.base Go.Proofs.Ytnndohdiiglgmaa.vers Go.Proofs.Ytnndohdiiglgmaa.nodes Go.Proofs.Ytnndohdiiglgmaa.quotas

/-- the kids that nodes are, laid down from that number on -/
def laid (i : Nat) (l : List N) : List K := (l.zipIdx i).map fun p => kidP p.1.p (lowOf p.1.lf p.1.es p.1.ks) p.2
theorem laid_len (i : Nat) (l : List N) : (laid i l).length = l.length := by simp [laid]
theorem laid_next (i : Nat) (l : List N) {j : Nat} (hj : j < l.length) : laid i (l.take (j + 1)) = laid i (l.take j) ++ [kidP l[j].p (lowOf l[j].lf l[j].es l[j].ks) (i + j)] := by
  rw [List.take_succ_eq_append_getElem hj, laid, List.zipIdx_append, List.map_append]
  simp [laid, Nat.min_eq_left (Nat.le_of_lt hj)]
/-- nodes in memory of blocks F -/
def LF (w : World) (F : Nat → Prop) (l : List N) (A : Option Addr) (c : Nat) : Prop := l.length ≤ c ∧ l.length * 56 ≤ 140737488355328 ∧ (A = none → c = 0) ∧ RdF w F A (cellsN l) ∧ ∀ x ∈ l, NsF w F x
theorem LF.agree {w w' : World} {F : Nat → Prop} {l : List N} {A : Option Addr} {c : Nat} (h : LF w F l A c) (hk : Agree w w' F) : LF w' F l A c := ⟨h.1, h.2.1, h.2.2.1, h.2.2.2.1.agree hk, fun x hx => (h.2.2.2.2 x hx).agree hk⟩
theorem LF.ns {w : World} {F : Nat → Prop} {l : List N} {A : Option Addr} {c : Nat} (h : LF w F l A c) : Ns w w.heap.size l A c := ⟨h.1, h.2.1, h.2.2.1, h.2.2.2.1.rd, fun x hx => ⟨(h.2.2.2.2 x hx).1.es, (h.2.2.2.2 x hx).2.ks⟩⟩
/-- behind j nodes -/
def LP (w : World) (h : Nat) (S : Nat → Prop) (ns : List P3) (l : List N) (j : Nat) (v : Value) (wr : World) : Prop :=
  Keep S w wr ∧ wr.ownsRow 0 66 5 v j (cellsK (laid ns.length (l.take j))) ∧ Blk wr w.heap.size 111 #[.iface 23 (.pointer (some ⟨h, 0, none⟩))] ∧
    ∃ S' : Nat → Prop, Hp wr h S' (ns ++ (l.take j).map N.p) ∧ (∀ g, S' g → S g ∨ (w.heap.size + 1 ≤ g ∧ g < wr.heap.size)) ∧ ∀ g, v.ownBlock = some g → w.heap.size + 1 ≤ g ∧ ¬ S' g

set_option maxRecDepth 100000 in
set_option maxHeartbeats 2000000 in
theorem lay_ok (l : List N) (A : Option Addr) (c : Nat) (h : Nat) (S : Nat → Prop) (ns : List P3) (w : World) (hh : Hp w h S ns) (F : Nat → Prop) (hF : LF w F l A c) (hFS : ∀ g, F g → g < w.heap.size ∧ ¬ S g) (hn : ns.length + l.length ≤ 20000) :
    Calls Try.prog 79 #[clim h, .slice A l.length c] w fun e w' => ∃ v, e = .returned (.tuple #[v, .int .i64 0]) ∧ LP w h S ns l l.length v w' := by
  obtain ⟨i0, hi0, hz0, hz1, hz2⟩ := info_parts infoK
  have hlen : l.length ≤ 140737488355328 := by omega
  have hSl := hh.lt
  have b1 : Below w.heap.size w (w.alloc (.cells #[.iface 23 (.pointer (some ⟨h, 0, none⟩))] 111)) := (Below.refl _ _).alloc (Nat.le_refl _) _
  have hP : LP w h S ns l 0 (.slice none 0 0) (w.alloc (.cells #[.iface 23 (.pointer (some ⟨h, 0, none⟩))] 111)) :=
    ⟨Keep.of_below b1, ⟨rfl, .inl ⟨rfl, rfl⟩⟩, Blk.new _ _ _, S, by simpa using hh.below b1, (fun g hg => .inl hg), fun g hg => by cases hg⟩
  clear b1
  go_enter Try.func79, Try.ntmps79
  go_wp2_with fail
  generalize w.alloc (.cells #[.iface 23 (.pointer (some ⟨h, 0, none⟩))] 111) = w1 at hP ⊢
  go_loopw [13, 6] (fun i v wr => ∃ j : Nat, j ≤ l.length ∧ i = .int .i64 (j : Int) ∧ LP w h S ns l j v wr) (fun i _ _ => l.length - (intOf i).toNat)
  case atStart => exact ⟨0, Nat.zero_le _, rfl, hP⟩
  case round =>
    clear hP
    obtain ⟨j, hj, rfl, hP⟩ := hrel
    by_cases hlt : j < l.length
    · obtain ⟨hK, hO, kC, S', hH, hS', hv'⟩ := id hP
      have k1 : (0 : Int) ≤ (j : Int) := by omega
      have k2 : (j : Int) < (l.length : Int) := by omega
      have hN := (hF.agree (hK.agree hFS)).ns
      obtain ⟨b, off, rfl, hb, n0, n1, n2⟩ := hN.at_ hlt
      have hE := hN.2.2.2.2 _ (List.getElem_mem hlt)
      have bA : Below wr.heap.size wr (wr.alloc (.cells #[.bool l[j].lf, .slice l[j].A l[j].es.length l[j].c, .slice l[j].Q l[j].ks.length l[j].m] 60)) := (Below.refl _ _).alloc (Nat.le_refl _) _
      have kC1 := kC.below bA kC.lt
      have c0 := kC.cell 0
      simp at c0
      have lC := kC.lt
      have hLn : (ns ++ (l.take j).map N.p).length = ns.length + j := by simp; omega
      have hkid := kid_ok l[j].lf l[j].es l[j].ks l[j].A l[j].c l[j].Q l[j].m h S' _ _ (hH.below bA) (by rw [hLn]; omega) (hE.1.at_world bA) (hE.2.at_world bA)
      have HNX := vers.lay (laid_next ns.length l hlt)
      have HTK : Hid ((ns ++ (l.take j).map N.p) ++ [(l[j].lf, l[j].es.map pe, l[j].ks)] = ns ++ (l.take (j + 1)).map N.p) := vers.lay (by rw [List.take_succ_eq_append_getElem hlt, List.map_append, ← List.append_assoc]; rfl)
      go_wp2_with fail
      refine hkid.mono ?_
      rintro e w2 ⟨hK2, rfl, hH2⟩
      rw [hLn]
      rw [HTK.out] at hH2
      generalize hkk : kidP (l[j].lf, l[j].es.map pe, l[j].ks) (lowOf l[j].lf l[j].es l[j].ks) (ns.length + j) = kk
      have HKK := vers.lay hkk
      clear hkk
      have hs2 := hK2.size
      simp only [World.size_alloc] at hs2
      have hsw := hK.size
      have hSS := hH.lt
      have hOl := fun g (hg : u6.ownBlock = some g) => (hO.lt g hg).2
      have bC : Below w2.heap.size w2 (w2.alloc (.cells #[.string kk.s, .int .u64 (kk.k : Int), .int .i64 kk.g, .int .i64 kk.o, .int .i64 kk.n] 66)) := (Below.refl _ _).alloc (Nat.le_refl _) _
      have hO2 : (w2.alloc (.cells #[.string kk.s, .int .u64 (kk.k : Int), .int .i64 kk.g, .int .i64 kk.o, .int .i64 kk.n] 66)).ownsRow 0 66 5 u6 j (cellsK (laid ns.length (l.take j))) := row_below (ownsRow_agree (row_below hO bA) fun g hg => hK2.block g (by have := hOl g hg; simp; omega) (hv' g hg).2) bC
      have hC' : ¬ S' w.heap.size := fun h => by
        rcases hS' _ h with h1 | h1
        · have := hSl _ h1; omega
        · omega
      have kC2 := (hK2.blk kC1 hC').below bC (by omega)
      clear n0 n1 n2 hkid hE hN c0 lC kC kC1
      go_wp2_with (at_builtin; refine wpList_put1 Try.underlying58 hi0 hz0 hz1 hz2 rfl (by decide) rfl (.tmp 26) (.tmp 28) rfl (w := w2.alloc (.cells #[.string kk.s, .int .u64 (kk.k : Int), .int .i64 kk.g, .int .i64 kk.o, .int .i64 kk.n] 66)) (v := u6) (n := j) (xs := cellsK (laid ns.length (l.take j))) hO2 rfl rfl (by intro u hu; simp at hu; rcases hu with rfl | rfl | rfl | rfl | rfl <;> rfl) rfl (by simp) (by omega) (by unfold maxLen; omega) ?_; intro v9 w4 ho9 hK9 hv9 hs9)
      have hK9s := hK9.size
      simp only [World.size_alloc] at hK9s hs9
      have hu : ∀ g, u6.ownBlock = some g → w.heap.size + 1 ≤ g ∧ g < wr.heap.size := fun g hg => ⟨(hv' g hg).1, hOl g hg⟩
      have hM : ∀ g, More S' (wr.alloc (.cells #[.bool l[j].lf, .slice l[j].A l[j].es.length l[j].c, .slice l[j].Q l[j].ks.length l[j].m] 60)) w2 g → u6.ownBlock ≠ some g := fun g hg e => by
        rcases hg with hg | hg
        · exact (hv' g e).2 hg
        · have := hu g e; simp only [World.size_alloc] at hg; omega
      have hKK : Keep S w w4 := by
        refine ⟨hK9.os.trans (bC.os.trans (hK2.os.trans (bA.os.trans hK.os))), hK9.tape.trans (bC.tape.trans (hK2.tape.trans (bA.tape.trans hK.tape))), hK9.output.trans (bC.output.trans (hK2.output.trans (bA.output.trans hK.output))), by omega, fun k hk hn => ?_⟩
        refine (hK9.block k (by simp; omega) (fun e => by have := hu k e; omega)).trans ((bC.block k (by omega)).trans ((hK2.block k (by simp; omega) (fun h => ?_)).trans ((bA.block k (by omega)).trans (hK.block k hk hn))))
        rcases hS' k h with h1 | h1
        · exact hn h1
        · omega
      refine ⟨⟨j + 1, hlt, by go_num, hKK, ?_, ?_, More S' (wr.alloc (.cells #[.bool l[j].lf, .slice l[j].A l[j].es.length l[j].c, .slice l[j].Q l[j].ks.length l[j].m] 60)) w2, ?_, ?_, ?_⟩, by simp [intOf]; omega⟩
      · rw [HNX.out, cellsK_app, show kidP l[j].p (lowOf l[j].lf l[j].es l[j].ks) (ns.length + j) = kk from HKK.out]
        simpa [cellsK, K.cells] using ho9
      · exact hK9.blk kC2 (fun e => by have := hu _ e; omega)
      · exact (hH2.below bC).agree (hK9.agree fun g hg => ⟨by have := hH2.lt g hg; simp; omega, hM g hg⟩) (by simp; omega)
      · intro g hg
        rcases hg with hg | hg
        · rcases hS' g hg with h1 | h1
          · exact .inl h1
          · exact .inr ⟨h1.1, by omega⟩
        · simp only [World.size_alloc] at hg
          exact .inr ⟨by omega, by omega⟩
      · intro g hg
        rcases hv9 g hg with h1 | h1
        · exact ⟨(hu g h1).1, fun h2 => hM g h2 h1⟩
        · simp only [World.size_alloc] at h1
          refine ⟨by omega, fun h2 => ?_⟩
          rcases h2 with h2 | h2
          · have := hSS g h2; omega
          · omega
    · obtain rfl : j = l.length := by omega
      have k2 : ¬ (l.length : Int) < (l.length : Int) := by omega
      go_wp2_with fail
      refine bodyPost_ret (v := .tuple #[u6, .int .i64 0]) (by simp [results, Try.results79, go_sem]) rfl ⟨_, rfl, hP⟩

end Go.Proofs.Ytnndohdiiglgmaa.trees
