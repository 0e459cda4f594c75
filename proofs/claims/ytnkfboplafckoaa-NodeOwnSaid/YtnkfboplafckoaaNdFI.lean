/- A node's term, in pure words; letheref06's Num, Atom, Key, Row and kidTerm. -/
import Derived.Test.YtnkfboplafckoaaNdAC
import Derived.Test.YtnkfboplafckoaaMix
import Derived.Test.YtnkfboplafckoaaQuN
import Derived.Test.YtnkfboplafckoaaTermB
import Derived.Test.YtnkfboplafckoaaTermC
import Derived.Test.YtnkfboplafckoaaBoxP


namespace Go.Proofs.Ytnkfboplafckoaa.nodes
set_option linter.unusedVariables false
set_option linter.unusedSimpArgs false
open Go.RowKit Go.Proofs.Ytnkfboplafckoaa.base Go.Proofs.Ytnkfboplafckoaa.quotas Go.Proofs.Ytnkfboplafckoaa.vers Go.Proofs.Ytnkfboplafckoaa.tm Go.Proofs.Ytnkfboplafckoaa.lies Go.Proofs.Ytnkfboplafckoaa.copies Go.Proofs.Ytnkfboplafckoaa.makes

def numT (n : Int) : T := .mk 1 n ⟨#[]⟩ []
def atomT (s : ByteArray) : T := .mk 2 0 s []
def keyT (n : Int) : T := .mk 3 n ⟨#[]⟩ []
def rowT (l : List T) : T := .mk 5 0 ⟨#[]⟩ l
def verT (x : V) : T := rowT [numT x.n, atomT x.v, atomT x.t]
def entT (x : E) : T := rowT (atomT x.s :: x.l.map verT)
def kidT (x : K) : T := rowT [atomT x.s, keyT x.k, numT x.g, numT x.o, numT x.n]
def nodeT (lf : Bool) (es : List E) (ks : List K) : T := if lf = true then rowT (numT 1 :: es.map entT) else rowT (numT 2 :: ks.map kidT)

set_option maxRecDepth 100000 in
theorem refNum_any (n : Int) (w : World) (h : 0 ≤ n ∧ n ≤ 9223372036854775807) :
    Calls Try.prog 78 #[.int .i64 n] w fun e w' => e = .returned (.agg #[.int .i64 1, .int .u64 n, .string ⟨#[]⟩, .slice none 0 0]) ∧ Below w.heap.size w w' := by
  have hw : IntKind.u64.wrap n = n := by rw [IntKind.wrap_u64]; omega
  go_enter Try.func78, Try.ntmps78
  go_wp2_with fail
  refine bodyPost_ret (v := .agg #[.int .i64 1, .int .u64 n, .string ⟨#[]⟩, .slice none 0 0]) (by simp [results, Try.results78, go_sem, hw]) rfl ⟨rfl, ?_⟩
  exact (Below.refl _ _).alloc (Nat.le_refl _) _
set_option maxRecDepth 100000 in
theorem refKey_any (n : Int) (w : World) :
    Calls Try.prog 102 #[.int .u64 n] w fun e w' => e = .returned (.agg #[.int .i64 3, .int .u64 n, .string ⟨#[]⟩, .slice none 0 0]) ∧ Below w.heap.size w w' := by
  go_enter Try.func102, Try.ntmps102
  go_wp2_with fail
  refine bodyPost_ret (v := .agg #[.int .i64 3, .int .u64 n, .string ⟨#[]⟩, .slice none 0 0]) (by simp [results, Try.results102, go_sem]) rfl ⟨rfl, ?_⟩
  exact (Below.refl _ _).alloc (Nat.le_refl _) _
set_option maxRecDepth 100000 in
theorem refAtom_any (s : ByteArray) (w : World) :
    Calls Try.prog 101 #[.string s] w fun e w' => e = .returned (.agg #[.int .i64 2, .int .u64 0, .string s, .slice none 0 0]) ∧ Below w.heap.size w w' := by
  go_enter Try.func101, Try.ntmps101
  go_wp2_with fail
  refine bodyPost_ret (v := .agg #[.int .i64 2, .int .u64 0, .string s, .slice none 0 0]) (by simp [results, Try.results101, go_sem]) rfl ⟨rfl, ?_⟩
  exact (Below.refl _ _).alloc (Nat.le_refl _) _
set_option maxRecDepth 100000 in
theorem refRow_any (A : Option Addr) (n c : Nat) (w : World) :
    Calls Try.prog 80 #[.slice A n c] w fun e w' => e = .returned (.agg #[.int .i64 5, .int .u64 0, .string ⟨#[]⟩, .slice A n c]) ∧ Below w.heap.size w w' := by
  go_enter Try.func80, Try.ntmps80
  go_wp2_with fail
  refine bodyPost_ret (v := .agg #[.int .i64 5, .int .u64 0, .string ⟨#[]⟩, .slice A n c]) (by simp [results, Try.results80, go_sem]) rfl ⟨rfl, ?_⟩
  exact (Below.refl _ _).alloc (Nat.le_refl _) _

/-- the cells of terms without lists -/
def bareL : List T → List Value
  | [] => []
  | t :: l => T.cells t (.slice none 0 0) ++ bareL l
def Bare (t : T) : Prop := t.l = [] ∧ (-9223372036854775808 ≤ t.k ∧ t.k ≤ 9223372036854775807) ∧ (0 ≤ t.n ∧ t.n < 18446744073709551616) ∧ t.s.size ≤ maxLen
theorem liesL_bare (w : World) (B : Nat) : ∀ (l : List T), (∀ t ∈ l, Bare t) → LiesL w B l (bareL l)
  | [], _ => rfl
  | t :: l, h => by
    obtain ⟨h1, h2, h3, h4⟩ := h t (List.mem_cons_self ..)
    obtain ⟨k, n, s, r⟩ := t
    cases (show r = [] from h1)
    exact ⟨_, bareL l, rfl, lies_bare w B k n s h2 h3 h4, liesL_bare w B l (fun t ht => h t (List.mem_cons_of_mem _ ht))⟩
/-- a block of such is a held list -/
theorem held_bare {w : World} {g lo : Nat} {l : List T} (hb : Blk w g 31 (bareL l).toArray) (hlo : lo ≤ g) (hl : ∀ t ∈ l, Bare t) (hn : l.length * 56 ≤ 140737488355328) : Held w lo w.heap.size l (.slice (some ⟨g, 0, none⟩) l.length l.length) := by
  have hg := hb.lt
  refine ⟨_, _, rfl, Nat.le_refl _, hn, fun w2 B2 hB ha => ⟨bareL l, fun j u hj => ⟨g, 0, rfl, by omega, ?_⟩, liesL_bare w2 B2 l hl⟩⟩
  rw [ha ⟨g, 0 + j, none⟩ hlo hg, Nat.zero_add, hb.cell]
  simpa using hj

theorem call_cls {P : Program} {f : FuncId} {args : Array Value} {v : Value} {S : World → Prop} {N : World → World} {n : World} (hS : ∀ w w', S w → Below w.heap.size w w' → S w') (h1 : ∀ n, S (N n)) (h2 : ∀ w', S w' → ∃ n, w' = N n)
    (hc : Calls P f args (N n) fun e w' => e = .returned v ∧ Below (N n).heap.size (N n) w') : Calls P f args (N n) fun e w'' => e = .returned v ∧ ∃ m, w'' = N m :=
  hc.mono fun _ _ ⟨he, hb⟩ => ⟨he, h2 _ (hS _ _ (h1 n) hb)⟩
/-- behind kidTerm's beginning: the kid's box and the answer's -/
def Kx (w : World) (x : K) (wr : World) : Prop :=
  (wr.cell? ⟨w.heap.size, 0, none⟩ = some (.string x.s) ∧ wr.cell? ⟨w.heap.size, 1, none⟩ = some (.int .u64 (x.k : Int)) ∧ wr.cell? ⟨w.heap.size, 2, none⟩ = some (.int .i64 x.g) ∧ wr.cell? ⟨w.heap.size, 3, none⟩ = some (.int .i64 x.o) ∧ wr.cell? ⟨w.heap.size, 4, none⟩ = some (.int .i64 x.n)) ∧
    Blk wr (w.heap.size + 1) 31 #[.int .i64 0, .int .u64 0, .string ⟨#[]⟩, .slice none 0 0] ∧ Below w.heap.size w wr
theorem Kx.new (w : World) (x : K) : Kx w x ((w.alloc (.cells #[.string x.s, .int .u64 (x.k : Int), .int .i64 x.g, .int .i64 x.o, .int .i64 x.n] 43)).alloc (.cells #[.int .i64 0, .int .u64 0, .string ⟨#[]⟩, .slice none 0 0] 31)) := by
  have k1 := (Blk.new w 43 #[.string x.s, .int .u64 (x.k : Int), .int .i64 x.g, .int .i64 x.o, .int .i64 x.n]).alloc (.cells #[.int .i64 0, .int .u64 0, .string ⟨#[]⟩, .slice none 0 0] 31)
  have k2 := Blk.new (w.alloc (.cells #[.string x.s, .int .u64 (x.k : Int), .int .i64 x.g, .int .i64 x.o, .int .i64 x.n] 43)) 31 #[.int .i64 0, .int .u64 0, .string ⟨#[]⟩, .slice none 0 0]
  rw [World.size_alloc] at k2
  exact ⟨⟨k1.cell 0, k1.cell 1, k1.cell 2, k1.cell 3, k1.cell 4⟩, k2, ((Below.refl _ _).alloc (Nat.le_refl _) _).alloc (by simp) _⟩
theorem Kx.next {w wr w' : World} {x : K} (h : Kx w x wr) (hb : Below wr.heap.size wr w') : Kx w x w' := by
  obtain ⟨⟨a, b, c, d, e⟩, k, hw⟩ := h
  have hlt := k.lt
  refine ⟨⟨?_, ?_, ?_, ?_, ?_⟩, k.below hb hlt, hw.trans (hb.mono hw.size)⟩ <;> (rw [hb.cell (by simp; omega)]; assumption)

set_option maxRecDepth 100000 in
set_option maxHeartbeats 1000000 in
theorem refKid_any (x : K) (w : World) (hf : x.fits) (hr : refOk x.g x.o x.n) :
    Calls Try.prog 81 #[.agg #[.string x.s, .int .u64 (x.k : Int), .int .i64 x.g, .int .i64 x.o, .int .i64 x.n]] w fun e w' => ∃ A c, e = .returned (T.val (kidT x) (.slice A (kidT x).l.length c)) ∧ Held w' w.heap.size w'.heap.size (kidT x).l (.slice A (kidT x).l.length c) ∧ Below w.heap.size w w' := by
  obtain ⟨⟨r1, r2⟩, ⟨r3, r4⟩, r5, r6⟩ := hr
  obtain ⟨f1, f2, f3, f4, f5⟩ := hf
  have K0 := Kx.new w x
  have c1 := fun wr => refNum_any x.g wr ⟨r1, by omega⟩
  have c2 := fun wr => refNum_any x.o wr ⟨r3, by omega⟩
  have c3 := fun wr => refNum_any x.n wr ⟨by omega, by omega⟩
  have hbare : ∀ t ∈ [atomT x.s, keyT x.k, numT x.g, numT x.o, numT x.n], Bare t := by
    intro t ht
    simp at ht
    rcases ht with rfl | rfl | rfl | rfl | rfl
    · exact ⟨rfl, by show (-9223372036854775808 : Int) ≤ 2 ∧ (2 : Int) ≤ 9223372036854775807; omega, by show (0 : Int) ≤ 0 ∧ (0 : Int) < 18446744073709551616; omega, f1⟩
    · exact ⟨rfl, by show (-9223372036854775808 : Int) ≤ 3 ∧ (3 : Int) ≤ 9223372036854775807; omega, by show (0 : Int) ≤ (x.k : Int) ∧ (x.k : Int) < 18446744073709551616; omega, Nat.zero_le _⟩
    · exact ⟨rfl, by show (-9223372036854775808 : Int) ≤ 1 ∧ (1 : Int) ≤ 9223372036854775807; omega, by show (0 : Int) ≤ x.g ∧ x.g < 18446744073709551616; omega, Nat.zero_le _⟩
    · exact ⟨rfl, by show (-9223372036854775808 : Int) ≤ 1 ∧ (1 : Int) ≤ 9223372036854775807; omega, by show (0 : Int) ≤ x.o ∧ x.o < 18446744073709551616; omega, Nat.zero_le _⟩
    · exact ⟨rfl, by show (-9223372036854775808 : Int) ≤ 1 ∧ (1 : Int) ≤ 9223372036854775807; omega, by show (0 : Int) ≤ x.n ∧ x.n < 18446744073709551616; omega, Nat.zero_le _⟩
  clear r1 r2 r3 r4 r5 r6 f1 f2 f3 f4 f5
  go_enter Try.func81, Try.ntmps81
  go_wp2_with fail
  obtain ⟨N, hN, hM⟩ := norms _ _ K0
  have hne : Nonempty World := ⟨w⟩
  have q0 := fun n => (hN n).1.1
  have q1 := fun n => (hN n).1.2.1
  have q2 := fun n => (hN n).1.2.2.1
  have q3 := fun n => (hN n).1.2.2.2.1
  have q4 := fun n => (hN n).1.2.2.2.2
  refine mix.region_tail 19 N (by kernel_rfl) (by kernel_rfl) (hM _ (K0.next ((Below.refl _ _).drew))) ?_
  simp only [List.take_succ_cons, List.take_zero, List.drop_succ_cons, List.drop_zero]
  repeat (go_big_quiet_step (first
    | (go_at_call 101; exact call_cls (fun _ _ => Kx.next) hN hM (refAtom_any _ _))
    | (go_at_call 102; exact call_cls (fun _ _ => Kx.next) hN hM (refKey_any _ _))
    | (go_at_call 78; exact call_cls (fun _ _ => Kx.next) hN hM (by first | exact c1 _ | exact c2 _ | exact c3 _))))
  refine wpQuiet_nil ?_
  rintro _ ⟨n, rfl⟩
  have K1 := hN n
  generalize N n = w1 at K1 ⊢
  clear q0 q1 q2 q3 q4 hM hN N n hne c1 c2 c3 K0
  obtain ⟨_, kb, bw⟩ := K1
  have lt1 := kb.lt
  have hnew := Blk.new w1 31 (bareL [atomT x.s, keyT x.k, numT x.g, numT x.o, numT x.n]).toArray
  go_wp2_with (go_at_call 80; refine (refRow_any _ _ _ _).mono ?_; rintro e w2 ⟨rfl, hb2⟩; have kb2 := (kb.alloc (.cells (bareL [atomT x.s, keyT x.k, numT x.g, numT x.o, numT x.n]).toArray 31)).below hb2 (by have := bw.size; simp; omega); have hnew2 := hnew.below hb2 (by simp); have z0 := kb2.cell 0; have z1 := kb2.cell 1; have z2 := kb2.cell 2; have z3 := kb2.cell 3; simp at z0 z1 z2 z3; have f0 := kb2.frozen 0; have f1 := kb2.frozen 1; have f2 := kb2.frozen 2; have f3 := kb2.frozen 3)
  have hH := held_bare (lo := w1.heap.size) (l := [atomT x.s, keyT x.k, numT x.g, numT x.o, numT x.n]) hnew2 (Nat.le_refl _) hbare (by simp)
  have hbs := bw.size
  have hb2' : Below w.heap.size w w2 := (bw.alloc bw.size (.cells (bareL [atomT x.s, keyT x.k, numT x.g, numT x.o, numT x.n]).toArray 31)).trans (hb2.mono (by simp; omega))
  refine bodyPost_ret (v := T.val (kidT x) (.slice (some ⟨w1.heap.size, 0, none⟩) 5 5)) (by simp [results, Try.results81, go_sem, z0, z1, z2, z3, kidT, rowT, T.k, T.n, T.s]) rfl ⟨_, _, rfl, ?_, ?_⟩
  · refine hH.move hbs (by simp) fun p p1 p2 => ?_
    exact four_cell w2 (w.heap.size + 1) 0 _ _ _ _ p (by omega)
  · exact four_below hb2' (by omega) _ _ _ _
end Go.Proofs.Ytnkfboplafckoaa.nodes

/- letheref06's entryTerm. -/

namespace Go.Proofs.Ytnkfboplafckoaa.nodes
set_option linter.unusedVariables false
set_option linter.unusedSimpArgs false
open Go.RowKit Go.Proofs.Ytnkfboplafckoaa.base Go.Proofs.Ytnkfboplafckoaa.quotas Go.Proofs.Ytnkfboplafckoaa.vers Go.Proofs.Ytnkfboplafckoaa.tm Go.Proofs.Ytnkfboplafckoaa.lies Go.Proofs.Ytnkfboplafckoaa.copies Go.Proofs.Ytnkfboplafckoaa.makes Go.Proofs.Ytnkfboplafckoaa.built

/-- a list of one bare term that a literal makes -/
theorem built_bare {w : World} {lo : Nat} {t : T} (h : Bare t) (hlo : lo ≤ w.heap.size) : Built lo (w.alloc (.cells (bareL [t]).toArray 31)) [t] (.slice (some ⟨w.heap.size, 0, none⟩) 1 1) := by
  refine ⟨bareL [t], ?_, fun w2 B2 _ _ => liesL_bare w2 B2 [t] (fun x hx => by rw [List.mem_singleton.1 hx]; exact h)⟩
  have := World.ownsRow_lit (base := lo) (e := 31) (size := 4) w (bareL [t]).toArray 1 hlo (by decide) (by simp [bareL, T.cells])
  simpa using this
theorem bare_num {n : Int} (h : 0 ≤ n ∧ n ≤ 9223372036854775807) : Bare (numT n) := ⟨rfl, by show (-9223372036854775808 : Int) ≤ 1 ∧ (1 : Int) ≤ 9223372036854775807; omega, by show (0 : Int) ≤ n ∧ n < 18446744073709551616; omega, Nat.zero_le _⟩
theorem bare_atom {s : ByteArray} (h : s.size ≤ maxLen) : Bare (atomT s) := ⟨rfl, by show (-9223372036854775808 : Int) ≤ 2 ∧ (2 : Int) ≤ 9223372036854775807; omega, by show (0 : Int) ≤ 0 ∧ (0 : Int) < 18446744073709551616; omega, h⟩
/-- behind entryTerm's beginning: the secret's box and the answer's -/
def Ex (w : World) (s : ByteArray) (u : Value) (wr : World) : Prop :=
  (wr.cell? ⟨w.heap.size, 0, none⟩ = some (.string s) ∧ wr.cell? ⟨w.heap.size, 1, none⟩ = some u) ∧ Blk wr (w.heap.size + 1) 31 #[.int .i64 0, .int .u64 0, .string ⟨#[]⟩, .slice none 0 0] ∧ Below w.heap.size w wr
theorem Ex.new (w : World) (s : ByteArray) (u : Value) : Ex w s u ((w.alloc (.cells #[.string s, u] 53)).alloc (.cells #[.int .i64 0, .int .u64 0, .string ⟨#[]⟩, .slice none 0 0] 31)) := by
  have k1 := (Blk.new w 53 #[.string s, u]).alloc (.cells #[.int .i64 0, .int .u64 0, .string ⟨#[]⟩, .slice none 0 0] 31)
  have k2 := Blk.new (w.alloc (.cells #[.string s, u] 53)) 31 #[.int .i64 0, .int .u64 0, .string ⟨#[]⟩, .slice none 0 0]
  rw [World.size_alloc] at k2
  exact ⟨⟨k1.cell 0, k1.cell 1⟩, k2, ((Below.refl _ _).alloc (Nat.le_refl _) _).alloc (by simp) _⟩
theorem Ex.next {w wr w' : World} {s : ByteArray} {u : Value} (h : Ex w s u wr) {B : Nat} (hB : w.heap.size + 2 ≤ B) (hb : Below B wr w') : Ex w s u w' := by
  obtain ⟨⟨a, b⟩, k, hw⟩ := h
  refine ⟨⟨?_, ?_⟩, k.below hb (by omega), hw.trans (hb.mono (by omega))⟩ <;> (rw [hb.cell (by simp; omega)]; assumption)
/-- a version's box of the call's own, and what was there -/
def Vx (w0 : World) (g : Nat) (x : V) (wr : World) : Prop := (wr.cell? ⟨g, 0, none⟩ = some (.int .i64 x.n) ∧ wr.cell? ⟨g, 1, none⟩ = some (.string x.v) ∧ wr.cell? ⟨g, 2, none⟩ = some (.string x.t)) ∧ g < wr.heap.size ∧ Below w0.heap.size w0 wr
theorem Vx.new (w : World) (x : V) : Vx w w.heap.size x (w.alloc (.cells #[.int .i64 x.n, .string x.v, .string x.t] 55)) := by
  have k := Blk.new w 55 #[.int .i64 x.n, .string x.v, .string x.t]
  exact ⟨⟨k.cell 0, k.cell 1, k.cell 2⟩, by simp, (Below.refl _ _).alloc (Nat.le_refl _) _⟩
theorem Vx.next {w0 wr w' : World} {g : Nat} {x : V} (h : Vx w0 g x wr) (hb : Below wr.heap.size wr w') : Vx w0 g x w' := by
  obtain ⟨⟨a, b, c⟩, hg, hw⟩ := h
  have hs := hb.size
  refine ⟨⟨?_, ?_, ?_⟩, by omega, hw.trans (hb.mono hw.size)⟩ <;> (rw [hb.cell (by simpa using hg)]; assumption)

theorem held_ver {w : World} {g : Nat} {x : V} (hb : Blk w g 31 #[.int .i64 1, .int .u64 x.n, .string ⟨#[]⟩, .slice none 0 0, .int .i64 2, .int .u64 0, .string x.v, .slice none 0 0, .int .i64 2, .int .u64 0, .string x.t, .slice none 0 0]) (hn : 0 ≤ x.n) (hf : x.fits) : Held w g w.heap.size (verT x).l (.slice (some ⟨g, 0, none⟩) 3 3) := by
  refine held_bare (l := [numT x.n, atomT x.v, atomT x.t]) hb (Nat.le_refl _) ?_ (by simp)
  intro t ht
  simp at ht
  rcases ht with rfl | rfl | rfl
  · exact bare_num ⟨hn, hf.1.2⟩
  · exact bare_atom hf.2.1
  · exact bare_atom hf.2.2
theorem le56 (s : ByteArray) (l : List V) {j : Nat} (hlt : j < l.length) (hl : (l.length + 2) * 56 ≤ 140737488355328) : ((atomT s :: (l.take j).map verT).length + 1) * 56 ≤ 140737488355328 := by
  have e : (atomT s :: (l.take j).map verT).length = j + 1 := by
    rw [List.length_cons, List.length_map, List.length_take]
    omega
  rw [e]
  exact Nat.le_trans (Nat.mul_le_mul_right 56 (show j + 1 + 1 ≤ l.length + 2 by omega)) hl
def EHead6 (w : World) (s : ByteArray) (l : List V) (u : Value) (v i : Value) (wr : World) : Prop :=
  ∃ j : Nat, j ≤ l.length ∧ i = .int .i64 j ∧ Built (w.heap.size + 2) wr (atomT s :: (l.take j).map verT) v ∧ Ex w s u wr ∧ w.heap.size + 2 ≤ wr.heap.size

set_option maxRecDepth 100000 in
set_option maxHeartbeats 400000 in
theorem refEntry_any (s : ByteArray) (l : List V) (A : Option Addr) (cap : Nat) (w : World) (hv : Vs w w.heap.size l A cap) (hs : s.size ≤ maxLen) (hn : ∀ x ∈ l, 0 ≤ x.n) (hl : (l.length + 2) * 56 ≤ 140737488355328) :
    Calls Try.prog 79 #[.agg #[.string s, .slice A l.length cap]] w fun e w' => ∃ A' c, e = .returned (T.val (rowT (atomT s :: l.map verT)) (.slice A' (atomT s :: l.map verT).length c)) ∧ Held w' w.heap.size w'.heap.size (atomT s :: l.map verT) (.slice A' (atomT s :: l.map verT).length c) ∧ Below w.heap.size w w' := by
  have hlen := len_in hv
  have E0 := Ex.new w s (.slice A l.length cap)
  go_enter Try.func79, Try.ntmps79
  go_wp2_with (go_at_call 101; refine (refAtom_any _ _).mono ?_; rintro e w1 ⟨rfl, hb1⟩; have E1 := E0.next (by simp) hb1; have hz1 := hb1.size; obtain ⟨⟨e0, e1⟩, kb, bw⟩ := id E1; simp only [World.size_alloc] at hz1; have lt0 : w.heap.size < w1.heap.size := by omega)
  have hB1 := built_bare (w := w1) (lo := w.heap.size + 2) (bare_atom hs) (by omega)
  have E2 := E1.next (by omega) ((Below.refl w1.heap.size w1).alloc (Nat.le_refl _) (.cells (bareL [atomT s]).toArray 31))
  clear E0 E1 hb1 e0 e1 kb bw
  go_loopw [3, 13] (fun v i wr => EHead6 w s l (.slice A l.length cap) v i wr) (fun _ i _ => l.length - (intOf i).toNat)
  case atStart => exact ⟨0, Nat.zero_le _, rfl, hB1, E2, by simp; omega⟩
  case round =>
    clear hB1 E2 lt0 hz1
    obtain ⟨j, hj, rfl, hB, hE, hz⟩ := hrel
    obtain ⟨⟨e0, e1⟩, kb, bw⟩ := id hE
    by_cases hlt : j < l.length
    · have HLE := vers.lay (le56 s l hlt hl)
      obtain ⟨bk, off, rfl, hbk, v0, v1, v2⟩ := (hv.below bw).at_ hlt
      have hfx := hv.2.2.2.2 _ (List.getElem_mem hlt)
      have hnx := hn _ (List.getElem_mem hlt)
      have htk : Hid ((l.take (j + 1)).map verT = (l.take j).map verT ++ [verT l[j]]) := vers.lay (by rw [List.take_succ_eq_append_getElem hlt, List.map_append, List.map_singleton])
      generalize l[j] = x at v0 v1 v2 hfx hnx htk
      have V0 := Vx.new wr x
      have c1 := fun wx => refNum_any x.n wx ⟨hnx, hfx.1.2⟩
      go_wp2_with fail
      obtain ⟨N, hN, hM⟩ := norms _ _ V0
      have hne : Nonempty World := ⟨w⟩
      have q0 := fun n => (hN n).1.1
      have q1 := fun n => (hN n).1.2.1
      have q2 := fun n => (hN n).1.2.2
      refine wp_region_any (by kernel_rfl) ?_
      change wpAny _ _ _ _ _ _ _ (World.drew _)
      refine wpAny_take (i := 0) (v := ?_) rfl (by kernel_rfl) (by kernel_rfl) (by kernel_rfl) (fun _ _ _ h => h) (Or.inl ⟨by rfl, ?_⟩) ?_
      rotate_left
      · intro w; go_simp; exact rfl
      refine mix.any_tail 1 10 N (by kernel_rfl) rfl (hM _ (V0.next ((Below.refl _ _).drew))) ?_
      simp only [List.take_succ_cons, List.take_zero, List.drop_succ_cons, List.drop_zero, Act.put, List.getElem_toArray, List.getElem_cons_zero, List.setIfInBounds_toArray, List.set_cons_succ, List.set_cons_zero]
      repeat (go_big_quiet_step (first
        | (go_at_call 101; exact call_cls (fun _ _ => Vx.next) hN hM (refAtom_any _ _))
        | (go_at_call 78; exact call_cls (fun _ _ => Vx.next) hN hM (c1 _))))
      refine wpQuiet_nil ?_
      rintro _ ⟨n, rfl⟩
      have V1 := hN n
      generalize N n = w2 at V1 ⊢
      clear q0 q1 q2 hM hN N n hne c1 V0
      have D2 := V1.2.2
      have hz2 := D2.size
      have hnew := Blk.new w2 31 #[.int .i64 1, .int .u64 x.n, .string ⟨#[]⟩, .slice none 0 0, .int .i64 2, .int .u64 0, .string x.v, .slice none 0 0, .int .i64 2, .int .u64 0, .string x.t, .slice none 0 0]
      have hown := fun k hk => (hB.own k hk).2
      go_wp2_with fail
      refine (refRow_any _ _ _ _).mono ?_
      rintro e w3 ⟨rfl, hb3⟩
      have D3 := (D2.alloc hz2 (.cells #[.int .i64 1, .int .u64 x.n, .string ⟨#[]⟩, .slice none 0 0, .int .i64 2, .int .u64 0, .string x.v, .slice none 0 0, .int .i64 2, .int .u64 0, .string x.t, .slice none 0 0] 31)).trans (hb3.mono (by simp; omega))
      have hB3 := hB.below D3
      have hH := held_ver (hnew.below hb3 (by simp)) hnx hfx
      have hz3 := hb3.size
      simp only [World.size_alloc] at hz3
      clear hb3 hnew D2 V1 v0 v1 v2 e0 e1 kb
      have hown2 := fun k hk => Nat.lt_of_lt_of_le (hown k hk) hz2
      have hlo2 : w.heap.size + 2 ≤ w2.heap.size := Nat.le_trans hz hz2
      have hlo3 : w.heap.size + 2 ≤ w3.heap.size := Nat.le_trans hlo2 (Nat.le_trans (Nat.le_succ _) hz3)
      have hle56 := HLE.out
      have k1 : -9223372036854775808 ≤ (verT x).k ∧ (verT x).k ≤ 9223372036854775807 := by show (-9223372036854775808 : Int) ≤ 5 ∧ (5 : Int) ≤ 9223372036854775807; decide
      have k2 : 0 ≤ (verT x).n ∧ (verT x).n < 18446744073709551616 := by show (0 : Int) ≤ 0 ∧ (0 : Int) < 18446744073709551616; decide
      have k3 : (verT x).s.size ≤ maxLen := Nat.zero_le maxLen
      go_wp2_with (at_builtin; go_loud (refine wpList_append_term rfl _ _ rfl (t := verT x) rfl hB3 rfl hlo3 hH (Nat.le_refl _) hlo2 hown2 k1 k2 k3 rfl (by simp) hle56 ?next))
      case next =>
        intro v4 w4 hB4 hb4 hz4 _
        have D4 : Below (w.heap.size + 2) wr w4 := (D3.mono hz).trans hb4
        go_wp2_with fail
        exact ⟨⟨j + 1, hlt, by go_num, by rw [htk.out]; simpa using hB4, hE.next (Nat.le_refl _) D4, by omega⟩, by simp [intOf]; omega⟩
    · have htk : l.take j = l := List.take_of_length_le (by omega)
      rw [htk] at hB
      have hlm : (atomT s :: l.map verT).length = l.length + 1 := by simp
      have hH := hB.held (by rw [hlm]; exact Nat.le_trans (Nat.mul_le_mul_right 56 (Nat.le_succ _)) hl)
      obtain ⟨A3, c3, rfl, hc3⟩ := hB.form
      clear hB htk hc3
      generalize hts : atomT s :: l.map verT = ts at hH hlm ⊢
      have HTS := vers.lay hts
      clear hts
      have lt1 := kb.lt
      have hbs := bw.size
      generalize hnt : ts.length = nt at hH ⊢
      have HNT := vers.lay hnt
      clear hnt
      go_wp2_with fail
      refine (refRow_any _ _ _ _).mono ?_
      rintro e w5 ⟨rfl, hb5⟩
      have kb2 := kb.below hb5 lt1
      have hz5 := hb5.size
      have z0 := kb2.cell 0
      have z1 := kb2.cell 1
      have z2 := kb2.cell 2
      have z3 := kb2.cell 3
      simp at z0 z1 z2 z3
      have f0 := kb2.frozen 0
      have f1 := kb2.frozen 1
      have f2 := kb2.frozen 2
      have f3 := kb2.frozen 3
      go_wp2_with fail
      refine bodyPost_ret (v := T.val (rowT ts) (.slice A3 nt c3)) (by simp [results, Try.results79, go_sem, z0, z1, z2, z3, rowT, T.k, T.n, T.s]) rfl ?_
      have hts := HTS.out
      have hnt := HNT.out
      subst hts
      subst hnt
      refine ⟨_, _, rfl, ?_, ?_⟩
      · refine hH.move (by omega) (by simp; omega) fun p p1 p2 => ?_
        rw [show (((w5.setCell ⟨w.heap.size + 1, 0, none⟩ (.int .i64 5)).setCell ⟨w.heap.size + 1, 1, none⟩ (.int .u64 0)).setCell ⟨w.heap.size + 1, 2, none⟩ (.string ⟨#[]⟩)).setCell ⟨w.heap.size + 1, 3, none⟩ (.slice A3 (atomT s :: l.map verT).length c3) = four w5 (w.heap.size + 1) 0 (.int .i64 5) (.int .u64 0) (.string ⟨#[]⟩) (.slice A3 (atomT s :: l.map verT).length c3) from rfl, four_cell _ _ _ _ _ _ _ p (by omega)]
        exact hb5.cell p2
      · exact four_below (bw.trans (hb5.mono hbs)) (by omega) _ _ _ _
end Go.Proofs.Ytnkfboplafckoaa.nodes

/- letheref06's Of: the term of a node that may be. -/

namespace Go.Proofs.Ytnkfboplafckoaa.nodes
set_option linter.unusedVariables false
set_option linter.unusedSimpArgs false
open Go.RowKit Go.Proofs.Ytnkfboplafckoaa.base Go.Proofs.Ytnkfboplafckoaa.quotas Go.Proofs.Ytnkfboplafckoaa.vers Go.Proofs.Ytnkfboplafckoaa.tm Go.Proofs.Ytnkfboplafckoaa.lies Go.Proofs.Ytnkfboplafckoaa.copies Go.Proofs.Ytnkfboplafckoaa.makes Go.Proofs.Ytnkfboplafckoaa.built

/-- behind Of's beginning: the node's box and the answer's -/
def Ox (w : World) (lf : Bool) (u u' : Value) (wr : World) : Prop :=
  (wr.cell? ⟨w.heap.size, 0, none⟩ = some (.bool lf) ∧ wr.cell? ⟨w.heap.size, 1, none⟩ = some u ∧ wr.cell? ⟨w.heap.size, 2, none⟩ = some u') ∧ Blk wr (w.heap.size + 1) 31 #[.int .i64 0, .int .u64 0, .string ⟨#[]⟩, .slice none 0 0] ∧ Below w.heap.size w wr
theorem Ox.new (w : World) (lf : Bool) (u u' : Value) : Ox w lf u u' ((w.alloc (.cells #[.bool lf, u, u'] 27)).alloc (.cells #[.int .i64 0, .int .u64 0, .string ⟨#[]⟩, .slice none 0 0] 31)) := by
  have k1 := (Blk.new w 27 #[.bool lf, u, u']).alloc (.cells #[.int .i64 0, .int .u64 0, .string ⟨#[]⟩, .slice none 0 0] 31)
  have k2 := Blk.new (w.alloc (.cells #[.bool lf, u, u'] 27)) 31 #[.int .i64 0, .int .u64 0, .string ⟨#[]⟩, .slice none 0 0]
  rw [World.size_alloc] at k2
  exact ⟨⟨k1.cell 0, k1.cell 1, k1.cell 2⟩, k2, ((Below.refl _ _).alloc (Nat.le_refl _) _).alloc (by simp) _⟩
theorem Ox.next {w wr w' : World} {lf : Bool} {u u' : Value} (h : Ox w lf u u' wr) {B : Nat} (hB : w.heap.size + 2 ≤ B) (hb : Below B wr w') : Ox w lf u u' w' := by
  obtain ⟨⟨a, b, c⟩, k, hw⟩ := h
  refine ⟨⟨?_, ?_, ?_⟩, k.below hb (by omega), hw.trans (hb.mono (by omega))⟩ <;> (rw [hb.cell (by simp; omega)]; assumption)
theorem len5 {n : Nat} (h : n ≤ 5) : (n + 1) * 56 ≤ 140737488355328 := Nat.le_trans (Nat.mul_le_mul_right 56 (show n + 1 ≤ 6 by omega)) (by decide)
/-- how an answered term lies -/
def TAns (w : World) (t : T) (e : Ending) (w' : World) : Prop := ∃ A c, e = .returned (T.val t (.slice A t.l.length c)) ∧ Held w' w.heap.size w'.heap.size t.l (.slice A t.l.length c) ∧ Below w.heap.size w w'

set_option maxRecDepth 100000 in
set_option maxHeartbeats 1000000 in
theorem of_leaf (es : List E) (A : Option Addr) (cap : Nat) (Q : Option Addr) (nq m : Nat) (w : World) (hv : Es w w.heap.size es A cap) (h4 : es.length ≤ 4) (hn : ∀ x ∈ es, x.l.length ≤ 4 ∧ ∀ y ∈ x.l, 0 ≤ y.n) :
    Calls Try.prog 50 #[.agg #[.bool true, .slice A es.length cap, .slice Q nq m]] w (TAns w (rowT (numT 1 :: es.map entT))) := by
  have E0 := Ox.new w true (.slice A es.length cap) (.slice Q nq m)
  go_enter Try.func50, Try.ntmps50
  go_wp2_with (go_at_call 78; refine (refNum_any _ _ (by decide)).mono ?_; rintro e w1 ⟨rfl, hb1⟩; have E1 := E0.next (by simp) hb1; have hz1 := hb1.size; obtain ⟨⟨e0, e1, e2⟩, kb, bw⟩ := id E1; simp only [World.size_alloc] at hz1; have lt0 : w.heap.size < w1.heap.size := by omega)
  have hB1 := built_bare (w := w1) (lo := w.heap.size + 2) (bare_num (n := 1) (by decide)) (by omega)
  have E2 := E1.next (by omega) ((Below.refl w1.heap.size w1).alloc (Nat.le_refl _) (.cells (bareL [numT 1]).toArray 31))
  clear E0 E1 hb1 e0 e1 e2 kb bw
  go_loopw [3, 16] (fun v i wr => ∃ j : Nat, j ≤ es.length ∧ i = .int .i64 j ∧ Built (w.heap.size + 2) wr (numT 1 :: (es.take j).map entT) v ∧ Ox w true (.slice A es.length cap) (.slice Q nq m) wr ∧ w.heap.size + 2 ≤ wr.heap.size) (fun _ i _ => es.length - (intOf i).toNat)
  case atStart => exact ⟨0, Nat.zero_le _, rfl, hB1, E2, by simp; omega⟩
  case round =>
    clear hB1 E2 lt0 hz1
    obtain ⟨j, hj, rfl, hB, hE, hz⟩ := hrel
    obtain ⟨⟨e0, e1, e2⟩, kb, bw⟩ := id hE
    by_cases hlt : j < es.length
    · obtain ⟨bk, off, rfl, hbk, v0, v1, hVs⟩ := (hv.below bw).at_ hlt
      have hfx := (hv.2.2.2.2 _ (List.getElem_mem hlt)).2
      have hx4 := hn _ (List.getElem_mem hlt)
      have hvl : es[j].l.length ≤ 140737488355328 := by omega
      have hc := refEntry_any es[j].s es[j].l es[j].A es[j].c (wr.alloc (.cells #[.string es[j].s, .slice es[j].A es[j].l.length es[j].c] 53)) (((hv.2.2.2.2 _ (List.getElem_mem hlt)).1.below (bw.alloc bw.size _)).more (by have := bw.size; simp; omega)) hfx hx4.2 (Nat.le_trans (Nat.mul_le_mul_right 56 (show es[j].l.length + 2 ≤ 6 by omega)) (by decide))
      have hF : T.k (entT es[j]) = 5 := rfl
      clear hVs hx4 hfx
      have htk : Hid ((es.take (j + 1)).map entT = (es.take j).map entT ++ [entT es[j]]) := vers.lay (by rw [List.take_succ_eq_append_getElem hlt, List.map_append, List.map_singleton])
      have hown := fun k hk => (hB.own k hk).2
      have hlen56 : Hid (((numT 1 :: (es.take j).map entT).length + 1) * 56 ≤ 140737488355328) := vers.lay (len5 (by rw [List.length_cons, List.length_map, List.length_take]; omega))
      have D1 : Below wr.heap.size wr (wr.alloc (.cells #[.string es[j].s, .slice es[j].A es[j].l.length es[j].c] 53)) := (Below.refl _ _).alloc (Nat.le_refl _) _
      go_wp2_with fail
      refine hc.mono ?_
      rintro e w3 ⟨A3, c3, rfl, hH, hb3⟩
      have D3 := D1.trans (hb3.mono D1.size)
      have hB3 := hB.below D3
      have hz3 := D3.size
      have hlo3 : w.heap.size + 2 ≤ w3.heap.size := Nat.le_trans hz hz3
      have hz4 := hb3.size
      simp only [World.size_alloc] at hz4 hH
      have hH : Held w3 (wr.heap.size + 1) w3.heap.size (entT es[j]).l (.slice A3 (es[j].l.length + 1) c3) := by
        rw [show es[j].l.length + 1 = (atomT es[j].s :: es[j].l.map verT).length by simp]
        exact hH
      have hlo2 : w.heap.size + 2 ≤ wr.heap.size + 1 := Nat.le_succ_of_le hz
      have hown2 := fun k hk => Nat.lt_succ_of_lt (hown k hk)
      have hle56 := hlen56.out
      have k1 : -9223372036854775808 ≤ (entT es[j]).k ∧ (entT es[j]).k ≤ 9223372036854775807 := by show (-9223372036854775808 : Int) ≤ 5 ∧ (5 : Int) ≤ 9223372036854775807; decide
      have k2 : 0 ≤ (entT es[j]).n ∧ (entT es[j]).n < 18446744073709551616 := by show (0 : Int) ≤ 0 ∧ (0 : Int) < 18446744073709551616; decide
      have k3 : (entT es[j]).s.size ≤ maxLen := Nat.zero_le maxLen
      clear hc D1 hlen56
      go_wp2_with (at_builtin; go_loud (refine wpList_append_term rfl _ _ rfl (t := entT es[j]) rfl hB3 rfl hlo3 hH (Nat.le_refl _) hlo2 hown2 k1 k2 k3 rfl (by simp) hle56 ?next))
      case next =>
        intro v4 w4 hB4 hb4 hz5 _
        have D4 : Below (w.heap.size + 2) wr w4 := (D3.mono hz).trans hb4
        go_wp2_with fail
        exact ⟨⟨j + 1, hlt, by go_num, by rw [htk.out]; simpa using hB4, hE.next (Nat.le_refl _) D4, by omega⟩, by simp [intOf]; omega⟩
    · have htk : es.take j = es := List.take_of_length_le (by omega)
      rw [htk] at hB
      have hlm : (numT 1 :: es.map entT).length = es.length + 1 := by simp
      have hH := hB.held (by rw [hlm]; exact len5 (by omega))
      obtain ⟨A3, c3, rfl, hc3⟩ := hB.form
      clear hB htk hc3
      generalize hts : numT 1 :: es.map entT = ts at hH hlm ⊢
      have HTS := vers.lay hts
      clear hts
      have lt1 := kb.lt
      have hbs := bw.size
      generalize hnt : ts.length = nt at hH ⊢
      have HNT := vers.lay hnt
      clear hnt
      go_wp2_with fail
      refine (refRow_any _ _ _ _).mono ?_
      rintro e w5 ⟨rfl, hb5⟩
      have kb2 := kb.below hb5 lt1
      have hz5 := hb5.size
      have z0 := kb2.cell 0
      have z1 := kb2.cell 1
      have z2 := kb2.cell 2
      have z3 := kb2.cell 3
      simp at z0 z1 z2 z3
      have f0 := kb2.frozen 0
      have f1 := kb2.frozen 1
      have f2 := kb2.frozen 2
      have f3 := kb2.frozen 3
      go_wp2_with fail
      refine bodyPost_ret (v := T.val (rowT ts) (.slice A3 nt c3)) (by simp [results, Try.results50, go_sem, z0, z1, z2, z3, rowT, T.k, T.n, T.s]) rfl ?_
      have hts := HTS.out
      have hnt := HNT.out
      subst hts
      subst hnt
      refine ⟨_, _, rfl, ?_, ?_⟩
      · refine hH.move (by omega) (by simp; omega) fun p p1 p2 => ?_
        exact (four_cell w5 (w.heap.size + 1) 0 _ _ _ _ p (by omega)).trans (hb5.cell p2)
      · exact four_below (bw.trans (hb5.mono hbs)) (by omega) _ _ _ _

set_option maxRecDepth 100000 in
set_option maxHeartbeats 1000000 in
theorem of_inner (ks : List K) (A : Option Addr) (cap : Nat) (Q : Option Addr) (nq m : Nat) (w : World) (hv : Ks w w.heap.size ks A cap) (h4 : ks.length ≤ 4) (hn : ∀ x ∈ ks, refOk x.g x.o x.n) :
    Calls Try.prog 50 #[.agg #[.bool false, .slice Q nq m, .slice A ks.length cap]] w (TAns w (rowT (numT 2 :: ks.map kidT))) := by
  have E0 := Ox.new w false (.slice Q nq m) (.slice A ks.length cap)
  go_enter Try.func50, Try.ntmps50
  go_wp2_with (go_at_call 78; refine (refNum_any _ _ (by decide)).mono ?_; rintro e w1 ⟨rfl, hb1⟩; have E1 := E0.next (by simp) hb1; have hz1 := hb1.size; obtain ⟨⟨e0, e1, e2⟩, kb, bw⟩ := id E1; simp only [World.size_alloc] at hz1; have lt0 : w.heap.size < w1.heap.size := by omega)
  have hB1 := built_bare (w := w1) (lo := w.heap.size + 2) (bare_num (n := 2) (by decide)) (by omega)
  have E2 := E1.next (by omega) ((Below.refl w1.heap.size w1).alloc (Nat.le_refl _) (.cells (bareL [numT 2]).toArray 31))
  clear E0 E1 hb1 e0 e1 e2 kb bw
  go_loopw [6, 33] (fun v i wr => ∃ j : Nat, j ≤ ks.length ∧ i = .int .i64 j ∧ Built (w.heap.size + 2) wr (numT 2 :: (ks.take j).map kidT) v ∧ Ox w false (.slice Q nq m) (.slice A ks.length cap) wr ∧ w.heap.size + 2 ≤ wr.heap.size) (fun _ i _ => ks.length - (intOf i).toNat)
  case atStart => exact ⟨0, Nat.zero_le _, rfl, hB1, E2, by simp; omega⟩
  case round =>
    clear hB1 E2 lt0 hz1
    obtain ⟨j, hj, rfl, hB, hE, hz⟩ := hrel
    obtain ⟨⟨e0, e1, e2⟩, kb, bw⟩ := id hE
    by_cases hlt : j < ks.length
    · obtain ⟨bk, off, rfl, hbk, v0, v1, v2, v3, v4⟩ := (hv.below bw).at_ hlt
      have hfx := hv.2.2.2.2 _ (List.getElem_mem hlt)
      have hc := refKid_any ks[j] (wr.alloc (.cells #[.string ks[j].s, .int .u64 (ks[j].k : Int), .int .i64 ks[j].g, .int .i64 ks[j].o, .int .i64 ks[j].n] 43)) hfx (hn _ (List.getElem_mem hlt))
      clear hfx
      have htk : Hid ((ks.take (j + 1)).map kidT = (ks.take j).map kidT ++ [kidT ks[j]]) := vers.lay (by rw [List.take_succ_eq_append_getElem hlt, List.map_append, List.map_singleton])
      have hown := fun k hk => (hB.own k hk).2
      have hlen56 : Hid (((numT 2 :: (ks.take j).map kidT).length + 1) * 56 ≤ 140737488355328) := vers.lay (len5 (by rw [List.length_cons, List.length_map, List.length_take]; omega))
      have D1 : Below wr.heap.size wr (wr.alloc (.cells #[.string ks[j].s, .int .u64 (ks[j].k : Int), .int .i64 ks[j].g, .int .i64 ks[j].o, .int .i64 ks[j].n] 43)) := (Below.refl _ _).alloc (Nat.le_refl _) _
      go_wp2_with fail
      refine hc.mono ?_
      rintro e w3 ⟨A3, c3, rfl, hH, hb3⟩
      have D3 := D1.trans (hb3.mono D1.size)
      have hB3 := hB.below D3
      have hz3 := D3.size
      have hlo3 : w.heap.size + 2 ≤ w3.heap.size := Nat.le_trans hz hz3
      have hz4 := hb3.size
      simp only [World.size_alloc] at hz4 hH
      have hH : Held w3 (wr.heap.size + 1) w3.heap.size (kidT ks[j]).l (.slice A3 5 c3) := hH
      have hlo2 : w.heap.size + 2 ≤ wr.heap.size + 1 := Nat.le_succ_of_le hz
      have hown2 := fun k hk => Nat.lt_succ_of_lt (hown k hk)
      have hle56 := hlen56.out
      have k1 : -9223372036854775808 ≤ (kidT ks[j]).k ∧ (kidT ks[j]).k ≤ 9223372036854775807 := by show (-9223372036854775808 : Int) ≤ 5 ∧ (5 : Int) ≤ 9223372036854775807; decide
      have k2 : 0 ≤ (kidT ks[j]).n ∧ (kidT ks[j]).n < 18446744073709551616 := by show (0 : Int) ≤ 0 ∧ (0 : Int) < 18446744073709551616; decide
      have k3 : (kidT ks[j]).s.size ≤ maxLen := Nat.zero_le maxLen
      clear hc D1 hlen56
      go_wp2_with (at_builtin; go_loud (refine wpList_append_term rfl _ _ rfl (t := kidT ks[j]) rfl hB3 rfl hlo3 hH (Nat.le_refl _) hlo2 hown2 k1 k2 k3 rfl (by simp) hle56 ?next))
      case next =>
        intro v4 w4 hB4 hb4 hz5 _
        have D4 : Below (w.heap.size + 2) wr w4 := (D3.mono hz).trans hb4
        go_wp2_with fail
        exact ⟨⟨j + 1, hlt, by go_num, by rw [htk.out]; simpa using hB4, hE.next (Nat.le_refl _) D4, by omega⟩, by simp [intOf]; omega⟩
    · have htk : ks.take j = ks := List.take_of_length_le (by omega)
      rw [htk] at hB
      have hlm : (numT 2 :: ks.map kidT).length = ks.length + 1 := by simp
      have hH := hB.held (by rw [hlm]; exact len5 (by omega))
      obtain ⟨A3, c3, rfl, hc3⟩ := hB.form
      clear hB htk hc3
      generalize hts : numT 2 :: ks.map kidT = ts at hH hlm ⊢
      have HTS := vers.lay hts
      clear hts
      have lt1 := kb.lt
      have hbs := bw.size
      generalize hnt : ts.length = nt at hH ⊢
      have HNT := vers.lay hnt
      clear hnt
      go_wp2_with fail
      refine (refRow_any _ _ _ _).mono ?_
      rintro e w5 ⟨rfl, hb5⟩
      have kb2 := kb.below hb5 lt1
      have hz5 := hb5.size
      have z0 := kb2.cell 0
      have z1 := kb2.cell 1
      have z2 := kb2.cell 2
      have z3 := kb2.cell 3
      simp at z0 z1 z2 z3
      have f0 := kb2.frozen 0
      have f1 := kb2.frozen 1
      have f2 := kb2.frozen 2
      have f3 := kb2.frozen 3
      go_wp2_with fail
      refine bodyPost_ret (v := T.val (rowT ts) (.slice A3 nt c3)) (by simp [results, Try.results50, go_sem, z0, z1, z2, z3, rowT, T.k, T.n, T.s]) rfl ?_
      have hts := HTS.out
      have hnt := HNT.out
      subst hts
      subst hnt
      refine ⟨_, _, rfl, ?_, ?_⟩
      · refine hH.move (by omega) (by simp; omega) fun p p1 p2 => ?_
        exact (four_cell w5 (w.heap.size + 1) 0 _ _ _ _ p (by omega)).trans (hb5.cell p2)
      · exact four_below (bw.trans (hb5.mono hbs)) (by omega) _ _ _ _

end Go.Proofs.Ytnkfboplafckoaa.nodes

/- letheref06's Term: a node's term, or why it has none. -/

namespace Go.Proofs.Ytnkfboplafckoaa.nodes
set_option linter.unusedVariables false
set_option linter.unusedSimpArgs false
open Go.RowKit Go.Proofs.Ytnkfboplafckoaa.base Go.Proofs.Ytnkfboplafckoaa.quotas Go.Proofs.Ytnkfboplafckoaa.vers Go.Proofs.Ytnkfboplafckoaa.tm Go.Proofs.Ytnkfboplafckoaa.lies Go.Proofs.Ytnkfboplafckoaa.copies Go.Proofs.Ytnkfboplafckoaa.makes Go.Proofs.Ytnkfboplafckoaa.built

theorem vbad_pos (c d : Int) : ∀ (l : List V) (p : Int), vbad c d p l = 0 → 0 ≤ p → ∀ y ∈ l, 0 ≤ y.n
  | [], _, _, _, y, hy => by cases hy
  | x :: l, p, h, hp, y, hy => by
    unfold vbad at h
    split at h
    · omega
    · rename_i h1
      split at h
      · omega
      · rcases List.mem_cons.1 hy with rfl | hy
        · omega
        · exact vbad_pos c d l x.n h (by omega) y hy
theorem rb_zero {n : Int} {l : List V} (h : rb n l = 0) : n = 0 := by
  unfold rb at h
  split at h
  · omega
  · exact h
theorem nbad_all {a b c d e f h : Int} {s : ByteArray} {l : List V} (hz : nbad a b c d e f h s l = 0) : l.length ≤ 4 ∧ ∀ y ∈ l, 0 ≤ y.n := by
  by_cases hk : ok a b c d e f h
  · have h5 := hk.2.2.2.2.1
    rw [nbad_yes hk] at hz
    split at hz
    · omega
    · split at hz
      · omega
      · split at hz
        · omega
        · exact ⟨by omega, vbad_pos c d l 0 hz (Int.le_refl _)⟩
  · rw [nbad_no hk] at hz; omega
theorem ebad_all (a b c d e f h : Int) : ∀ (l : List E) (p : Option ByteArray), ebad a b c d e f h p l = 0 → ∀ x ∈ l, x.l.length ≤ 4 ∧ ∀ y ∈ x.l, 0 ≤ y.n
  | [], _, _, x, hx => by cases hx
  | z :: l, p, hb, x, hx => by
    have hb' : (if rb (nbad a b c d e f h z.s z.l) z.l ≠ 0 then rb (nbad a b c d e f h z.s z.l) z.l else if behind z.s p = true then 60 else ebad a b c d e f h (some z.s) l) = 0 := by
      cases p <;> exact hb
    split at hb'
    · rename_i h1; exact absurd hb' h1
    · rename_i h1
      split at hb'
      · omega
      · rcases List.mem_cons.1 hx with rfl | hx
        · exact nbad_all (rb_zero (Classical.not_not.1 h1))
        · exact ebad_all a b c d e f h l _ hb' x hx
theorem kbad_all (b : Int) : ∀ (l : List K) (p : Option ByteArray), kbad b p l = 0 → ∀ x ∈ l, refOk x.g x.o x.n
  | [], _, _, x, hx => by cases hx
  | z :: l, p, hb, x, hx => by
    have hb' : (if z.s.size = 0 then 4 else if b < z.s.size then 5 else if ¬ refOk z.g z.o z.n then 61 else if behind z.s p = true then 60 else kbad b (some z.s) l) = 0 := by
      cases p <;> exact hb
    split at hb'
    · omega
    · split at hb'
      · omega
      · split at hb'
        · omega
        · rename_i h1
          split at hb'
          · omega
          · rcases List.mem_cons.1 hx with rfl | hx
            · exact Classical.not_not.1 h1
            · exact kbad_all b l _ hb' x hx
theorem ndbad_leaf {a b c d e f h : Int} {es : List E} {ks : List K} (hz : ndbad a b c d e f h true es ks = 0) : es.length ≤ 4 ∧ ∀ x ∈ es, x.l.length ≤ 4 ∧ ∀ y ∈ x.l, 0 ≤ y.n := by
  unfold ndbad at hz
  split at hz
  · rw [if_pos rfl] at hz
    split at hz
    · omega
    · exact ⟨by omega, ebad_all a b c d e f h es none hz⟩
  · omega
theorem ndbad_inner {a b c d e f h : Int} {es : List E} {ks : List K} (hz : ndbad a b c d e f h false es ks = 0) : ks.length ≤ 4 ∧ ∀ x ∈ ks, refOk x.g x.o x.n := by
  unfold ndbad at hz
  split at hz
  · rw [if_neg (by simp)] at hz
    split at hz
    · omega
    · exact ⟨by omega, kbad_all b ks none hz⟩
  · omega

/-- a node's term, or what is wrong -/
def termP (a b c d e f h : Int) (lf : Bool) (es : List E) (ks : List K) : T × Int := if ndbad a b c d e f h lf es ks ≠ 0 then (boxes.zT, ndbad a b c d e f h lf es ks) else (nodeT lf es ks, 0)
theorem of_any {a b c d e f h : Int} {lf : Bool} {es : List E} {ks : List K} (hz : ndbad a b c d e f h lf es ks = 0) (A : Option Addr) (cap : Nat) (Q : Option Addr) (m : Nat) (w : World) (hv : Es w w.heap.size es A cap) (hk : Ks w w.heap.size ks Q m) :
    Calls Try.prog 50 #[.agg #[.bool lf, .slice A es.length cap, .slice Q ks.length m]] w (TAns w (nodeT lf es ks)) := by
  cases lf with
  | true => exact of_leaf es A cap Q ks.length m w hv (ndbad_leaf hz).1 (ndbad_leaf hz).2
  | false => exact of_inner ks Q m A es.length cap w hk (ndbad_inner hz).1 (ndbad_inner hz).2
theorem nodeT_kns (lf : Bool) (es : List E) (ks : List K) : (nodeT lf es ks).k = 5 ∧ (nodeT lf es ks).n = 0 ∧ (nodeT lf es ks).s = ⟨#[]⟩ := by
  cases lf <;> exact ⟨rfl, rfl, rfl⟩

/-- behind Term's beginning: the quota's, the node's and the answer's boxes -/
def Tx (w : World) (a b c d e f h : Int) (lf : Bool) (u u' : Value) (wr : World) : Prop := Bn w a b c d e f h lf u u' wr ∧ Blk wr (w.heap.size + 2) 31 #[.int .i64 0, .int .u64 0, .string ⟨#[]⟩, .slice none 0 0]
theorem Tx.new (w : World) (a b c d e f h : Int) (lf : Bool) (u u' : Value) : Tx w a b c d e f h lf u u' (((w.alloc (.cells #[.int .i64 a, .int .i64 b, .int .i64 c, .int .i64 d, .int .i64 e, .int .i64 f, .int .i64 h] 23)).alloc (.cells #[.bool lf, u, u'] 27)).alloc (.cells #[.int .i64 0, .int .u64 0, .string ⟨#[]⟩, .slice none 0 0] 31)) := by
  have k := Blk.new ((w.alloc (.cells #[.int .i64 a, .int .i64 b, .int .i64 c, .int .i64 d, .int .i64 e, .int .i64 f, .int .i64 h] 23)).alloc (.cells #[.bool lf, u, u'] 27)) 31 #[.int .i64 0, .int .u64 0, .string ⟨#[]⟩, .slice none 0 0]
  simp only [World.size_alloc] at k
  exact ⟨(Bn.new w a b c d e f h lf u u').alloc _, k⟩
theorem Tx.next {w wr w' : World} {a b c d e f h : Int} {lf : Bool} {u u' : Value} (h1 : Tx w a b c d e f h lf u u' wr) (hb : Below wr.heap.size wr w') : Tx w a b c d e f h lf u u' w' := ⟨h1.1.next hb, h1.2.below hb h1.2.lt⟩
theorem four_same (w : World) (g : Nat) (x y z u : Value) : (((w.setCell ⟨g, 0, none⟩ x).setCell ⟨g, 1, none⟩ y).setCell ⟨g, 2, none⟩ z).setCell ⟨g, 3, none⟩ u = four w g 0 x y z u := rfl

set_option maxRecDepth 100000 in
set_option maxHeartbeats 1000000 in
theorem refTerm_any (a b c d e f h : Int) (lf : Bool) (es : List E) (ks : List K) (A : Option Addr) (cap : Nat) (A' : Option Addr) (cap' : Nat) (w : World) (hv : Es w w.heap.size es A cap) (hk : Ks w w.heap.size ks A' cap') :
    Calls Try.prog 26 #[.agg #[.int .i64 a, .int .i64 b, .int .i64 c, .int .i64 d, .int .i64 e, .int .i64 f, .int .i64 h], .agg #[.bool lf, .slice A es.length cap, .slice A' ks.length cap']] w (boxes.Ans w (termP a b c d e f h lf es ks)) := by
  have T0 := Tx.new w a b c d e f h lf (.slice A es.length cap) (.slice A' ks.length cap')
  have hsz := T0.2.lt
  have hc := refNode_any a b c d e f h lf es ks A cap A' cap' _ (hv.at_world T0.1.below) (hk.at_world T0.1.below)
  have ho := fun (hz : ndbad a b c d e f h lf es ks = 0) wr (hb : Below w.heap.size w wr) => of_any hz A cap A' cap' wr (hv.at_world hb) (hk.at_world hb)
  have hkns := nodeT_kns lf es ks
  unfold termP
  generalize ndbad a b c d e f h lf es ks = n at hc ho ⊢
  generalize nodeT lf es ks = t at ho hkns ⊢
  clear hv hk
  generalize es.length = ne at T0 hc ho hsz ⊢
  generalize ks.length = nk at T0 hc ho hsz ⊢
  by_cases hz : n = 0
  · have ho2 := ho hz
    clear ho
    rw [if_neg (by simpa using hz)]
    subst hz
    obtain ⟨tk, tn, ts, tl⟩ := t
    obtain ⟨q1, q2, q3⟩ := hkns
    cases (show tk = 5 from q1)
    cases (show tn = 0 from q2)
    cases (show ts = ⟨#[]⟩ from q3)
    clear q1 q2 q3
    go_enter Try.func26, Try.ntmps26
    go_wp2_with fail
    refine hc.mono ?_
    rintro x w1 ⟨rfl, hb1⟩
    have T1 := T0.next hb1
    clear hb1 T0 hc
    obtain ⟨⟨⟨⟨c0, c1, c2, c3, c4, c5, c6⟩, l1, l2, b1⟩, ⟨n0, n1, n2⟩, l3⟩, hR⟩ := id T1
    go_wp2_with fail
    refine (ho2 _ b1).mono ?_
    rintro x w2 ⟨A2, k2, rfl, hH, hb2⟩
    have T2 := T1.next hb2
    clear c0 c1 c2 c3 c4 c5 c6 l1 l2 n0 n1 n2 l3 hR ho2
    obtain ⟨B2, hR⟩ := T2
    have z0 := hR.cell 0
    have z1 := hR.cell 1
    have z2 := hR.cell 2
    have z3 := hR.cell 3
    simp at z0 z1 z2 z3
    have f0 := hR.frozen 0
    have f1 := hR.frozen 1
    have f2 := hR.frozen 2
    have f3 := hR.frozen 3
    have hs1 := T1.2.lt
    have hs2 := hb2.size
    simp only [T.val, T.k, T.n, T.s, T.l] at hH ⊢
    go_wp2_with fail
    refine bodyPost_ret (v := .tuple #[T.val (.mk 5 0 ⟨#[]⟩ tl) (.slice A2 tl.length k2), .int .i64 0]) (by simp [results, Try.results26, go_sem, z0, z1, z2, z3, T.k, T.n, T.s]) rfl ⟨four_below B2.below (by omega) _ _ _ _, A2, k2, rfl, ?_, ?_⟩
    · refine hH.move b1.size (by simp) fun p p1 p2 => ?_
      exact four_cell w2 (w.heap.size + 2) 0 _ _ _ _ p (by omega)
    · exact ⟨by show (-9223372036854775808 : Int) ≤ 5 ∧ (5 : Int) ≤ 9223372036854775807; decide, by show (0 : Int) ≤ 0 ∧ (0 : Int) < 18446744073709551616; decide, Nat.zero_le maxLen⟩
  · rw [if_pos hz]
    have d1 : (n != 0) = true := by simpa using hz
    clear hz ho hkns
    go_enter Try.func26, Try.ntmps26
    go_wp2_with fail
    refine hc.mono ?_
    rintro x w1 ⟨rfl, hb1⟩
    have T1 := T0.next hb1
    clear hb1 T0 hc
    obtain ⟨B1, hR⟩ := T1
    have z0 := hR.cell 0
    have z1 := hR.cell 1
    have z2 := hR.cell 2
    have z3 := hR.cell 3
    simp at z0 z1 z2 z3
    have f0 := hR.frozen 0
    have f1 := hR.frozen 1
    have f2 := hR.frozen 2
    have f3 := hR.frozen 3
    have hs1 := hR.lt
    go_wp2_with fail
    refine bodyPost_ret (v := .tuple #[T.val boxes.zT (.slice none 0 0), .int .i64 n]) (by simp [results, Try.results26, go_sem, z0, z1, z2, z3, boxes.zT, T.k, T.n, T.s]) rfl ⟨four_below B1.below (by omega) _ _ _ _, none, 0, rfl, Held.nil _ _ _, boxes.fits_z⟩
end Go.Proofs.Ytnkfboplafckoaa.nodes
