/-
  Own text. The walk of the law ChachaQuarters.
-/
import Derived.Test.YtfgebcemdjplnaaA6
namespace Go.Proofs.Ytfgebcemdjplnaa
open Go.RowKit Go.Proofs
theorem below_touch {b B : Nat} {w w' : World} (h : Touch (fun k => k = b) w w') (hb : B ≤ b) (hB : B ≤ w.heap.size) : Below B w w' := ⟨h.os, h.tape, h.output, h.size, fun k hk => h.block k (by omega) (by omega)⟩
set_option maxHeartbeats 1000000 in
theorem quarters_walk (a b c d : Int) (w : World) (ha : W32 a) (hb : W32 b) (hc : W32 c) (hd : W32 d) :
    Calls Try.prog 3 #[.int .u32 a, .int .u32 b, .int .u32 c, .int .u32 d] w fun e w' => e = .returned (.bool true) ∧ Below w.heap.size w w' := by
  have r := fun w => quarter_run a b c d w ha hb hc hd
  have hq : (quart ⟨a, b, c, d⟩).ok := quart_ok ⟨ha, hb, hc, hd⟩
  obtain ⟨s, hs⟩ : ∃ s : Nat → Int, (fun i => if i = 0 then a else if i = 1 then b else if i = 2 then c else d) = s := ⟨_, rfl⟩
  have s0 : s 0 = a := by rw [← hs]; rfl
  have s1 : s 1 = b := by rw [← hs]; rfl
  have s2 : s 2 = c := by rw [← hs]; rfl
  have s3 : s 3 = d := by rw [← hs]; rfl
  have Ws : ∀ i, i < 4 → W32 (s i) := fun i hi => by
    match i, hi with
    | 0, _ => rw [s0]; exact ha
    | 1, _ => rw [s1]; exact hb
    | 2, _ => rw [s2]; exact hc
    | 3, _ => rw [s3]; exact hd
  have q0 : qrow s 0 1 2 3 0 = (quart ⟨a, b, c, d⟩).a := by simp [qrow, upd, s0, s1, s2, s3]
  have q1 : qrow s 0 1 2 3 1 = (quart ⟨a, b, c, d⟩).b := by simp [qrow, upd, s0, s1, s2, s3]
  have q2 : qrow s 0 1 2 3 2 = (quart ⟨a, b, c, d⟩).c := by simp [qrow, upd, s0, s1, s2, s3]
  have q3 : qrow s 0 1 2 3 3 = (quart ⟨a, b, c, d⟩).d := by simp [qrow, upd, s0, s1, s2, s3]
  have HW : #[Value.int .i64 a, .int .i64 b, .int .i64 c, .int .i64 d] = WA .i64 4 s := by
    simp [WA, List.range, List.range.loop, s0, s1, s2, s3]
  have rq := fun w => rquarter_run w.heap.size 4 4 s 0 1 2 3 (w.alloc (.cells (WA .i64 4 s) 3)) (RowAt.of (heap_alloc_new w _)) Ws (by decide) (by decide) (by decide) (by decide) (by decide) (by decide) (by decide) (by decide) (by decide) (by decide)
  generalize quart ⟨a, b, c, d⟩ = q at *
  obtain ⟨qa, qb, qc, qd⟩ := q
  obtain ⟨ka, kb, kc, kd⟩ := hq
  dsimp only at *
  clear s0 s1 s2 s3 hs Ws
  unfold W32 at *
  go_enter Try.func3, Try.ntmps3
  go_wp2_with fail
  refine (rq _).mono ?_
  rintro e w1 ⟨rfl, hR, hT⟩
  go_wp2_with fail
  refine (r _).mono ?_
  rintro e w2 ⟨rfl, rfl⟩
  have c0 := hR.cell 0 (by decide)
  have c1 := hR.cell 1 (by decide)
  have c2 := hR.cell 2 (by decide)
  have c3 := hR.cell 3 (by decide)
  rw [q0] at c0
  rw [q1] at c1
  rw [q2] at c2
  rw [q3] at c3
  go_wp2_with fail
  refine (awake_run _).mono ?_
  rintro e w3 ⟨rfl, rfl⟩
  go_wp2_with fail
  go_ret
  exact ⟨rfl, Below.trans ((Below.refl _ w).alloc (Nat.le_refl _) _) (below_touch hT (Nat.le_refl _) (by simp))⟩
theorem quarters_lift (a : Int) (ha : (Lit.int .u32 a).wf = true) (b : Int) (hb : (Lit.int .u32 b).wf = true) (c : Int) (hc : (Lit.int .u32 c).wf = true) (d : Int) (hd : (Lit.int .u32 d).wf = true) (w : World) :
    Calls Try.prog 3 #[.int .u32 a, .int .u32 b, .int .u32 c, .int .u32 d] w fun e w' => e = .returned (.bool true) ∧ Below w.heap.size w w' :=
  quarters_walk a b c d w (w32_wf ha) (w32_wf hb) (w32_wf hc) (w32_wf hd)
end Go.Proofs.Ytfgebcemdjplnaa
