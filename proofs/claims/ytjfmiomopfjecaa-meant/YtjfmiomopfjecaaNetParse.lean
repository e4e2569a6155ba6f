/- net.Parse. -/
import Derived.Test.YtjfmiomopfjecaaNetSound
namespace Go.Proofs.Ytjfmiomopfjecaa
open Go.RowKit

theorem parse_shape (s : ByteArray) (w : World) (hs : s.size ≤ maxLen) (h : M.headOk s = false) :
    Calls Try.prog 56 #[.string s] w fun e w' => e = .returned (.tuple #[.agg #[.int .i64 0, .slice none 0 0, .slice none 0 0], .bool false]) ∧ Below w.heap.size w w' := by
  go_enter Try.func56, Try.ntmps56
  go_wp2_with fail
  refine (shaped_no s _ hs h).mono ?_
  rintro e w' ⟨rfl, rfl⟩
  go_wp2
  exact bodyPost_ret (v := .tuple #[.agg #[.int .i64 0, .slice none 0 0, .slice none 0 0], .bool false]) (by simp [results, Try.results56, go_sem]) rfl ⟨rfl, (Below.refl _ _).alloc (Nat.le_refl _) _⟩

set_option maxHeartbeats 800000 in
theorem parse_any (s : ByteArray) (w : World) (hs : s.size ≤ maxLen) (h : M.headOk s = true) :
    Calls Try.prog 56 #[.string s] w fun e w' =>
      (soundOk s = true → ∃ v1 v2, e = .returned (.tuple #[.agg #[.int .i64 (M.bz s 1), v1, v2], .bool true]) ∧ HoldsRow w' v1 (M.bz s 2) (intCells (bvals s 4 (3 * M.bz s 2))) ∧ HoldsRow w' v2 (M.bz s 3) (intCells (bvals s (4 + 3 * M.bz s 2) (M.bz s 3)))) ∧
      (soundOk s = false → e = .returned (.tuple #[.agg #[.int .i64 0, .slice none 0 0, .slice none 0 0], .bool false])) ∧ Below w.heap.size w w' := by
  have HH := hide h
  have b1 := M.bz_lt s 1
  have b2 := M.bz_lt s 2
  have b3 := M.bz_lt s 3
  go_enter Try.func56, Try.ntmps56
  go_wp2_with fail
  refine (shaped_yes s _ hs h).mono ?_
  rintro e w' ⟨rfl, rfl⟩
  clear h
  go_wp2_with fail
  refine (wordByte_any s 2 _ hs (by omega)).mono ?_
  rintro e w' ⟨rfl, rfl⟩
  rw [show (2 : Int).toNat = 2 from rfl]
  go_wp2_with fail
  refine (wordByte_any s 3 _ hs (by omega)).mono ?_
  rintro e w' ⟨rfl, rfl⟩
  rw [show (3 : Int).toNat = 3 from rfl]
  go_wp2_with fail
  refine (wordByte_any s 1 _ hs (by omega)).mono ?_
  rintro e w' ⟨rfl, rfl⟩
  rw [show (1 : Int).toNat = 1 from rfl]
  go_wp2_with fail
  refine (nodes_any s (M.bz s 2) _ hs (by omega)).mono ?_
  rintro e w2 ⟨v1, rfl, hown1, hb2⟩
  obtain ⟨a1, cap1, rfl, _, _, _⟩ := (holdsRow_own hown1).shape
  have z0 : w2.cell? ⟨w.heap.size + 1, 0, none⟩ = some (.int .i64 (M.bz s 1)) := (hb2.cell (p := ⟨w.heap.size + 1, 0, none⟩) (by simp only [World.size_alloc]; omega)).trans (by go_simp)
  have z1 : w2.cell? ⟨w.heap.size + 1, 1, none⟩ = some (.slice none 0 0) := (hb2.cell (p := ⟨w.heap.size + 1, 1, none⟩) (by simp only [World.size_alloc]; omega)).trans (by go_simp)
  have z2 : w2.cell? ⟨w.heap.size + 1, 2, none⟩ = some (.slice none 0 0) := (hb2.cell (p := ⟨w.heap.size + 1, 2, none⟩) (by simp only [World.size_alloc]; omega)).trans (by go_simp)
  have r0 : w2.cell? ⟨w.heap.size, 0, none⟩ = some (.int .i64 0) := (hb2.cell (p := ⟨w.heap.size, 0, none⟩) (by simp only [World.size_alloc]; omega)).trans (by go_simp)
  have r1 : w2.cell? ⟨w.heap.size, 1, none⟩ = some (.slice none 0 0) := (hb2.cell (p := ⟨w.heap.size, 1, none⟩) (by simp only [World.size_alloc]; omega)).trans (by go_simp)
  have r2 : w2.cell? ⟨w.heap.size, 2, none⟩ = some (.slice none 0 0) := (hb2.cell (p := ⟨w.heap.size, 2, none⟩) (by simp only [World.size_alloc]; omega)).trans (by go_simp)
  have fz : ∀ o, w2.frozen? ⟨w.heap.size + 1, o, none⟩ = false := fun o => (hb2.frozen (p := ⟨w.heap.size + 1, o, none⟩) (by simp only [World.size_alloc]; omega)).trans (by go_simp)
  have fr : ∀ o, w2.frozen? ⟨w.heap.size, o, none⟩ = false := fun o => (hb2.frozen (p := ⟨w.heap.size, o, none⟩) (by simp only [World.size_alloc]; omega)).trans (by go_simp)
  have hsz2 := hb2.size
  simp only [World.size_alloc] at hsz2
  have HB2 : Hid (Below w.heap.size w w2) := (((Below.refl w.heap.size w).alloc (Nat.le_refl _) _).alloc (by simp) _).trans (hb2.mono (by simp; omega))
  have HO1 := hide hown1
  clear hown1 hb2
  go_wp2_with fail
  rw [show (4 + 3 * (M.bz s 2 : Int)) = ((4 + 3 * M.bz s 2 : Nat) : Int) from by omega]
  refine (wordBytes_any s (4 + 3 * M.bz s 2) (M.bz s 3) _ hs (by omega) (by omega)).mono ?_
  rintro e w3 ⟨v2, rfl, hown2, hb3⟩
  obtain ⟨a2, cap2, rfl, _, _, _⟩ := (holdsRow_own hown2).shape
  have hsz3 := hb3.size
  simp only [World.size_setCell] at hsz3
  have y0 : w3.cell? ⟨w.heap.size + 1, 0, none⟩ = some (.int .i64 (M.bz s 1)) := (hb3.cell (p := ⟨w.heap.size + 1, 0, none⟩) (by simp only [World.size_setCell]; omega)).trans (by go_simp)
  have y1 : w3.cell? ⟨w.heap.size + 1, 1, none⟩ = some (.slice a1 (M.bz s 2) cap1) := (hb3.cell (p := ⟨w.heap.size + 1, 1, none⟩) (by simp only [World.size_setCell]; omega)).trans (by go_simp)
  have y2 : w3.cell? ⟨w.heap.size + 1, 2, none⟩ = some (.slice none 0 0) := (hb3.cell (p := ⟨w.heap.size + 1, 2, none⟩) (by simp only [World.size_setCell]; omega)).trans (by go_simp)
  have q0 : w3.cell? ⟨w.heap.size, 0, none⟩ = some (.int .i64 0) := (hb3.cell (p := ⟨w.heap.size, 0, none⟩) (by simp only [World.size_setCell]; omega)).trans (by go_simp)
  have q1 : w3.cell? ⟨w.heap.size, 1, none⟩ = some (.slice none 0 0) := (hb3.cell (p := ⟨w.heap.size, 1, none⟩) (by simp only [World.size_setCell]; omega)).trans (by go_simp)
  have q2 : w3.cell? ⟨w.heap.size, 2, none⟩ = some (.slice none 0 0) := (hb3.cell (p := ⟨w.heap.size, 2, none⟩) (by simp only [World.size_setCell]; omega)).trans (by go_simp)
  have gz : ∀ o, w3.frozen? ⟨w.heap.size + 1, o, none⟩ = false := fun o => (hb3.frozen (p := ⟨w.heap.size + 1, o, none⟩) (by simp only [World.size_setCell]; omega)).trans (by go_simp)
  have gr : ∀ o, w3.frozen? ⟨w.heap.size, o, none⟩ = false := fun o => (hb3.frozen (p := ⟨w.heap.size, o, none⟩) (by simp only [World.size_setCell]; omega)).trans (by go_simp)
  have HB3 : Hid (Below w.heap.size w w3) := ((unhide HB2).setCell (by simp) _).trans (hb3.mono (by simp only [World.size_setCell]; omega))
  have o1 := ownsRow_setCell_below (ownsRow_below (ownsRow_setCell_below (unhide HO1) (a := ⟨w.heap.size + 1, 1, none⟩) (by simp only [World.size_alloc]; omega) (.slice a1 (M.bz s 2) cap1)) hb3) (a := ⟨w.heap.size + 1, 2, none⟩) (by simp only [World.size_alloc]; omega) (.slice a2 (M.bz s 3) cap2)
  have o2 := ownsRow_setCell_below hown2 (a := ⟨w.heap.size + 1, 2, none⟩) (by simp only [World.size_setCell]; omega) (.slice a2 (M.bz s 3) cap2)
  have HO1' := hide (holdsRow_own o1)
  have HO2 := hide (holdsRow_own o2)
  have HW1 := hide o1
  have HW2 := hide o2
  clear hown2 hb3 z0 z1 z2 r0 r1 r2 fz fr o1 o2 HO1 HB2
  go_wp2_with fail
  refine (sound_any s _ _ _ (unhide HH) (unhide HO1') (unhide HO2)).mono ?_
  rintro e w4 ⟨rfl, hb4⟩
  have hsz4 := hb4.size
  simp only [World.size_setCell] at hsz4
  have x0 : w4.cell? ⟨w.heap.size + 1, 0, none⟩ = some (.int .i64 (M.bz s 1)) := (hb4.cell (p := ⟨w.heap.size + 1, 0, none⟩) (by simp only [World.size_setCell]; omega)).trans (by go_simp)
  have x1 : w4.cell? ⟨w.heap.size + 1, 1, none⟩ = some (.slice a1 (M.bz s 2) cap1) := (hb4.cell (p := ⟨w.heap.size + 1, 1, none⟩) (by simp only [World.size_setCell]; omega)).trans (by go_simp)
  have x2 : w4.cell? ⟨w.heap.size + 1, 2, none⟩ = some (.slice a2 (M.bz s 3) cap2) := (hb4.cell (p := ⟨w.heap.size + 1, 2, none⟩) (by simp only [World.size_setCell]; omega)).trans (by go_simp)
  have p0 : w4.cell? ⟨w.heap.size, 0, none⟩ = some (.int .i64 0) := (hb4.cell (p := ⟨w.heap.size, 0, none⟩) (by simp only [World.size_setCell]; omega)).trans (by go_simp)
  have p1 : w4.cell? ⟨w.heap.size, 1, none⟩ = some (.slice none 0 0) := (hb4.cell (p := ⟨w.heap.size, 1, none⟩) (by simp only [World.size_setCell]; omega)).trans (by go_simp)
  have p2 : w4.cell? ⟨w.heap.size, 2, none⟩ = some (.slice none 0 0) := (hb4.cell (p := ⟨w.heap.size, 2, none⟩) (by simp only [World.size_setCell]; omega)).trans (by go_simp)
  have fr4 : ∀ o, w4.frozen? ⟨w.heap.size, o, none⟩ = false := fun o => (hb4.frozen (p := ⟨w.heap.size, o, none⟩) (by simp only [World.size_setCell]; omega)).trans (by go_simp)
  have HB4 : Hid (Below w.heap.size w w4) := ((unhide HB3).setCell (by simp) _).trans (hb4.mono (by simp only [World.size_setCell]; omega))
  have HR1 := hide (fun (x y z : Value) => holdsRow_own (ownsRow_setCell_below (ownsRow_setCell_below (ownsRow_setCell_below (ownsRow_below (unhide HW1) hb4) (a := ⟨w.heap.size, 0, none⟩) (by simp only [World.size_alloc]; omega) x) (a := ⟨w.heap.size, 1, none⟩) (by simp only [World.size_alloc]; omega) y) (a := ⟨w.heap.size, 2, none⟩) (by simp only [World.size_alloc]; omega) z))
  have HR2 := hide (fun (x y z : Value) => holdsRow_own (ownsRow_setCell_below (ownsRow_setCell_below (ownsRow_setCell_below (ownsRow_below (unhide HW2) hb4) (a := ⟨w.heap.size, 0, none⟩) (by simp only [World.size_setCell]; omega) x) (a := ⟨w.heap.size, 1, none⟩) (by simp only [World.size_setCell]; omega) y) (a := ⟨w.heap.size, 2, none⟩) (by simp only [World.size_setCell]; omega) z))
  clear HW1 HW2
  clear hb4 y0 y1 y2 q0 q1 q2 gz gr HO1' HO2 HB3
  cases hok : soundOk s
  · have HOK := hide hok
    clear hok
    go_wp2
    refine bodyPost_ret (v := .tuple #[.agg #[.int .i64 0, .slice none 0 0, .slice none 0 0], .bool false]) (by simp [results, Try.results56, go_sem, p0, p1, p2]) rfl ⟨?_, ?_, ?_⟩
    · intro h; rw [HOK.out] at h; cases h
    · intro _; rfl
    · exact (((unhide HB4).setCell (by simp) _).setCell (by simp) _).setCell (by simp) _
  · have HOK := hide hok
    clear hok
    go_wp2
    refine bodyPost_ret (v := .tuple #[.agg #[.int .i64 (M.bz s 1), .slice a1 (M.bz s 2) cap1, .slice a2 (M.bz s 3) cap2], .bool true]) (by simp [results, Try.results56, go_sem, p0, p1, p2]) rfl ⟨?_, ?_, ?_⟩
    · intro _; refine ⟨_, _, rfl, ?_, ?_⟩
      · exact unhide HR1 _ _ _
      · exact unhide HR2 _ _ _
    · intro h; rw [HOK.out] at h; cases h
    · exact (((unhide HB4).setCell (by simp) _).setCell (by simp) _).setCell (by simp) _
end Go.Proofs.Ytjfmiomopfjecaa
