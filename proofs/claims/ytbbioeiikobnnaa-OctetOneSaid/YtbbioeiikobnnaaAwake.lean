/-
  Contract of the law's 'awake': the document's examples hold.
-/
import Derived.Test.YtbbioeiikobnnaaOpen
import Derived.Test.YtbbioeiikobnnaaPut
namespace Go.Proofs.Ytbbioeiikobnnaa
open Go.RowKit

theorem lit_row (w : World) (xs : List Value) (t : TypeId) (cs : Array Value) (h : cs = xs.toArray) : Row (w.alloc (.cells cs t)) (w.alloc (.cells cs t)).heap.size (some ⟨w.heap.size, 0, none⟩) xs := fun _ => by
  subst h
  refine ⟨w.heap.size, 0, rfl, by simp, fun i u hu => ?_⟩
  rw [Nat.zero_add, heap_cell (heap_alloc_new w _)]
  simpa using hu
theorem lit_lies (w : World) (l : List UInt8) (cs : Array Value) (h : cs = (bc l).toArray) : Lies (w.alloc (.cells cs 5)) (w.alloc (.cells cs 5)).heap.size (.slice (some ⟨w.heap.size, 0, none⟩) l.length l.length) l := by
  refine .inr ⟨w.heap.size, 0, l.length, rfl, Nat.le_refl _, by simp, fun i hi => ?_⟩
  subst h
  rw [Nat.zero_add, heap_cell (heap_alloc_new w _)]
  simpa using bc_get l i hi

theorem put_at (zs : List Nat) (l : List UInt8) (hd : encs zs = l) (A : Option Addr) (c : Nat) (w : World) (hz : ∀ z ∈ zs, z ≤ 18446744073709551615) (hr : Row w w.heap.size A (zs.map fun z : Nat => Value.int .u64 (z : Int))) (hn : zs.length ≤ 1000000) :
    Calls Try.prog 14 #[.slice A zs.length c] w (Gets w.heap.size l w) := by
  subst hd; exact put_any zs A c w hz hr hn

set_option maxRecDepth 100000 in
set_option maxHeartbeats 400000 in
theorem awake_any (w : World) : Calls Try.prog 9 #[] w fun e w' => e = .returned (.bool true) ∧ Below w.heap.size w w' := by
  go_enter Try.func9, Try.ntmps9
  go_wp2_with fail
  refine (take_at [249, 1, 44, 9] (some ⟨w.heap.size, 0, none⟩) 4 _ _ (lit_row w (bc [249, 1, 44, 9]) 5 _ rfl) (by decide) (by decide) (u := 300) (n := 3) (er := 0) (by decide +kernel)).mono ?_
  rintro e w1 ⟨rfl, hw1⟩
  have HB1 : Hid (Below w.heap.size w w1) := Lib.hid (by rw [← hw1]; exact (Below.refl _ _).alloc (Nat.le_refl _) _)
  clear hw1
  go_wp2_with fail
  refine (take_at [249, 0, 44] (some ⟨w1.heap.size, 0, none⟩) 3 _ _ (lit_row w1 (bc [249, 0, 44]) 5 _ rfl) (by decide) (by decide) (u := 0) (n := 0) (er := 11) (by decide +kernel)).mono ?_
  rintro e w2 ⟨rfl, hw2⟩
  have HB2 : Hid (Below w.heap.size w w2) := Lib.hid (by rw [← hw2]; exact HB1.out.alloc HB1.out.size _)
  clear hw2
  go_wp2_with fail
  refine (open_any _ [2, 97, 98, 7] _ (lit_lies w2 [2, 97, 98, 7] _ rfl) (Fits.of (by decide))).mono ?_
  rintro e w3 ⟨g, rfl, hg, hr3, hb3⟩
  have HR3 := Lib.hid hr3
  have HB3 : Hid (Below w.heap.size w w3) := Lib.hid ((HB2.out.alloc HB2.out.size _).trans (hb3.mono (by have := HB2.out.size; simp; omega)))
  have HG3 : Hid (w.heap.size ≤ g) := Lib.hid (by have := HB2.out.size; simp at hg; omega)
  clear hr3 hb3 hg
  go_wp2_with fail
  refine (text_any g _ 0 5 _ HR3.out (by decide) (by decide)).mono ?_
  rw [show rdText [2, 97, 98, 7] 0 5 = ([97, 98], [7], 0) by decide +kernel]
  rintro e w4 ⟨rfl, hr4, hg4⟩
  have HR4 := Lib.hid hr4
  have HB4 : Hid (Below w.heap.size w w4) := Lib.hid (HB3.out.grown hg4 HB3.out.size (by intro k hk; cases hk; exact HG3.out))
  clear hr4 hg4
  go_wp2_with fail
  refine (put_at [5, 300] [5, 249, 1, 44] (by decide +kernel) (some ⟨w4.heap.size, 0, none⟩) 2 _ (by decide) (lit_row w4 [.int .u64 5, .int .u64 300] 27 _ rfl) (by decide)).mono ?_
  rintro e w5 ⟨v5, rfl, ho5, hb5⟩
  have HB5 : Hid (Below w.heap.size w w5) := Lib.hid ((HB4.out.alloc HB4.out.size _).trans (hb5.mono (by have := HB4.out.size; simp; omega)))
  have HR5 : Hid (Rdr w5 g [7] 0) := Lib.hid ((HR4.out.keep HR4.out.lt ((Below.refl _ _).alloc (Nat.le_refl _) _)).keep (by have := HR4.out.lt; simp; omega) hb5)
  rcases ho5.lies with ⟨_, hx⟩ | ⟨b, off, c, rfl, hlc, hb, hcs⟩
  · cases hx
  have hcv : (convert 24 9 (.slice (some ⟨b, off, none⟩) 4 c)).run Try.prog w5 = .ok (.string ⟨#[5, 249, 1, 44]⟩) w5 := run_str 4 (by decide) hcs
  have hs2 : (mkB [97, 98]) = ⟨#[97, 98]⟩ := rfl
  clear ho5 hb5 hcs hb HR4 HB4 HR3 HB3 HB2 HB1
  go_wp2_with (first
    | (go_at_call 28; refine (left_any g _ _ _ HR5.out).mono ?_; rintro e w' ⟨rfl, rfl⟩)
    | (go_at_call 30; refine (end_any g _ _ _ HR5.out).mono ?_; rw [show rdEnd [7] 0 = 12 by decide]; rintro e w' ⟨rfl, rfl⟩)
    | (go_at_call 16; refine (sign_any _ _ (by omega) (by omega)).mono ?_; rw [show sgn (-3) = 5 by decide]; rintro e w' ⟨rfl, rfl⟩)
    | (go_at_call 17; refine (plain_any _ _ (by omega) (by omega)).mono ?_; rw [show pln 5 = -3 by decide]; rintro e w' ⟨rfl, rfl⟩))
  go_ret
  exact ⟨rfl, HB5.out⟩
end Go.Proofs.Ytbbioeiikobnnaa
