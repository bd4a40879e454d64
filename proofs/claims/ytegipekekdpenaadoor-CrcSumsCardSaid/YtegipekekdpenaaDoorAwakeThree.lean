/-
  Contract of layer 3's law's 'awake': the document's examples hold.
-/
import Derived.Test.YtegipekekdpenaaDoorCrcAt
import Derived.Lib.SlBytesConst
namespace Go.Proofs.YtegipekekdpenaaDoor
open Go.RowKit
set_option linter.unusedVariables false

theorem nine_row (w : World) : Row (w.alloc (.cells #[.int .u8 49, .int .u8 50, .int .u8 51, .int .u8 52, .int .u8 53, .int .u8 54, .int .u8 55, .int .u8 56, .int .u8 57] 5 (9, 10))) (w.alloc (.cells #[.int .u8 49, .int .u8 50, .int .u8 51, .int .u8 52, .int .u8 53, .int .u8 54, .int .u8 55, .int .u8 56, .int .u8 57] 5 (9, 10))).heap.size (some ⟨w.heap.size, 0, none⟩) (bc [49, 50, 51, 52, 53, 54, 55, 56, 57]) := lit_row_mark w (bc [49, 50, 51, 52, 53, 54, 55, 56, 57]) 5 _ _ (by rfl)
theorem nine_sum (W : World) (hT : Tabs W) (w : World) (hW : Below W.heap.size W w) :
    Calls Tryd.prog 11 #[.slice (some ⟨w.heap.size, 0, none⟩) 9 9] (w.alloc (.cells #[.int .u8 49, .int .u8 50, .int .u8 51, .int .u8 52, .int .u8 53, .int .u8 54, .int .u8 55, .int .u8 56, .int .u8 57] 5 (9, 10))) fun e w' => e = .returned (.int .u32 2215682) ∧ Below W.heap.size W w' :=
  (csum_at W hT _ 9 [49, 50, 51, 52, 53, 54, 55, 56, 57] _ (bmore hW _) (nine_row w) (by decide) (r := 2215682) (by decide +kernel)).mono fun e w' h => ⟨h.1, bstep (bmore hW _) h.2⟩
theorem none_sum (W : World) (hT : Tabs W) (w : World) (hW : Below W.heap.size W w) :
    Calls Tryd.prog 11 #[.slice none 0 0] w fun e w' => e = .returned (.int .u32 11994318) ∧ Below W.heap.size W w' :=
  (csum_at W hT none 0 [] _ hW (fun h => absurd rfl h) (by decide) (r := 11994318) (by decide +kernel)).mono fun e w' h => ⟨h.1, bstep hW h.2⟩
theorem three_put_ (W w : World) (hW : Below W.heap.size W w) :
    Calls Tryd.prog 14 #[.int .u32 2215682] w fun e w' => ∃ A c, e = .returned (.slice A 3 c) ∧ (convert 23 9 (.slice A 3 c)).run Tryd.prog w' = .ok (.string ⟨#[33, 207, 2]⟩) w' ∧ Below W.heap.size W w' :=
  (cput_at 2215682 w (by decide) (l := [33, 207, 2]) (by decide +kernel)).mono fun e w' h => by
    obtain ⟨A, c, rfl, hr, _, _, hb⟩ := h
    exact ⟨A, c, rfl, run_str_any c hr, bstep hW hb⟩
theorem three_row206 (w : World) : Row (w.alloc (.cells #[.int .u8 183, .int .u8 4, .int .u8 206] 5)) (w.alloc (.cells #[.int .u8 183, .int .u8 4, .int .u8 206] 5)).heap.size (some ⟨w.heap.size, 0, none⟩) (bc [183, 4, 206]) := lit_row w (bc [183, 4, 206]) 5 _ (by rfl)
theorem three_fits206 (W : World) (hT : Tabs W) (w : World) (hW : Below W.heap.size W w) :
    Calls Tryd.prog 15 #[.slice (some ⟨w.heap.size, 0, none⟩) 3 3] (w.alloc (.cells #[.int .u8 183, .int .u8 4, .int .u8 206] 5)) fun e w' => e = .returned (.bool true) ∧ Below W.heap.size W w' :=
  (cfits_at W hT _ 3 [183, 4, 206] _ (bmore hW _) (three_row206 w) (by decide) (by decide) (q := true) (by decide +kernel)).mono fun e w' h => ⟨h.1, bstep (bmore hW _) h.2⟩
theorem three_row207 (w : World) : Row (w.alloc (.cells #[.int .u8 183, .int .u8 4, .int .u8 207] 5)) (w.alloc (.cells #[.int .u8 183, .int .u8 4, .int .u8 207] 5)).heap.size (some ⟨w.heap.size, 0, none⟩) (bc [183, 4, 207]) := lit_row w (bc [183, 4, 207]) 5 _ (by rfl)
theorem three_fits207 (W : World) (hT : Tabs W) (w : World) (hW : Below W.heap.size W w) :
    Calls Tryd.prog 15 #[.slice (some ⟨w.heap.size, 0, none⟩) 3 3] (w.alloc (.cells #[.int .u8 183, .int .u8 4, .int .u8 207] 5)) fun e w' => e = .returned (.bool false) ∧ Below W.heap.size W w' :=
  (cfits_at W hT _ 3 [183, 4, 207] _ (bmore hW _) (three_row207 w) (by decide) (by decide) (q := false) (by decide +kernel)).mono fun e w' h => ⟨h.1, bstep (bmore hW _) h.2⟩

set_option maxRecDepth 100000 in
theorem awake3_any (W : World) (hT : Tabs W) : Calls Tryd.prog 8 #[] W fun e w' => e = .returned (.bool true) ∧ Below W.heap.size W w' := by
  have HT := Lib.hid hT
  have HB0 := Lib.hid (bself W)
  clear hT
  have kc := fun (w : World) (C : Array Value) (n c : Nat) => Lib.run_convert_bytes_const (P := Tryd.prog) w 23 5 C n c Tryd.underlying23 Tryd.underlying5
  go_enter Tryd.func8, Tryd.ntmps8
  go_wp2_with (first
    | (go_at_call 11; ((with_reducible refine (nine_sum W HT.out W HB0.out).mono ?_); rintro e w1 ⟨rfl, hb1⟩; have HB1 := Lib.hid hb1; clear hb1))
    | (go_at_call 11; ((with_reducible refine (none_sum W HT.out w1 HB1.out).mono ?_); rintro e w2 ⟨rfl, hb2⟩; have HB2 := Lib.hid hb2; clear hb2))
    | (go_at_call 14; ((with_reducible refine (three_put_ W w2 HB2.out).mono ?_); rintro e w3 ⟨A3, c3, rfl, hcv, hb3⟩; have HB3 := Lib.hid hb3; clear hb3))
    | (go_at_call 15; ((with_reducible refine (three_fits206 W HT.out w3 HB3.out).mono ?_); rintro e w4 ⟨rfl, hb4⟩; have HB4 := Lib.hid hb4; clear hb4))
    | (go_at_call 15; ((with_reducible refine (three_fits207 W HT.out w4 HB4.out).mono ?_); rintro e w5 ⟨rfl, hb5⟩; have HB5 := Lib.hid hb5; clear hb5)))
  go_ret
  exact ⟨rfl, HB5.out⟩
end Go.Proofs.YtegipekekdpenaaDoor
