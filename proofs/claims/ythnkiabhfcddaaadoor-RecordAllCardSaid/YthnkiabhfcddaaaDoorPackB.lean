/-
  Texts of the proofs, put together: Take, Add, Put.
-/
import Derived.Test.YthnkiabhfcddaaaDoorMem
import Derived.Test.YthnkiabhfcddaaaDoorLen
/-
  Contract of octet.Take: the number that bytes begin with, how many bytes it has, or the error.
-/
namespace Go.Proofs.YthnkiabhfcddaaaDoor
open Go.RowKit

theorem bits_or (k x y : Nat) (hk : k ≤ 64) (hx : x * 2 ^ k < 18446744073709551616) (hy : y < 2 ^ k) : bits .or .u64 ((x * 2 ^ k : Nat) : Int) (y : Int) = ((x * 2 ^ k + y : Nat) : Int) := by
  have e : (2 : Nat) ^ 64 = 18446744073709551616 := by decide
  have hp : 2 ^ k ≤ 2 ^ 64 := Nat.pow_le_pow_right (by decide) hk
  rw [u64_or_nat _ _ hx (by omega), nat_join k _ _ (by simp) hy]
theorem or_byte (x y : Nat) (hx : x ≤ 72057594037927935) (hy : y < 256) : bits .or .u64 ((x : Int) * 256) (y : Int) = ((x * 256 + y : Nat) : Int) := by
  have := bits_or 8 x y (by decide) (by omega) (by omega)
  rw [← this]
  simp
theorem val_take_le (r : List UInt8) (k : Nat) (hk : k ≤ 7) : val (r.take k) ≤ 72057594037927935 := by
  have h := val_lt (r.take k)
  have h2 : 256 ^ (r.take k).length ≤ 256 ^ 7 := Nat.pow_le_pow_right (by decide) (by have := List.length_take_le k r; omega)
  have e : (256 : Nat) ^ 7 = 72057594037927936 := by decide
  omega
theorem val_take_succ (r : List UInt8) (k : Nat) (hk : k < r.length) : val (r.take (k + 1)) = val (r.take k) * 256 + r[k].toNat := by
  rw [List.take_succ_eq_append_getElem hk, val_snoc]

theorem ret3_int {a n n' e : Int} (h : n = n') : Ending.returned (.tuple #[.int .u64 a, .int .i64 n, .int .i64 e]) = .returned (.tuple #[.int .u64 a, .int .i64 n', .int .i64 e]) := by rw [h]

/-- What a call of Take ends in. -/
def Took (l : List UInt8) (w : World) (e : Ending) (w' : World) : Prop := e = .returned (.tuple #[.int .u64 (tk l).1, .int .i64 (tk l).2.1, .int .i64 (tk l).2.2]) ∧ w = w'

theorem take_nil (A : Option Addr) (cap : Nat) (w : World) : Calls Tryd.prog 62 #[.slice A 0 cap] w (Took [] w) := by
  go_enter Tryd.func62, Tryd.ntmps62
  go_wp2
  go_ret3
  exact ⟨rfl, rfl⟩

set_option maxRecDepth 100000 in
set_option maxHeartbeats 1000000 in
theorem take_low (c : UInt8) (r : List UInt8) (b off cap : Nat) (w : World) (hc : c.toNat < 248) (hcell : w.cell? ⟨b, off, none⟩ = some (.int .u8 (c.toNat : Int))) :
    Calls Tryd.prog 62 #[.slice (some ⟨b, off, none⟩) (c :: r).length cap] w (Took (c :: r) w) := by
  have e : tk (c :: r) = (c.toNat, 1, 0) := by simp [tk, hc]
  have HE := Lib.hid e
  clear e
  have hl : 0 < (c :: r).length := by simp
  generalize hn : (c :: r).length = n at hl
  clear hn
  go_enter Tryd.func62, Tryd.ntmps62
  go_wp2
  go_ret3
  exact ⟨by rw [HE.out]; rfl, rfl⟩

set_option maxRecDepth 100000 in
set_option maxHeartbeats 1000000 in
theorem take_short (c : UInt8) (r : List UInt8) (b off cap : Nat) (w : World) (hc : 248 ≤ c.toNat) (hr : r.length < c.toNat - 247) (hcell : w.cell? ⟨b, off, none⟩ = some (.int .u8 (c.toNat : Int))) :
    Calls Tryd.prog 62 #[.slice (some ⟨b, off, none⟩) (c :: r).length cap] w (Took (c :: r) w) := by
  have e : tk (c :: r) = (0, 0, 10) := tk_short c r hc hr
  have HE := Lib.hid e
  clear e
  have hl : 0 < (c :: r).length ∧ (c :: r).length < c.toNat - 247 + 1 := by simp; omega
  have hc2 := c.toNat_lt
  generalize hn : (c :: r).length = n at hl
  generalize hm : c.toNat = m at hcell hc hl hc2
  clear hn hm hr
  obtain ⟨hl1, hl2⟩ := hl
  go_enter Tryd.func62, Tryd.ntmps62
  go_wp2
  go_ret3
  exact ⟨by rw [HE.out]; rfl, rfl⟩

set_option maxRecDepth 100000 in
set_option maxHeartbeats 1000000 in
theorem take_long (c : UInt8) (r : List UInt8) (b off cap : Nat) (w : World) (hc : 248 ≤ c.toNat) (hr : c.toNat - 247 ≤ r.length) (hcap : r.length + 1 ≤ cap) (hm : r.length + 1 ≤ 1152921504606846976)
    (hcell : w.cell? ⟨b, off, none⟩ = some (.int .u8 (c.toNat : Int))) (hcells : ∀ j (h : j < r.length), w.cell? ⟨b, off + 1 + j, none⟩ = some (.int .u8 (r[j].toNat : Int))) :
    Calls Tryd.prog 62 #[.slice (some ⟨b, off, none⟩) (r.length + 1) cap] w (Took (c :: r) w) := by
  have HT : Hid (tk (c :: r) = if val (r.take (c.toNat - 247)) < 248 ∨ nb (val (r.take (c.toNat - 247))) < c.toNat - 247 then (0, 0, 11) else (val (r.take (c.toNat - 247)), c.toNat - 247 + 1, 0)) := tk_long c r hc hr
  have hc2 := c.toNat_lt
  obtain ⟨m, hm0⟩ : ∃ m, m + 247 = c.toNat := ⟨c.toNat - 247, by omega⟩
  have e1 : c.toNat - 247 = m := by omega
  rw [e1] at HT hr
  rw [← hm0] at hcell hc hc2
  have hval : val (r.take m) ≤ 18446744073709551615 := by
    have h := val_lt (r.take m)
    have h2 : 256 ^ (r.take m).length ≤ 256 ^ 8 := Nat.pow_le_pow_right (by decide) (by have := List.length_take_le m r; omega)
    have e : (256 : Nat) ^ 8 = 18446744073709551616 := by decide
    omega
  have HV := Lib.hid hval
  have HC := Lib.hid hcells
  have HM := Lib.hid hm
  clear hcells hm hm0 e1 hval
  go_enter Tryd.func62, Tryd.ntmps62
  go_wp2
  go_loop [6, 34] (fun u i => ∃ k : Nat, k ≤ m ∧ i = .int .i64 k ∧ u = .int .u64 (val (r.take k) : Nat)) (fun _ i => m - (intOf i).toNat)
  case atStart => exact ⟨0, Nat.zero_le _, rfl, by simp [val]⟩
  case round =>
    obtain ⟨k, hk, rfl, rfl⟩ := hrel
    by_cases hlt : k < m
    · have hx := val_take_le r k (by omega)
      have hcell2 := HC.out k (by omega)
      have ho := or_byte (val (r.take k)) r[k].toNat hx (r[k].toNat_lt)
      have hy := r[k].toNat_lt
      have hs := val_take_succ r k (by omega)
      have HS := Lib.hid hs
      clear hs
      go_wp2
      go_round
      case rel => exact ⟨k + 1, by omega, by go_num, by rw [HS.out]; rfl⟩
      case measure => simp [intOf]; omega
    · have hk' : k = m := by omega
      subst hk'
      have hx := HV.out
      generalize hX : val (r.take k) = x at hx HT
      clear hX HV
      by_cases h1 : x < 248
      · have HT2 := HT.out
        rw [if_pos (Or.inl h1)] at HT2
        have HT3 := Lib.hid HT2
        clear HT HT2
        go_wp2
        go_ret3
        exact ⟨by rw [HT3.out]; rfl, rfl⟩
      · by_cases h2 : nb x < k
        · have HT2 := HT.out
          rw [if_pos (Or.inr h2)] at HT2
          have HT3 := Lib.hid HT2
          clear HT HT2
          go_wp2_with (go_at_call 75; refine (width_any _ _ (by omega)).mono ?_; rintro e w' ⟨rfl, rfl⟩)
          go_ret3
          exact ⟨by rw [HT3.out]; rfl, rfl⟩
        · have HT2 := HT.out
          rw [if_neg (by omega)] at HT2
          have HT3 := Lib.hid HT2
          clear HT HT2
          go_wp2_with (go_at_call 75; refine (width_any _ _ (by omega)).mono ?_; rintro e w' ⟨rfl, rfl⟩)
          go_ret3
          exact ⟨by rw [HT3.out]; exact ret3_int (by dsimp only; omega), rfl⟩

/-- octet.Take, for any bytes. -/
theorem take_any (l : List UInt8) (A : Option Addr) (cap B : Nat) (w : World) (hr : Row w B A (bc l)) (hcap : l.length ≤ cap) (hm : l.length ≤ 1152921504606846976) :
    Calls Tryd.prog 62 #[.slice A l.length cap] w (Took l w) := by
  cases l with
  | nil => exact take_nil A cap w
  | cons c r =>
    obtain ⟨b, off, rfl, _, hc⟩ := hr (by simp [bc])
    have h0 := hc 0 _ rfl
    have hcs : ∀ j (h : j < r.length), w.cell? ⟨b, off + 1 + j, none⟩ = some (.int .u8 (r[j].toNat : Int)) := fun j h => by
      have := hc (j + 1) _ (bc_get (c :: r) (j + 1) (by simp; omega))
      rw [show off + 1 + j = off + (j + 1) by omega]
      exact this
    rcases Nat.lt_or_ge c.toNat 248 with h | h
    · exact take_low c r b off cap w h h0
    · rcases Nat.lt_or_ge r.length (c.toNat - 247) with h2 | h2
      · exact take_short c r b off cap w h h2 h0
      · exact take_long c r b off cap w h h2 (by simpa using hcap) (by simpa using hm) h0 hcs
end Go.Proofs.YthnkiabhfcddaaaDoor
/-
  Contract of octet.add: bytes, and a number's bytes behind them.
-/
namespace Go.Proofs.YthnkiabhfcddaaaDoor
open Go.RowKit

set_option maxRecDepth 100000 in
set_option maxHeartbeats 1000000 in
theorem add_small (base u : Nat) (v : Value) (l : List UInt8) (w : World) (hu : u < 248) (hown : Owns w base v l) (hf : Fits (l.length + 1)) (hbase : base ≤ w.heap.size) :
    Calls Tryd.prog 71 #[v, .int .u64 u] w (Gets base (l ++ [UInt8.ofNat u]) w) := by
  have HO := Lib.hid hown
  clear hown
  go_enter Tryd.func71, Tryd.ntmps71
  go_wp2_with (at_builtin; (refine wp_push rfl (.tmp 9) (.tmp 12) rfl base v l (UInt8.ofNat u) u 1 w.heap.size rfl (HO.out.alloc _) rfl (by simp [go_sem]) (u8_of u (by omega)) hf (by simp; omega) ?_); intro v1 w1 ho1 hb1)
  go_ret
  exact ⟨v1, rfl, ho1, ((Below.refl _ _).alloc hbase _).trans hb1⟩

theorem byte_at (u m : Nat) : ((u : Int) / 2 ^ (8 * m) % 256) = ((UInt8.ofNat (u / 256 ^ m % 256)).toNat : Int) := by
  rw [← u8_of _ (by omega)]
  have e : (256 : Nat) ^ m = 2 ^ (8 * m) := by rw [Nat.pow_mul]
  rw [e]
  simp
theorem be_take (k u i : Nat) (h : i < k) : (be k u).take (i + 1) = (be k u).take i ++ [UInt8.ofNat (u / 256 ^ (k - 1 - i) % 256)] := by
  induction k generalizing i with
  | zero => omega
  | succ k ih =>
    cases i with
    | zero => simp [be]
    | succ i =>
      have e : k + 1 - 1 - (i + 1) = k - 1 - i := by omega
      rw [e]
      simp only [be, List.take_succ_cons, ih i (by omega), List.cons_append]

set_option maxRecDepth 100000 in
set_option maxHeartbeats 1000000 in
theorem add_big (base u : Nat) (v : Value) (l : List UInt8) (w : World) (hu : 248 ≤ u) (hu2 : u ≤ 18446744073709551615) (hown : Owns w base v l) (hf : Fits (l.length + 9)) (hbase : base ≤ w.heap.size) :
    Calls Tryd.prog 71 #[v, .int .u64 u] w (Gets base (l ++ (UInt8.ofNat (247 + nb u) :: be (nb u) u)) w) := by
  have h8 := nb_lt8 u (by omega)
  have h1 := nb_pos u (by omega)
  have HO := Lib.hid hown
  clear hown
  go_enter Tryd.func71, Tryd.ntmps71
  go_wp2_with (first
    | (go_at_call 75; refine (width_any _ _ (by omega)).mono ?_; rintro e w' ⟨rfl, rfl⟩)
    | (at_builtin; (refine wp_push rfl (.tmp 16) (.tmp 20) rfl base v l (UInt8.ofNat (247 + nb u)) ((247 + nb u : Nat) : Int) 1 w.heap.size rfl (HO.out.alloc _) rfl (by simp [go_sem]) (u8_of _ (by omega)) (hf.le (by omega)) (by simp; omega) ?_); intro v1 w1 ho1 hb1))
  have HO1 := Lib.hid ho1
  have HB1 := Lib.hid (((Below.refl _ _).alloc hbase _).trans hb1)
  clear ho1 hb1
  go_loopw [0, 23] (fun b i wr => ∃ k : Nat, k ≤ nb u ∧ i = .int .i64 k ∧ Hid (Owns wr base b (l ++ [UInt8.ofNat (247 + nb u)] ++ (be (nb u) u).take k)) ∧ Hid (Below base w wr)) (fun _ i _ => nb u - (intOf i).toNat)
  case atStart => exact ⟨0, Nat.zero_le _, rfl, by simpa using HO1, HB1⟩
  case round =>
    obtain ⟨k, hk, rfl, HO2, HB2⟩ := hrel
    by_cases hlt : k < nb u
    · go_wp2_with (at_builtin; refine wp_push rfl (.tmp 26) (.tmp 35) rfl base u0 (l ++ [UInt8.ofNat (247 + nb u)] ++ (be (nb u) u).take k) (UInt8.ofNat (u / 256 ^ (nb u - 1 - k) % 256)) ((u : Int) / 2 ^ (8 * (nb u - 1 - k)) % 256) 1 wr.heap.size rfl (HO2.out.alloc _) rfl (by simp [go_sem]) (byte_at _ _) (hf.le (by simp [be_length]; omega)) (by have := HB2.out.size; simp; omega) ?_; intro v2 w2 ho2 hb2)
      have HO3 := Lib.hid ho2
      have HB3 := Lib.hid (HB2.out.trans ((((Below.refl _ _).alloc (by have := HB2.out.size; omega) _).trans hb2)))
      clear ho2 hb2
      go_roundw
      case rel =>
        refine ⟨k + 1, by omega, by go_num, ?_, HB3⟩
        rw [be_take _ _ _ hlt, ← List.append_assoc]
        exact HO3
      case measure => simp [intOf]; omega
    · go_wp2
      go_ret
      have hk' : k = nb u := by omega
      subst hk'
      have h := HO2.out
      rw [List.take_of_length_le (by rw [be_length]; omega), List.append_assoc] at h
      exact ⟨_, rfl, h, HB2.out⟩

/-- octet.add. -/
theorem add_any (base u : Nat) (v : Value) (l : List UInt8) (w : World) (hu : u ≤ 18446744073709551615) (hown : Owns w base v l) (hf : Fits (l.length + 9)) (hbase : base ≤ w.heap.size) :
    Calls Tryd.prog 71 #[v, .int .u64 u] w (Gets base (l ++ enc u) w) := by
  unfold enc
  by_cases h : u < 248
  · rw [if_pos h]
    exact add_small base u v l w h hown (hf.le (by omega)) hbase
  · rw [if_neg h]
    exact add_big base u v l w (by omega) hu hown hf hbase
end Go.Proofs.YthnkiabhfcddaaaDoor
/-
  Contracts of octet.Put (numbers as bytes) and octet.Texts (texts as bytes).
-/
namespace Go.Proofs.YthnkiabhfcddaaaDoor
open Go.RowKit

/-- Numbers' bytes, one behind the other. -/
def encs (zs : List Nat) : List UInt8 := zs.flatMap enc
/-- Texts' bytes. -/
def encTs (ss : List ByteArray) : List UInt8 := ss.flatMap fun s => enc s.size ++ s.data.toList

theorem enc_len (u : Nat) (h : u ≤ 18446744073709551615) : 1 ≤ (enc u).length ∧ (enc u).length ≤ 9 := by
  have h8 := nb_lt8 u (by omega)
  unfold enc
  split
  · simp
  · simp [be_length]; omega
theorem encs_len (zs : List Nat) (h : ∀ z ∈ zs, z ≤ 18446744073709551615) : (encs zs).length ≤ 9 * zs.length := by
  induction zs with
  | nil => simp [encs]
  | cons z zs ih =>
    have h1 := enc_len z (h z (by simp))
    have h2 := ih fun y hy => h y (by simp [hy])
    simp only [encs, List.flatMap_cons, List.length_append, List.length_cons] at *
    omega
theorem encs_take (zs : List Nat) (k : Nat) (h : k < zs.length) : encs (zs.take (k + 1)) = encs (zs.take k) ++ enc zs[k] := by
  unfold encs
  rw [List.take_succ_eq_append_getElem h, List.flatMap_append, List.flatMap_cons, List.flatMap_nil, List.append_nil]

set_option maxRecDepth 100000 in
set_option maxHeartbeats 1000000 in
theorem put_any (zs : List Nat) (A : Option Addr) (c : Nat) (w : World) (hz : ∀ z ∈ zs, z ≤ 18446744073709551615) (hr : Row w w.heap.size A (zs.map fun z : Nat => Value.int .u64 (z : Int))) (hn : zs.length ≤ 1000000) :
    Calls Tryd.prog 51 #[.slice A zs.length c] w (Gets w.heap.size (encs zs) w) := by
  have HR := Lib.hid hr
  have HZ := Lib.hid hz
  have HL := Lib.hid (encs_len zs hz)
  clear hr hz
  go_enter Tryd.func51, Tryd.ntmps51
  go_wp2
  go_loopw [3, 8] (fun b i wr => ∃ k : Nat, k ≤ zs.length ∧ i = .int .i64 k ∧ Hid (Owns wr w.heap.size b (encs (zs.take k))) ∧ Hid (Below w.heap.size w wr)) (fun _ i _ => zs.length - (intOf i).toNat)
  case atStart => exact ⟨0, Nat.zero_le _, rfl, Owns.none_ _ _, Below.refl _ _⟩
  case round =>
    obtain ⟨k, hk, rfl, HO2, HB2⟩ := hrel
    by_cases hlt : k < zs.length
    · obtain ⟨b, off, rfl, hb, hc⟩ := (HR.out.below_ HB2.out).at_ k (by simpa using hlt)
      simp only [List.getElem_map] at hc
      have hzk := HZ.out zs[k] (List.getElem_mem hlt)
      have hlen := encs_len (zs.take k) (fun z hz => HZ.out z (List.mem_of_mem_take hz))
      have hs := HB2.out.size
      go_wp2_with (go_at_call 71; refine (add_any w.heap.size zs[k] _ _ _ hzk HO2.out (Fits.of (by simp at hlen; omega)) hs).mono ?_; rintro e w' ⟨v2, rfl, ho2, hb2⟩)
      have HO3 := Lib.hid ho2
      have HB3 := Lib.hid (HB2.out.trans hb2)
      clear ho2 hb2
      go_roundw
      case rel =>
        refine ⟨k + 1, by omega, by go_num, ?_, HB3⟩
        rw [encs_take zs k hlt]
        exact HO3
      case measure => simp [intOf]; omega
    · go_wp2
      go_ret
      have h := HO2.out
      rw [List.take_of_length_le (by omega)] at h
      exact ⟨_, rfl, h, HB2.out⟩

theorem encTs_len (ss : List ByteArray) (h : ∀ s ∈ ss, s.size ≤ 1000000) : (encTs ss).length ≤ 1000009 * ss.length := by
  induction ss with
  | nil => simp [encTs]
  | cons z zs ih =>
    have h0 := h z (by simp)
    have h1 := enc_len z.size (by omega)
    have h2 := ih fun y hy => h y (by simp [hy])
    have h3 : z.data.toList.length = z.size := by rw [Array.length_toList]; rfl
    simp only [encTs, List.flatMap_cons, List.length_append, List.length_cons] at *
    omega
theorem encTs_take (ss : List ByteArray) (k : Nat) (h : k < ss.length) : encTs (ss.take (k + 1)) = encTs (ss.take k) ++ enc ss[k].size ++ ss[k].data.toList := by
  unfold encTs
  rw [List.take_succ_eq_append_getElem h, List.flatMap_append, List.flatMap_cons, List.flatMap_nil, List.append_nil, List.append_assoc]

set_option maxRecDepth 100000 in
set_option maxHeartbeats 1000000 in
theorem texts_any (ss : List ByteArray) (A : Option Addr) (c : Nat) (w : World) (hz : ∀ s ∈ ss, s.size ≤ 1000000) (hr : Row w w.heap.size A (ss.map Value.string)) (hn : ss.length ≤ 1000000) :
    Calls Tryd.prog 50 #[.slice A ss.length c] w (Gets w.heap.size (encTs ss) w) := by
  have HR := Lib.hid hr
  have HZ := Lib.hid hz
  clear hr hz
  go_enter Tryd.func50, Tryd.ntmps50
  go_wp2
  go_loopw [3, 8] (fun b i wr => ∃ k : Nat, k ≤ ss.length ∧ i = .int .i64 k ∧ Hid (Owns wr w.heap.size b (encTs (ss.take k))) ∧ Hid (Below w.heap.size w wr)) (fun _ i _ => ss.length - (intOf i).toNat)
  case atStart => exact ⟨0, Nat.zero_le _, rfl, Owns.none_ _ _, Below.refl _ _⟩
  case round =>
    obtain ⟨k, hk, rfl, HO2, HB2⟩ := hrel
    by_cases hlt : k < ss.length
    · obtain ⟨b, off, rfl, hb, hc⟩ := (HR.out.below_ HB2.out).at_ k (by simpa using hlt)
      simp only [List.getElem_map] at hc
      have hzk := HZ.out ss[k] (List.getElem_mem hlt)
      have hlen := encTs_len (ss.take k) (fun z hz => HZ.out z (List.mem_of_mem_take hz))
      have hlk : (ss.take k).length ≤ k := List.length_take_le _ _
      have hen := enc_len ss[k].size (by omega)
      have hs := HB2.out.size
      go_wp2_with (first
        | (go_at_call 71; refine (add_any w.heap.size ss[k].size _ _ _ (by omega) HO2.out (Fits.of (by omega)) hs).mono ?_; rintro e w' ⟨v2, rfl, ho2, hb2⟩; have HO3 := Lib.hid ho2; have HB3 := Lib.hid (HB2.out.trans hb2); clear ho2 hb2)
        | (at_builtin; refine wp_app_str rfl (.tmp 16) (.tmp 17) rfl w.heap.size v2 _ ss[k] rfl HO3.out rfl (Fits.of (by simp only [List.length_append]; omega)) HB3.out.size ?_; intro v3 w3 ho3 hb3))
      have HO4 := Lib.hid ho3
      have HB4 := Lib.hid (HB3.out.trans hb3)
      clear ho3 hb3
      go_roundw
      case rel =>
        refine ⟨k + 1, by omega, by go_num, ?_, HB4⟩
        rw [encTs_take ss k hlt]
        exact HO4
      case measure => simp [intOf]; omega
    · go_wp2
      go_ret
      have h := HO2.out
      rw [List.take_of_length_le (by omega)] at h
      exact ⟨_, rfl, h, HB2.out⟩
end Go.Proofs.YthnkiabhfcddaaaDoor
