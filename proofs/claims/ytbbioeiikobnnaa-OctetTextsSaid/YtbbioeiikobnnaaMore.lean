/-
  Plain mathematics (no program): what is put is taken; bytes stand in order as their numbers. And an append of any slice of bytes.
-/
import Derived.Test.YtbbioeiikobnnaaOpen
import Derived.Test.YtbbioeiikobnnaaPut
import Derived.Laws.AppendOwnNone
import Derived.OpenShut
namespace Go.Proofs.Ytbbioeiikobnnaa
open Go.RowKit

theorem u8_nat (n : Nat) (h : n < 256) : (UInt8.ofNat n).toNat = n := by simp; omega

theorem tk_enc (u : Nat) (rest : List UInt8) (h : u ≤ 18446744073709551615) : tk (enc u ++ rest) = (u, (enc u).length, 0) := by
  unfold enc
  by_cases h0 : u < 248
  · rw [if_pos h0]
    have e := u8_nat u (by omega)
    simp only [List.cons_append, List.nil_append, tk]
    rw [e, if_pos h0]
    rfl
  · rw [if_neg h0]
    have h8 := nb_lt8 u (by omega)
    have h1 := nb_pos u (by omega)
    have e := u8_nat (247 + nb u) (by omega)
    rw [List.cons_append, tk_long _ _ (by omega) (by rw [e, List.length_append, be_length]; omega)]
    have e2 : (UInt8.ofNat (247 + nb u)).toNat - 247 = nb u := by omega
    rw [e2]
    have e3 : (be (nb u) u ++ rest).take (nb u) = be (nb u) u := by
      rw [List.take_append_of_le_length (by rw [be_length]; omega), List.take_of_length_le (by rw [be_length]; omega)]
    rw [e3, val_be]
    have e4 : u % 256 ^ nb u = u := Nat.mod_eq_of_lt ((nb_le_iff u (nb u)).1 (Nat.le_refl _))
    rw [e4, if_neg (by omega), List.length_cons, be_length]

theorem rdNum_enc (u : Nat) (rest : List UInt8) (h : u ≤ 18446744073709551615) : rdNum (enc u ++ rest) 0 = (u, rest, 0) := by
  simp only [rdNum, tk_enc u rest h, if_pos]
  rw [List.drop_left']
  rfl
theorem rdText_enc (s more : List UInt8) (most : Int) (h : s.length ≤ 1000000) (hm : (s.length : Int) ≤ max most 0) : rdText (enc s.length ++ s ++ more) 0 most = (s, more, 0) := by
  have e := rdNum_enc s.length (s ++ more) (by omega)
  rw [List.append_assoc]
  unfold rdText
  rw [e]
  dsimp only
  rw [if_pos rfl, if_pos hm, if_pos (by simp), List.take_left', List.drop_left'] <;> rfl
theorem rdText_enc_long (s more : List UInt8) (most : Int) (h : s.length ≤ 1000000) (hm : ¬ (s.length : Int) ≤ max most 0) : rdText (enc s.length ++ s ++ more) 0 most = ([], [], 13) := by
  have e := rdNum_enc s.length (s ++ more) (by omega)
  rw [List.append_assoc]
  unfold rdText
  rw [e]
  dsimp only
  rw [if_pos rfl, if_neg hm]

/-- Integers that fit a byte, as bytes. -/
theorem ints_bc {zs : List Int} (h : ∀ n ∈ zs, (Lit.int .u8 n).wf = true) : ∃ l : List UInt8, zs.map (Value.int .u8) = bc l ∧ zs.length = l.length := by
  refine ⟨zs.map fun n => UInt8.ofNat n.toNat, ?_, by simp⟩
  unfold bc
  rw [List.map_map]
  apply List.map_congr_left
  intro n hn
  have b := bounds_u8 (h n hn)
  have e := u8_nat n.toNat (by omega)
  show Value.int .u8 n = Value.int .u8 _
  dsimp only
  rw [e, Int.toNat_of_nonneg b.1]

/-- An append of any slice of bytes: nil, empty or not. -/
theorem wp_app_any {ops : Array Oper} {rest : List Oper} {o : Oper} {a : Act} {Q : Exit → Act → World → Prop} {w : World} (hgd : o.guard = none) (s x : Operand)
    (ho : o.op = .call { callee := .builtin .append, args := #[s, x], argTypes := #[24, 24] })
    (base B : Nat) (v : Value) (l m : List UInt8) (A : Option Addr) (c : Nat) (hs : a.eval s = v) (hown : Owns w base v l) (hx : a.eval x = .slice A m.length c) (hA : A = none → c = 0)
    (hr : Row w B A (bc m)) (hf : Fits (l.length + m.length)) (hbase : base ≤ w.heap.size)
    (h : ∀ v' w', Owns w' base v' (l ++ m) → Below base w w' → wpList Try.prog ops Q rest (a.put o.dst v') w') : wpList Try.prog ops Q (o :: rest) a w := by
  cases A with
  | none =>
    obtain rfl := hA rfl
    have hm : m = [] := by
      cases m with
      | nil => rfl
      | cons y m => obtain ⟨_, _, e, _⟩ := hr (by simp [bc]); cases e
    subst hm
    obtain ⟨i0, hi0, _⟩ := info_parts info_u8
    exact wpList_append_own_none hgd s x _ ho base _ i0 1 Try.underlying24 hi0 v l.length (bc l) hs hown hx (h v w (by simpa using hown) (Below.refl _ _))
  | some ad =>
    refine wp_app hgd s x ho base v l m c ad hs hown hx (fun j hj => ?_) hf hbase h
    obtain ⟨b, off, e, _, hc⟩ := hr (by intro e; have := congrArg List.length e; rw [bc_length, List.length_nil] at this; omega)
    injection e with e
    subst e
    rw [Addr.add_lit]
    exact hc j _ (bc_get m j hj)

theorem Owns.over {w w' : World} {base : Nat} {v : Value} {l : List UInt8} (h : Owns w base v l) (hb : Below w.heap.size w w') : Owns w' base v l := by
  refine ⟨h.1, ?_⟩
  rcases h.2 with h2 | ⟨g, cap, cur, rfl, hg, hh, r⟩
  · exact .inl h2
  · exact .inr ⟨g, cap, cur, rfl, hg, (hb.block g (heap_lt hh)).trans hh, r⟩

/-- A slice of bytes, nil, empty or not, as a text. -/
theorem run_str_any {w : World} {B : Nat} {A : Option Addr} {l : List UInt8} (c : Nat) (hr : Row w B A (bc l)) :
    (convert 24 9 (.slice A l.length c)).run Try.prog w = .ok (.string (mkB l)) w := by
  cases l with
  | nil =>
    cases A with
    | none => exact run_str_nil w 0 c
    | some ad =>
      have hl : (loadCells ad 0).run Try.prog w = .ok (([] : List Int).map (Value.int .u8)).toArray w := by
        have := run_loadCells_list (P := Try.prog) w ad [] (fun j v hj => by simp at hj)
        simpa using this
      rw [List.length_nil, run_convert_bytes_string w 24 9 5 _ 0 c Try.underlying24 Try.underlying5 Try.underlying9, run_bytesToString w ad 0 c [] hl]
      rfl
  | cons x l =>
    obtain ⟨b, off, rfl, _, hc⟩ := hr (by simp [bc])
    have h := run_str (cap := c) (x :: l).length (Nat.le_refl _) (fun i hi => hc i _ (bc_get (x :: l) i hi))
    rw [List.take_length] at h
    exact h
theorem lies_row {w : World} {B : Nat} {v : Value} {l : List UInt8} (h : Lies w B v l) : ∃ A c, v = .slice A l.length c ∧ Row w B A (bc l) ∧ l.length ≤ c ∧ (A = none → c = 0) := by
  rcases h with ⟨rfl, rfl⟩ | ⟨b, off, c, rfl, hl, hB, hc⟩
  · exact ⟨none, 0, rfl, fun hne => absurd rfl hne, Nat.le_refl _, fun _ => rfl⟩
  · exact ⟨_, c, rfl, Lies.row hB hc, hl, fun h => by cases h⟩
theorem owns_str {w : World} {base : Nat} {v : Value} {l : List UInt8} (h : Owns w base v l) : (convert 24 9 v).run Try.prog w = .ok (.string (mkB l)) w := by
  obtain ⟨A, c, rfl, hr, _⟩ := lies_row h.lies
  exact run_str_any c hr
theorem ints_nat {zs : List Int} (h : ∀ n ∈ zs, (Lit.int .u64 n).wf = true) : ∃ ns : List Nat, zs.map (Value.int .u64) = ns.map (fun z : Nat => Value.int .u64 (z : Int)) ∧ zs.length = ns.length ∧ ∀ z ∈ ns, z ≤ 18446744073709551615 := by
  refine ⟨zs.map Int.toNat, ?_, by simp, ?_⟩
  · rw [List.map_map]
    apply List.map_congr_left
    intro n hn
    have b := bounds_u64 (h n hn)
    show Value.int .u64 n = Value.int .u64 _
    rw [Int.toNat_of_nonneg b.1]
  · intro z hz
    obtain ⟨n, hn, rfl⟩ := List.mem_map.1 hz
    have b := bounds_u64 (h n hn)
    omega

theorem clone_empty (ad : Addr) (c : Nat) (w : World) : Calls Try.prog 34 #[.slice (some ad) 0 c] w (Cloned [] w) := by
  have hq := Go.run_eql_slice_nil (P := Try.prog) w 24 5 (some ad) 0 c Try.underlying24
  go_enter Try.func34, Try.ntmps34
  go_wp2_with (at_builtin; refine wp_app rfl (.tmp 5) (.tmp 6) rfl w.heap.size _ [] [] c ad rfl (owns_empty w _ (Nat.le_refl _)) rfl (fun j hj => absurd hj (by simp)) (Fits.of (by simp)) (by simp) ?_; intro v1 w1 ho1 hb1)
  go_ret
  exact ⟨_, rfl, ho1.lies, ((Below.refl _ _).alloc (Nat.le_refl _) _).trans hb1⟩
theorem open_empty (ad : Addr) (c : Nat) (w : World) : Calls Try.prog 20 #[.slice (some ad) 0 c] w (Opened [] w) := by
  go_enter Try.func20, Try.ntmps20
  go_wp2_with (go_at_call 34; refine (clone_empty _ _ _).mono ?_; rintro e w1 ⟨v1, rfl, hl1, hb1⟩; have HL1 := Lib.hid hl1; have HB1 := Lib.hid hb1; clear hb1; rcases hl1 with ⟨rfl, _⟩ | ⟨b1, off1, c1, rfl, hlc1, hb1, hcs1⟩)
  all_goals
   go_ret
   have hs := HB1.out.size
   refine ⟨_, rfl, hs, ⟨_, heap_alloc_new _ _, HL1.out.keep fun k hk => Below.heap_alloc _ _ k hk, by simp⟩, HB1.out.alloc hs _⟩
/-- Open of any slice of bytes that came in. -/
theorem open_arg (A : Option Addr) (c : Nat) (l : List UInt8) (w : World) (hr : Row w w.heap.size A (bc l)) (hA : A = none → c = 0) (hl : l.length ≤ c) (hf : Fits l.length) :
    Calls Try.prog 20 #[.slice A l.length c] w (Opened l w) := by
  cases l with
  | nil =>
    cases A with
    | none => obtain rfl := hA rfl; exact open_any _ [] w (.inl ⟨rfl, rfl⟩) hf
    | some ad => exact open_empty ad c w
  | cons x l =>
    obtain ⟨b, off, rfl, hb, hc⟩ := hr (by simp [bc])
    exact open_any _ (x :: l) w (.inr ⟨b, off, c, rfl, hl, hb, fun i hi => hc i _ (bc_get (x :: l) i hi)⟩) hf
end Go.Proofs.Ytbbioeiikobnnaa
