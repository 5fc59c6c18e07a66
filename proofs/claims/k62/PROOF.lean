import PyProof.Rows.All
import Wide.All
import OpenK.AllK
import Wide.FinOn
import HandS.Base
import HandS.Call
import HandS.List
import HandS.Comp
import HandS.Ends
import HandS.Dict
import HandS.Iter
import HandS.Words
import HandS.WordsList
import HandS.Wide
import HandS.Exc
import HandS.ExcInit
import HandS.Defaults
import KE.KExcIs
import HandS.ForMost
import HandS.Walk
import HandS.SetKeys
import PySem.Challenge.RW_scriptsamid_k62_errors_with_any_values
set_option Elab.async false
set_option linter.all false
set_option maxRecDepth 100000
set_option maxHeartbeats 4000000
namespace Sc
open PySem L2
def top (i : Nat) : Stmt := PySem.Challenge.pw_scriptsamid_k62_errors_with_any_values.main.body.getD i (.Pass ⟨0, 0, 0, 0⟩)
abbrev sPot : Stmt := top 30
abbrev sTake : Stmt := top 31
abbrev sOf : Stmt := top 32
theorem scPot : FnScope ["_law_script", "_law_k", "_law_cell", "_law_own"] ["_law_script", "_law_k"] (defScope sPot) := ⟨rfl, rfl, rfl, by decide +kernel, rfl, by decide +kernel, by decide +kernel⟩
theorem scTake : FnScope ["_law_pot", "_law_upto", "_law_digit", "_law_prime", "_law_mixed"] ["_law_pot", "_law_upto"] (defScope sTake) := ⟨rfl, rfl, rfl, by decide +kernel, rfl, by decide +kernel, by decide +kernel⟩
theorem scOf : FnScope ["_law_pot", "_law_some"] ["_law_pot", "_law_some"] (defScope sOf) := ⟨rfl, rfl, rfl, by decide +kernel, rfl, by decide +kernel, by decide +kernel⟩
end Sc

namespace Sc
open PySem L2 PyProof.Rows
def CPowW (i j : Int) : Prop := 0 ≤ j ∧ (Builtin.Int.intBits i : Int) * j ≤ 2 ^ 27
theorem op_powW {X : Cx} : OpR X (binaryOp .Pow) (rI CPowW fun i j => .int (i ^ j.toNat)) := opI fun _ _ _ _ _ _ _ hc q => pow_int hc.1 hc.2 q
/-- the names that the helpers use stand for the built-ins -/
structure Nat0 (mg : Str → Option Value) : Prop where
  len : mg "len" = none
  abs : mg "abs" = none
  int : mg "int" = none
theorem cell_num (c : Int) : 0 ≤ (if c < 0 then -c else c) % ((10 ^ (60 : Int).toNat) ^ (5 : Int).toNat) * (if decide ((10 : Int) ^ (18 : Int).toNat ≤ if c < 0 then -c else c) = true then 1 else 0) ∧
    (if c < 0 then -c else c) % ((10 ^ (60 : Int).toNat) ^ (5 : Int).toNat) * (if decide ((10 : Int) ^ (18 : Int).toNat ≤ if c < 0 then -c else c) = true then 1 else 0) < 10 ^ 300 := by
  have e1 : ((10 : Int) ^ (60 : Int).toNat) ^ (5 : Int).toNat = 10 ^ 300 := by decide +kernel
  rw [e1]
  have p1 : (0 : Int) < 10 ^ 300 := by decide +kernel
  generalize (10 : Int) ^ 300 = M at p1
  have a1 := Int.emod_nonneg (if c < 0 then -c else c) (show M ≠ 0 by omega)
  have a2 := Int.emod_lt_of_pos (if c < 0 then -c else c) p1
  by_cases h : decide ((10 : Int) ^ (18 : Int).toNat ≤ if c < 0 then -c else c) = true
  · rw [if_pos h, Int.mul_one]; exact ⟨a1, a2⟩
  · rw [if_neg h, Int.mul_zero]; exact ⟨Int.le_refl _, p1⟩
theorem bit_small (c : Prop) [Decidable c] : -(2 ^ 64) < (if c then (1 : Int) else 0) ∧ (if c then (1 : Int) else 0) < 2 ^ 64 := by
  split <;> exact ⟨by decide, by decide⟩
def spPot (K : PySem.W.Frag) : Sp := fun vs H Q _ => ∃ (a : Addr) (ns : List Int) (k : Nat), vs = [.ref a, .int (k : Nat)] ∧ SqL K H a (ns.map V.int) ∧ k < 3 ∧
  ∀ (p : Addr) (o m : Int), H p = none → 0 ≤ o → o < 10 ^ 300 → 0 ≤ m → m < 2305843009213693921 → Q (.ref p) (upd H p (.lst [.int o, .int m, .int 0]))
section
variable {P : Program} {w : World} {K : PySem.W.Frag} {mg : Str → Option Value} {base : Heap}
theorem ok_pot {f : Addr} {fd : FuncData} (F : Fun K "_law_pot_of" "_law_pot_of" sPot f fd) (T : Nat0 mg) : FnOk P w K mg base CX0 1 f fd ["_law_script", "_law_k"] (spPot K) := by
  refine F.ok scPot (fun vs H Q E h => ?_) (fun cdv A outer s H vs Q E hr h => ?_)
  · obtain ⟨a, ns, k, rfl, _⟩ := h
    rfl
  · obtain ⟨a, ns, k, rfl, hS, hk, q⟩ := h
    refine ⟨_, pss_cons (ps_set (i := 2) scPot.nd rfl (Or.inl rfl) (pe_ifExp (pt_cmpR op_lt (pv 1) (pe_callB call_len_seq (by rfl) T.len PySem.boot_len (pa_cons (pv 0) pa_nil)) (nomark _)) (pe_ix ix_list (pv 0) (pv 1) (fun _ _ => rfl)) (pe_op op_add (pe_op op_mul pe_int (pv 1)) pe_int)))
      (pss_cons (ps_set (i := 3) scPot.nd rfl (Or.inl rfl) (pe_op op_mul (pe_op op_mod (pe_callTy call_int1 (by rfl) T.int (by decide +kernel) (pa_cons (pe_callB call_abs (by rfl) T.abs (by decide +kernel) (pa_cons (pv 2) pa_nil)) pa_nil)) (pe_op op_powW (pe_op op_pow pe_int pe_int) pe_int))
        (pe_callTy call_int1 (by rfl) T.int (by decide +kernel) (pa_cons (pe_cmpR op_ge (pe_callB call_abs (by rfl) T.abs (by decide +kernel) (pa_cons (pv 2) pa_nil)) (pe_op op_pow pe_int pe_int) (nomark _)) pa_nil))))
      (pss_one (ps_ret (pe_lst (pa_cons (pv 3) (pa_cons (pe_op op_mod (pe_op op_add (pe_op op_add (pe_op op_mul (pe_op op_mod (pe_callTy call_int1 (by rfl) T.int (by decide +kernel) (pa_cons (pv 2) pa_nil)) pe_int) pe_int) (pe_op op_mul (pe_op op_mul pe_int (pv 1)) (pv 1))) pe_int) pe_int) (pa_cons pe_int pa_nil))))))), ?_⟩
    refine ⟨_, rfl, _, rfl, a, _, rfl, .inl hS, _, _, rfl, rfl, _, rfl, ?_⟩
    refine ite2 (fun hlt => ?_) (fun hlt => ?_)
    focus
      have hlt := of_decide_eq_true hlt
      rw [List.length_map] at hlt
      have hk2 : k < ns.length := by omega
      refine ⟨_, rfl, _, rfl, a, _, _, V.int ns[k], rfl, rfl, hS, atI_nat (by rw [List.getElem?_map, List.getElem?_eq_getElem hk2]; rfl), ?_⟩
      generalize ns[k] = c
    rotate_left
    focus
      refine ⟨_, rfl, _, _, rfl, rfl, .inl ⟨by decide, by decide⟩, _, _, rfl, rfl, ?_⟩
      generalize 31 * (k : Int) + 13 = c
    all_goals
      refine ⟨_, rfl, _, rfl, .inl ⟨_, rfl, _, _, rfl, rfl, ⟨by decide, by decide, by decide⟩, _, _, rfl, rfl, ⟨by decide, by decide +kernel⟩, _, _, rfl, rfl, (by show (0 : Int) < _; decide +kernel), _, rfl, _, rfl, _, _, rfl, rfl, ⟨by decide, by decide, by decide⟩, _, _, rfl, rfl, .inr ⟨_, rfl, _, _, rfl, rfl, .inr ?_, ?_⟩⟩⟩
      · exact bit_small _
      refine ⟨_, rfl, _, rfl, .inl ⟨_, rfl, _, _, rfl, rfl, (by show (0 : Int) < _; decide), _, _, rfl, rfl, .inl ⟨?_, ?_⟩, ?_⟩⟩
      · exact Int.lt_of_lt_of_le (by decide) (Int.emod_nonneg _ (by decide))
      · exact Int.lt_trans (Int.emod_lt_of_pos _ (by decide)) (by decide)
      refine ⟨_, rfl, _, _, rfl, rfl, .inl ⟨by decide, by decide⟩, _, rfl, _, _, rfl, rfl, .inl ⟨by omega, by omega⟩, _, _, rfl, rfl, _, _, rfl, rfl, _, _, rfl, rfl, (by show (0 : Int) < _; decide), (by show 3 ≤ sizeLine; decide), fun p hp => ?_⟩
      refine q p _ _ hp ?_ ?_ ?_ ?_
      · exact (cell_num _).1
      · exact (cell_num _).2
      · exact Int.emod_nonneg _ (by decide)
      · exact Int.emod_lt_of_pos _ (by decide)
end
end Sc

namespace Sc
open PySem L2 PyProof.Rows
/-- a pot stands at p: what is left of the digits, the mixed number, how many were taken -/
structure PotAt (H : Hp) (p : Addr) (N : Nat) : Prop where
  ex : ∃ o m c : Int, H p = some (.lst [.int o, .int m, .int c]) ∧ 0 ≤ o ∧ 0 ≤ m ∧ m < 2305843009213693921 ∧ 0 ≤ c ∧ c ≤ N
/-- all that was tracked but what stands at p is as it was -/
def SameBut (p : Addr) (H H' : Hp) : Prop := ∀ b o, H b = some o → b ≠ p → H' b = some o
def spTake : Sp := fun vs H Q _ => ∃ (p : Addr) (n : Int) (N : Nat), vs = [.ref p, .int n] ∧ PotAt H p N ∧ N < 100000 ∧ 0 < n ∧ n < 1000000 ∧
  ∀ (d : Int) (H' : Hp), 0 ≤ d → d < n → PotAt H' p (N + 1) → SameBut p H H' → Q (.int d) H'
theorem prime_at {i : Int} (h0 : 0 ≤ i) (h5 : i < 5) : ∃ v : Int, atI [V.int 2147483647, V.int 2147483629, V.int 2147483587, V.int 2147483579, V.int 2147483563] i = some (.int v) ∧ 0 < v ∧ v < 2147483648 := by
  have : i = 0 ∨ i = 1 ∨ i = 2 ∨ i = 3 ∨ i = 4 := by omega
  rcases this with rfl | rfl | rfl | rfl | rfl <;> exact ⟨_, rfl, by decide, by decide⟩
theorem sq_le {c : Int} (h0 : 0 ≤ c) (h : c ≤ 100000) : 0 ≤ 60041 * c * c ∧ 60041 * c * c ≤ 600410000000000 := by
  have h1 : 0 ≤ c * c := Int.mul_nonneg h0 h0
  have h2 : c * c ≤ 100000 * 100000 := Int.mul_le_mul h h h0 (by decide)
  rw [Int.mul_assoc]
  omega
section
variable {P : Program} {w : World} {K : PySem.W.Frag} {mg : Str → Option Value} {base : Heap}
theorem ok_take {f : Addr} {fd : FuncData} (F : Fun K "_law_take" "_law_take" sTake f fd) (T : Nat0 mg) : FnOk P w K mg base CX0 1 f fd ["_law_pot", "_law_upto"] spTake := by
  refine F.ok scTake (fun vs H Q E h => ?_) (fun cdv A outer s H vs Q E hr h => ?_)
  · obtain ⟨p, n, N, rfl, _⟩ := h
    rfl
  · obtain ⟨p, n, N, rfl, ⟨o, m, c, hp, ho, hm, hm2, hc, hcN⟩, hN, hn, hn2, q⟩ := h
    refine ⟨_, pss_cons (ps_if (pt_cmpR op_gt (pe_ix ix_list (pv 0) pe_int (fun _ _ => rfl)) pe_int (nomark _))
        (pss_cons (ps_set (i := 2) scTake.nd rfl (Or.inl rfl) (pe_op op_mod (pe_callTy call_int1 (by rfl) T.int (by decide +kernel) (pa_cons (pe_ix ix_list (pv 0) pe_int (fun _ _ => rfl)) pa_nil)) (pv 1)))
        (pss_cons (ps_asg (pe_op op_fdiv (pe_ix ix_list (pv 0) pe_int (fun _ _ => rfl)) (pv 1)) (pg_sub (pv 0) pe_int set_list))
        (pss_one (ps_ret (pv 2))))) pss_nil)
      (pss_cons (ps_asg (pe_op op_add (pe_ix ix_list (pv 0) pe_int (fun _ _ => rfl)) pe_int) (pg_sub (pv 0) pe_int set_list))
      (pss_cons (ps_set (i := 3) scTake.nd rfl (Or.inl rfl) (pe_ix ix_list (pe_lst (pa_cons pe_int (pa_cons pe_int (pa_cons pe_int (pa_cons pe_int (pa_cons pe_int pa_nil))))))
          (pe_op op_mod (pe_callTy call_int1 (by rfl) T.int (by decide +kernel) (pa_cons (pe_ix ix_list (pv 0) pe_int (fun _ _ => rfl)) pa_nil)) pe_int) (fun _ _ => rfl)))
      (pss_cons (ps_set (i := 4) scTake.nd rfl (Or.inl rfl) (pe_op op_mod (pe_op op_pow (pe_callTy call_int1 (by rfl) T.int (by decide +kernel) (pa_cons
          (pe_op op_add (pe_op op_add (pe_ix ix_list (pv 0) pe_int (fun _ _ => rfl)) (pe_op op_mul (pe_op op_mul pe_int (pe_ix ix_list (pv 0) pe_int (fun _ _ => rfl))) (pe_ix ix_list (pv 0) pe_int (fun _ _ => rfl)))) pe_int) pa_nil)) pe_int) (pv 3)))
      (pss_one (ps_ret (pe_op op_mod (pe_op op_fdiv (pe_op op_mod (pe_callTy call_int1 (by rfl) T.int (by decide +kernel) (pa_cons
          (pe_op op_mul (pv 4) (pe_op op_add (pe_op op_mod (pe_callTy call_int1 (by rfl) T.int (by decide +kernel) (pa_cons (pv 4) pa_nil)) pe_int) (pe_op op_mul pe_int (pe_ix ix_list (pv 0) pe_int (fun _ _ => rfl))))) pa_nil)) pe_int) pe_int) (pv 1))))))), ?_⟩
    have S := SqL.of (K := K) hp
    refine ⟨_, rfl, p, _, _, _, rfl, rfl, S, rfl, _, _, rfl, rfl, _, rfl, ?_⟩
    refine ite2 (fun hlt => ?_) (fun hlt => ?_)
    · refine ⟨_, rfl, p, _, _, _, rfl, rfl, S, rfl, .inl ⟨_, rfl, _, rfl, _, _, rfl, rfl, hn, ?_⟩⟩
      refine ⟨_, rfl, p, _, _, _, rfl, rfl, S, rfl, _, rfl, _, _, rfl, rfl, ⟨hn, by omega⟩, _, rfl, p, _, _, _, rfl, rfl, hp, rfl, _, rfl, ?_⟩
      refine q _ _ (Int.emod_nonneg _ (by omega)) (Int.emod_lt_of_pos _ hn) ⟨_, _, _, upd_same, Int.ediv_nonneg ho (by omega), hm, hm2, hc, by omega⟩ fun b ob e hb => ?_
      rw [upd_ne hb]
      exact e
    · refine ⟨_, rfl, p, _, _, _, rfl, rfl, S, rfl, _, _, rfl, rfl, _, rfl, p, _, _, _, rfl, rfl, hp, rfl, ?_⟩
      refine ⟨(by show 5 ≤ sizeLine; decide), fun l hl => ?_⟩
      have hlp : p ≠ l := ne_of_none upd_same hl
      have hi0 := Int.emod_nonneg (c + 1) (show (5 : Int) ≠ 0 by decide)
      have hi5 := Int.emod_lt_of_pos (c + 1) (show (0 : Int) < 5 by decide)
      obtain ⟨v, hv, v0, v31⟩ := prime_at hi0 hi5
      have at2 : ∀ o1 o2 : HO, upd (upd H p o1) l o2 p = some o1 := fun o1 o2 => Eq.trans (upd_ne hlp) upd_same
      have S2 : ∀ xs o2, SqL K (upd (upd H p (.lst xs)) l o2) p xs := fun xs o2 => SqL.of (at2 _ _)
      refine ⟨_, rfl, p, _, _, _, rfl, rfl, S2 _ _, rfl, .inl ⟨_, rfl, _, _, rfl, rfl, (by show (0 : Int) < _; decide), l, _, _, _, rfl, rfl, SqL.of upd_same, hv, ?_⟩⟩
      obtain ⟨s0, s1⟩ := sq_le (c := c + 1) (by omega) (by omega)
      refine ⟨_, rfl, p, _, _, _, rfl, rfl, S2 _ _, rfl, _, rfl, p, _, _, _, rfl, rfl, S2 _ _, rfl, _, _, rfl, rfl, .inl ⟨by decide, by decide⟩, _, rfl, p, _, _, _, rfl, rfl, S2 _ _, rfl, _, _, rfl, rfl, .inl ⟨by omega, by omega⟩, _, _, rfl, rfl, _, _, rfl, rfl, .inl ⟨_, rfl, _, _, rfl, rfl, ⟨by decide, by decide, ?_⟩, _, rfl, _, _, rfl, rfl, v0, ?_⟩⟩
      · omega
      have x0 := Int.emod_nonneg ((m + 60041 * (c + 1) * (c + 1) + 41) ^ 3) (show v ≠ 0 by omega)
      have x1 := Int.emod_lt_of_pos ((m + 60041 * (c + 1) * (c + 1) + 41) ^ 3) v0
      refine ⟨_, rfl, _, rfl, .inl ⟨_, rfl, _, _, rfl, rfl, (by show (0 : Int) < _; decide), _, rfl, p, _, _, _, rfl, rfl, S2 _ _, rfl, _, _, rfl, rfl, .inl ⟨by decide, by decide⟩, _, _, rfl, rfl, _, _, rfl, rfl, .inl ⟨?_, ?_⟩, .inl ⟨_, rfl, _, _, rfl, rfl, (by show (0 : Int) < _; decide), _, _, rfl, rfl, ⟨by decide, by decide⟩, _, rfl, _, _, rfl, rfl, hn, ?_⟩⟩⟩
      · exact Int.lt_of_lt_of_le (by decide) x0
      · exact Int.lt_trans x1 (Int.lt_trans v31 (by decide))
      refine q _ _ (Int.emod_nonneg _ (by omega)) (Int.emod_lt_of_pos _ hn) ⟨_, _, _, at2 _ _, ho, hm, hm2, (by omega), (by omega)⟩ fun b ob e hb => ?_
      have e1 : ∀ o1, upd H p o1 b = some ob := fun o1 => (upd_ne hb).trans e
      exact (upd_ne (ne_of_none (e1 _) hl)).trans (e1 _)
end
end Sc

namespace Sc
open PySem L2 PySem.Spec PyProof.Rows
/-- v is a made thing, as plain data: lists of at most one item, tuples of at most two, dicts of at most one text key -/
inductive DatAt (H : Hp) : V → PyData → Prop where
  | non : DatAt H .non .none
  | bl (b : Bool) : DatAt H (.bl b) (.bool b)
  | int (i : Int) : DatAt H (.int i) (.int i)
  | str (x : Str) : DatAt H (.str x) (.str x)
  | tup0 {a : Addr} (h : H a = some (.tup [])) : DatAt H (.ref a) (.tuple [])
  | tup1 {a : Addr} {x : V} {d : PyData} (h : H a = some (.tup [x])) (hx : DatAt H x d) : DatAt H (.ref a) (.tuple [d])
  | tup2 {a : Addr} {x y : V} {d e : PyData} (h : H a = some (.tup [x, y])) (hx : DatAt H x d) (hy : DatAt H y e) : DatAt H (.ref a) (.tuple [d, e])
  | lst0 {a : Addr} (hs : a ≠ sysModules) (h : H a = some (.lst [])) : DatAt H (.ref a) (.list [])
  | lst1 {a : Addr} {x : V} {d : PyData} (hs : a ≠ sysModules) (h : H a = some (.lst [x])) (hx : DatAt H x d) : DatAt H (.ref a) (.list [d])
  | dict0 {a : Addr} (h : H a = some (.dK [])) : DatAt H (.ref a) (.dict [])
  | dict1 {a : Addr} {k : Str} {x : V} {d : PyData} (h : H a = some (.dK [(Sum.inr k, x)])) (hx : DatAt H x d) : DatAt H (.ref a) (.dict [(.str k, d)])
/-- at p stands a list of three items -/
def Three (H : Hp) (p : Addr) : Prop := ∃ x y z : V, H p = some (.lst [x, y, z])
theorem DatAt.keep {H H' : Hp} {p : Addr} (t : Three H p) (k : SameBut p H H') {v : V} {d : PyData} (h : DatAt H v d) : DatAt H' v d := by
  obtain ⟨x0, y0, z0, hp⟩ := t
  induction h with
  | non => exact .non
  | bl b => exact .bl b
  | int i => exact .int i
  | str x => exact .str x
  | tup0 h => exact .tup0 (k _ _ h (ne_of h hp (by intro z; cases z)))
  | tup1 h _ ih => exact .tup1 (k _ _ h (ne_of h hp (by intro z; cases z))) ih
  | tup2 h _ _ ih ih2 => exact .tup2 (k _ _ h (ne_of h hp (by intro z; cases z))) ih ih2
  | lst0 hs h => exact .lst0 hs (k _ _ h (ne_of h hp (by intro z; cases z)))
  | lst1 hs h _ ih => exact .lst1 hs (k _ _ h (ne_of h hp (by intro z; cases z))) ih
  | dict0 h => exact .dict0 (k _ _ h (ne_of h hp (by intro z; cases z)))
  | dict1 h _ ih => exact .dict1 (k _ _ h (ne_of h hp (by intro z; cases z))) ih
theorem DatAt.same {H H' : Hp} (k : Same H H') {v : V} {d : PyData} (h : DatAt H v d) : DatAt H' v d := by
  induction h with
  | non => exact .non
  | bl b => exact .bl b
  | int i => exact .int i
  | str x => exact .str x
  | tup0 h => exact .tup0 (k _ _ h)
  | tup1 h _ ih => exact .tup1 (k _ _ h) ih
  | tup2 h _ _ ih ih2 => exact .tup2 (k _ _ h) ih ih2
  | lst0 hs h => exact .lst0 hs (k _ _ h)
  | lst1 hs h _ ih => exact .lst1 hs (k _ _ h) ih
  | dict0 h => exact .dict0 (k _ _ h)
  | dict1 h _ ih => exact .dict1 (k _ _ h) ih
theorem vals_nil {us : List Value} (r : Vals [] us) : us = [] := by cases r; rfl
theorem vals_one {x : V} {us : List Value} (r : Vals [x] us) : ∃ u, us = [u] ∧ RelV x u := by
  cases r with
  | cons a b => cases b; exact ⟨_, rfl, a⟩
theorem vals_two {x y : V} {us : List Value} (r : Vals [x, y] us) : ∃ u w, us = [u, w] ∧ RelV x u ∧ RelV y w := by
  cases r with
  | cons a b =>
    obtain ⟨w, rfl, rw⟩ := vals_one b
    exact ⟨_, w, rfl, a, rw⟩
/-- such a thing is read as its data, in the real heap -/
theorem reads_of {P : Program} {w : World} {H : Hp} {h : Heap} (ok : HOk P w H h) {v : V} {d : PyData} (D : DatAt H v d) : ∀ u, RelV v u → ∃ as, Reads h u d as ∧ sysModules ∉ as := by
  induction D with
  | non => intro u r; cases (show u = Value.none from r); exact ⟨_, .none, by simp⟩
  | bl b => intro u r; cases (show u = Value.bool b from r); exact ⟨_, .bool b, by simp⟩
  | int i => intro u r; obtain ⟨t, e⟩ := (show ∃ t, u = Value.int i t from r); subst e; exact ⟨_, .int i t, by simp⟩
  | str x => intro u r; obtain ⟨t, e⟩ := (show ∃ t, u = Value.str x t from r); subst e; exact ⟨_, .str x t, by simp⟩
  | @tup0 a h =>
    intro u r
    cases (show u = Value.ref a from r)
    obtain ⟨_, its, r1, o, e1, e2, n, e3⟩ := ok _ _ h
    cases vals_nil r1
    exact ⟨_, .tuple e1 e2 e3 .nil, by simp⟩
  | @tup1 a x d h _ ih =>
    intro u r
    cases (show u = Value.ref a from r)
    obtain ⟨_, its, r1, o, e1, e2, n, e3⟩ := ok _ _ h
    obtain ⟨u1, rfl, q1⟩ := vals_one r1
    obtain ⟨as, R, hn⟩ := ih _ q1
    exact ⟨_, .tuple e1 e2 e3 (.cons R .nil), by simpa using hn⟩
  | @tup2 a x y d e h _ _ ih ih2 =>
    intro u r
    cases (show u = Value.ref a from r)
    obtain ⟨_, its, r1, o, e1, e2, n, e3⟩ := ok _ _ h
    obtain ⟨u1, u2, rfl, q1, q2⟩ := vals_two r1
    obtain ⟨as, R, hn⟩ := ih _ q1
    obtain ⟨bs, R2, hn2⟩ := ih2 _ q2
    exact ⟨_, .tuple e1 e2 e3 (.cons R (.cons R2 .nil)), by simp [hn, hn2]⟩
  | @lst0 a hs h =>
    intro u r
    cases (show u = Value.ref a from r)
    obtain ⟨_, its, n, r1, e1⟩ := ok _ _ h
    cases vals_nil r1
    exact ⟨_, .list e1 rfl rfl .nil, by simpa using Ne.symm hs⟩
  | @lst1 a x d hs h _ ih =>
    intro u r
    cases (show u = Value.ref a from r)
    obtain ⟨_, its, n, r1, e1⟩ := ok _ _ h
    obtain ⟨u1, rfl, q1⟩ := vals_one r1
    obtain ⟨as, R, hn⟩ := ih _ q1
    exact ⟨_, .list e1 rfl rfl (.cons R .nil), by simp [hn, Ne.symm hs]⟩
  | @dict0 a h =>
    intro u r
    cases (show u = Value.ref a from r)
    obtain ⟨_, hsys, vs, rel, o, es, ep, e1, ex, e2, kk, pp, nd⟩ := ok _ _ h
    have ha : a ≠ sysModules := beq_eq_false_iff_ne.mp hsys
    cases rel
    have e0 : es.toList = [] := by
      generalize es.toList = l at pp
      cases pp
      rfl
    refine ⟨a :: [] ++ [], .dict (kvs := []) e1 ex.1 e2 (by rw [e0]; exact .nil) (by rw [e0]; exact .nil), by simpa using Ne.symm ha⟩
  | @dict1 a k x d h _ ih =>
    intro u r
    cases (show u = Value.ref a from r)
    obtain ⟨_, hsys, vs, rel, o, es, ep, e1, ex, e2, kk, pp, nd⟩ := ok _ _ h
    have ha : a ≠ sysModules := beq_eq_false_iff_ne.mp hsys
    cases rel with
    | @cons _ b _ _ ra rb =>
      cases rb
      obtain ⟨z1, z2⟩ := ra
      obtain ⟨as, R, hn⟩ := ih _ z2
      have e0 : ∃ e, es.toList = [e] ∧ (mixKind P w).is (Sum.inr k) e.key = true ∧ e.val = b.2 := by
        generalize es.toList = l at pp
        cases pp with
        | cons k1 v1 p1 =>
          cases p1
          exact ⟨_, rfl, by rw [← z1] at k1; exact k1, v1⟩
      obtain ⟨en, ee, ek, ev⟩ := e0
      have ek' : keyIs (Sum.inr k) en.key = true := ek
      obtain ⟨i, t, z, _⟩ | ⟨y, t, z, ey⟩ := keyIs_shape ek'
      · cases z
      cases z
      refine ⟨a :: ([] ++ []) ++ (as ++ []), .dict (kvs := [(.str k, d)]) e1 ex.1 e2 (by rw [ee]; exact .cons (by show Reads _ en.key _ _; rw [ey]; exact .str _ _) .nil) (by rw [ee]; exact .cons (by show Reads _ en.val _ _; rw [ev]; exact R) .nil), by simp [hn, Ne.symm ha]⟩
end Sc

namespace Sc
open PySem L2 PySem.Spec PyProof.Rows
/-- how large such data is: n the number of wraps -/
structure Good (d : PyData) (n : Nat) : Prop where
  sh : d.showable = true
  dp : d.depth ≤ n + 4
  sz : d.shown.length ≤ 40 + 10 * n
theorem len_app (a b : Str) : (a ++ b).length = a.length + b.length := by
  show (a.cps ++ b.cps).size = a.cps.size + b.cps.size
  exact Array.size_append
theorem join_one (s x : Str) : s.join [x] = x := by rfl
theorem join_two (s x y : Str) : s.join [x, y] = x ++ s ++ y := by rfl
theorem good_mono {d : PyData} {n m : Nat} (g : Good d n) (h : n ≤ m) : Good d m := ⟨g.sh, by have := g.dp; omega, by have := g.sz; omega⟩
theorem good_tup1 {d : PyData} {n : Nat} (g : Good d n) : Good (.tuple [d]) (n + 1) := by
  refine ⟨?_, ?_, ?_⟩
  · have := g.sh
    simp only [PyData.showable, PyData.showableAll, this, Bool.and_self]
  · have := g.dp
    simp only [PyData.depth, PyData.depthAll]
    omega
  · have h := g.sz
    rw [PyData.shown_tuple, PyData.shownAll_cons, PyData.shownAll_nil, join_one, len_app, len_app]
    have e1 : (Str.ofString "(").length = 1 := by decide +kernel
    have e2 : (Str.ofString (if ([d].length == 1) = true then ",)" else ")")).length = 2 := by
      show (Str.ofString ",)").length = 2
      decide +kernel
    omega
theorem good_lst1 {d : PyData} {n : Nat} (g : Good d n) : Good (.list [d]) (n + 1) := by
  refine ⟨?_, ?_, ?_⟩
  · have := g.sh
    simp only [PyData.showable, PyData.showableAll, this, Bool.and_self]
  · have := g.dp
    simp only [PyData.depth, PyData.depthAll]
    omega
  · have h := g.sz
    rw [PyData.shown_list, PyData.shownAll_cons, PyData.shownAll_nil, join_one, len_app, len_app]
    have e1 : (Str.ofString "[").length = 1 := by decide +kernel
    have e2 : (Str.ofString "]").length = 1 := by decide +kernel
    omega
theorem good_dict1 {d : PyData} {n : Nat} (g : Good d n) : Good (.dict [(.str (Str.ofString "a"), d)]) (n + 1) := by
  refine ⟨?_, ?_, ?_⟩
  · have := g.sh
    simp only [PyData.showable, PyData.showableKv, this, Bool.and_self]
  · have := g.dp
    simp only [PyData.depth, PyData.depthKv]
    omega
  · have h := g.sz
    rw [PyData.shown_dict, PyData.shownKv_cons, PyData.shownKv_nil, join_one, len_app, len_app, len_app, len_app]
    have e1 : (Str.ofString "{").length = 1 := by decide +kernel
    have e2 : (Str.ofString "}").length = 1 := by decide +kernel
    have e3 : (PyData.str (Str.ofString "a")).shown.length = 3 := by decide +kernel
    have e4 : (Str.ofString ": ").length = 2 := by decide +kernel
    omega
theorem good_tup2 {d : PyData} {n : Nat} (g : Good d n) : Good (.tuple [d, .int 0]) (n + 1) := by
  refine ⟨?_, ?_, ?_⟩
  · have := g.sh
    have h0 : PyData.showable (.int 0) = true := by decide +kernel
    simp only [PyData.showable, PyData.showableAll, this, Bool.and_self, Bool.true_and, Bool.and_true]
    exact h0
  · have := g.dp
    simp only [PyData.depth, PyData.depthAll]
    omega
  · have h := g.sz
    rw [PyData.shown_tuple, PyData.shownAll_cons, PyData.shownAll_cons, PyData.shownAll_nil, join_two, len_app, len_app, len_app, len_app]
    have e1 : (Str.ofString "(").length = 1 := by decide +kernel
    have e2 : (Str.ofString (if ([d, .int 0].length == 1) = true then ",)" else ")")).length = 1 := by
      show (Str.ofString ")").length = 1
      decide +kernel
    have e3 : (PyData.int 0).shown.length = 1 := by decide +kernel
    have e4 : (Str.ofString ", ").length = 2 := by decide +kernel
    omega
/-- a list that stands at a new place, and not at that of sys.modules -/
def tLstB (t : TA) : TE := fun σ H Q => t σ H fun xs H1 => xs.length ≤ sizeLine ∧ ∀ p, H1 p = none → p ≠ sysModules → Q (.ref p) (upd H1 p (.lst xs))
section
variable {X : Cx} {es : List Expr} {t : TA} {pos : Pos}
theorem pe_lstB (h : PA X es t) : PE X (.List es pos) (tLstB t) := by
  constructor
  intro pins s σ H Q I hq
  refine wpAny_List_spliced (thn (h.run pos pins s σ H _ I hq) ?_)
  intro us s1 hh
  obtain ⟨xs, H1, I1, r, z, q⟩ := hh
  have hf : H1 s1.heap.objs.size = none := I1.hok.fresh (Nat.le_refl _)
  have hok : ObjOk X.prog X.w (upd H1 s1.heap.objs.size (.lst xs)) (s1.heap.push { cls := .type "list", data := .seq us.toArray }) s1.heap.objs.size (.lst xs) :=
    ⟨z, us, 0, r, Heap.get?_push_size _ rfl⟩
  have J := I1.laid (t' := s1.toks) (fun b u e => Heap.get?_push_of_some _ e) (Nat.le_refl _) hok
  exact ⟨r.length ▸ z, .ref _, _, J, rfl, q _ hf (Nat.ne_of_gt I1.big)⟩
/-- repr of made data -/
theorem call_reprD {k : Nat} (hr : Room k X.A) (hg : X.A.guards = some []) : CallR X (.builtin "repr") (fun xs H Q => ∃ v d n, xs = [v] ∧ DatAt H v d ∧ Good d n ∧ n ≤ 30 ∧ Q (.str d.shown) H) := by
  intro pins s σ H xs us Q I r h
  obtain ⟨v, d, n, rfl, D, G, hn, q⟩ := h
  obtain ⟨u, rfl, ru⟩ := vals_one r
  have hsz : d.shown.length ≤ sizeLine := by
    have := G.sz
    rw [sizeLine_eq]
    omega
  have fin : ∀ (h' : Heap) (u : Tok) (tk : Nat), (∀ b o, s.heap.get? b = some o → h'.get? b = some o) → EP X pins σ Q (.str d.shown u) { s with heap := h', toks := tk } :=
    fun h' u tk k => ⟨.str d.shown, H, I.kept (t' := tk) k, ⟨_, rfl⟩, q⟩
  obtain ⟨as, R, hsm⟩ := reads_of I.hok D u ru
  have hu := hr.units
  have hd := G.dp
  cases R with
  | none => exact PySem.P.repr_of_none (fin s.heap _ _ fun _ _ e => e)
  | bool b => exact PySem.P.repr_of_bool (fin s.heap _ _ fun _ _ e => e)
  | int i t => exact PySem.P.repr_of_int (of_decide_eq_true G.sh) (fin s.heap _ _ fun _ _ e => e)
  | str x t => exact PySem.P.repr_of_str (fin s.heap _ _ fun _ _ e => e) hsz
  | list h1 h2 h3 h4 => exact repr_of_reads' (.list h1 h2 h3 h4) G.sh (fun _ => hsm) hg (by omega) (fun _ _ e => e) fin hsz
  | tuple h1 h2 h3 h4 => exact repr_of_reads' (.tuple h1 h2 h3 h4) G.sh (fun _ => hsm) hg (by omega) (fun _ _ e => e) fin hsz
  | dict h1 h2 h3 h4 h5 => exact repr_of_reads' (.dict h1 h2 h3 h4 h5) G.sh (fun _ => hsm) hg (by omega) (fun _ _ e => e) fin hsz
end
end Sc

/-! an own error class, made with keywords -/
namespace ScK
open PySem PySem.W PySem.Calls PyProof.Rows PySem.HandSPX
section
variable {M : Model} {A : Around} {E : Value → Shared → Prop} {h : Heap} {g : Array GenState} {d : Drawn} {t : Nat} {os : OsState}
variable {nm q : Str} {C N : Addr} {bs bm bmB : List Value} {hdct : Bool} {sn : List Str} {sub : List Value} {ab : Bool}
variable {col : Option Bool} {dd : Option Addr} {k0 k1 k2 k3 k5 : Option Value} {B newId initId : String} {ws : List Value} {kw : List (Str × Value)}
abbrev TheCls (nm q : Str) (C N : Addr) (bs bm : List Value) (hdct : Bool) (sn : List Str) (sub : List Value) (ab : Bool) (col : Option Bool) (dd : Option Addr) (k0 k1 k2 k3 k5 : Option Value) (newId : String) (h : Heap) : Prop :=
  h.get? C = some (excClassObj nm q C N bs bm hdct sn sub ab col dd k0 k1 k2 k3 k5 newId)
theorem has_base (F : ExcBaseFacts B newId initId bmB) (hT : ∀ X : String, bm.contains (.type X) = bmB.contains (.type X)) : (Value.ref C :: bm).contains (.type B) = true := by
  rw [List.contains_cons, hT, F.hasB]
  exact Bool.or_true _
theorem kw_check_new (F : ExcBaseFacts B newId initId bmB) (hT : ∀ X : String, bm.contains (.type X) = bmB.contains (.type X)) {Q : Unit → Shared → Prop}
    (hC : TheCls nm q C N bs bm hdct sn sub ab col dd k0 k1 k2 k3 k5 newId h) (hq : Q () ⟨h, g, d, t, os⟩) :
    wpAny M A (checkBuiltinCall newId ⟨.ref C :: ws, kw⟩) Q E ⟨h, g, d, t, os⟩ := by
  have hB := has_base (C := C) F hT
  have hs := F.noStar
  simp only [checkBuiltinCall, F.newKind, F.newSplit, F.newRow]
  repeat (first
    | refine wpAny_loadPart_at hC ?_
    | (refine wpAny_isSubtype_exc hC ?_; rw [hB])
    | refine wpAny_staticBase_exc hC ?_
    | refine wpAny_madeBy_exc hC ?_
    | simp only [bne_self_eq_false, Bool.false_eq_true, if_false]
    | wp_step)
  exact hq
theorem kw_check_call {Q : Unit → Shared → Prop} (hC : TheCls nm q C N bs bm hdct sn sub ab col dd k0 k1 k2 k3 k5 newId h)
    (hq : Q () ⟨h, g, d, t, os⟩) : wpAny M A (checkBuiltinCall "type.__call__" ⟨.ref C :: ws, kw⟩) Q E ⟨h, g, d, t, os⟩ := by
  have h3 := tc_sub
  have hty : (⟨h, g, d, t, os⟩ : Shared).TypeIs (.ref C) "type" := ⟨_, hC, rfl⟩
  simp only [checkBuiltinCall, tc_kind, tc_split]
  repeat (any_goals (first
    | assumption
    | with_reducible refine wpAny_loadPart_at hC ?_
    | with_reducible refine wpAny_onRaise ?_
    | with_reducible refine wpAny_map ?_
    | wp_step))
end
section
variable {prog : Program} {w : World} {A : Around} {E : Value → Shared → Prop} {R : Result → Shared → Prop} {h : Heap} {g : Array GenState} {d : Drawn} {t : Nat} {os : OsState}
variable {nm q : Str} {C N : Addr} {bs bm bmB : List Value} {hdct : Bool} {sn : List Str} {sub : List Value} {ab : Bool}
variable {col : Option Bool} {dd : Option Addr} {k0 k1 k2 k3 k5 : Option Value} {B newId initId : String} {ws : List Value} {kw : List (Str × Value)}
theorem kw_new (F : ExcBaseFacts B newId initId bmB) (hT : ∀ X : String, bm.contains (.type X) = bmB.contains (.type X))
    (hC : TheCls nm q C N bs bm hdct sn sub ab col dd k0 k1 k2 k3 k5 newId h) (hz : ws.length ≤ sizeLine)
    (hq : R (.ok (.ret (.ref (h.objs.size + 1)))) ⟨(h.push (kdv_tup ws)).push (excO C h.objs.size), g, d, t, os⟩) :
    codeAny (model prog w) A (.builtin newId ⟨.ref C :: ws, kw⟩) R ⟨h, g, d, t, os⟩ := by
  have hends := F.ends
  have hB := has_base (C := C) F hT
  have hA : (Value.ref C :: bm).contains (.type "AttributeError") = false := by
    rw [List.contains_cons, hT, F.noAttr]
    rfl
  have hN : (Value.ref C :: bm).contains (.type "NameError") = false := by
    rw [List.contains_cons, hT, F.noName]
    rfl
  refine codeAny_builtinAt F.entry ?_
  unfold Builtin.«BaseException.__new__»
  refine PySem.wpAt_bind ?_
  show PySem.wpAt _ _ _ (stack >>= _) _ _ _
  refine PySem.wpAt_bind (PySem.wpAt_stack fun p below => PySem.wpAt_of_wpAny ?_)
  wp_walk
  refine PySem.wpAt_of_wpAny ?_
  rw [F.owner]
  repeat (first
    | with_reducible refine wpAny_madeHere_exc F.canon hC ?_
    | with_reducible refine wpAny_loadPart_at hC ?_
    | (with_reducible refine wpAny_isSubtype_exc hC ?_; first | rw [hB] | rw [hA] | rw [hN])
    | wp_step)
  show R _ _
  rw [Heap.size_push]
  exact hq
theorem kw_type_call (F : ExcBaseFacts B newId initId bmB) (hT : ∀ X : String, bm.contains (.type X) = bmB.contains (.type X)) {fI : Addr} {Q : Fin → Shared → Prop}
    (hC : TheCls nm q C N bs bm hdct sn sub ab col dd k0 k1 k2 k3 k5 newId h) (hz : ws.length ≤ sizeLine)
    (hi : Looks (model prog w) h (typeLookup (.ref C) "__init__") (some (.ref fI)))
    (hb : ∀ self, Looks (model prog w) h (bindSpecial (.ref fI) self) (.ref fI, [self]))
    (hq : codeAny (model prog w) A (.call (.ref fI) ⟨.ref (h.objs.size + 1) :: ws, kw⟩)
      (fun r s' => match r with
        | .ok (.ret v) => v = .none ∧ Q (.done (.ret (.ref (h.objs.size + 1)))) s'
        | .ok _ => False
        | .error e => E e s')
      ⟨(h.push (kdv_tup ws)).push (excO C h.objs.size), g, d, t, os⟩) :
    wpAny (model prog w) A (Builtin.«type.__call__» ⟨.ref C :: ws, kw⟩) Q E ⟨h, g, d, t, os⟩ := by
  repeat (first
    | with_reducible refine wpAny_loadPart_at hC ?_
    | with_reducible refine wpAny_madeBy_exc hC ?_
    | wp_step)
  refine codeAny_call_builtin_code (Code.quiet_builtin _ F.quiet) (kw_check_new F hT hC ?_)
  refine kw_new F hT hC hz ?_
  show wpAny _ _ _ _ _ _
  have kp : ∀ b o, h.get? b = some o → ((h.push (kdv_tup ws)).push (excO C h.objs.size)).get? b = some o :=
    fun b o e => Heap.get?_push_of_some _ (Heap.get?_push_of_some _ e)
  have hC2 := kp _ _ hC
  have he : ((h.push (kdv_tup ws)).push (excO C h.objs.size)).get? (h.objs.size + 1) = some (excO C h.objs.size) := by
    heap_get
  have hCC : (Value.ref C :: bm).contains (.ref C) = true := by
    simp
  have i2 := hi.keeps kp
  have b2 := (hb (.ref (h.objs.size + 1))).keeps kp
  unfold isInstance
  repeat (first
    | with_reducible refine wpAny_loadPart_at he ?_
    | (with_reducible refine wpAny_isSubtype_exc hC2 ?_; rw [hCC])
    | wp_step)
  show wpAny _ _ (typeLookup (.ref C) _) _ _ _
  refine i2.at ?_
  refine wpAny_holding (wpAny_bind (b2.at ?_))
  refine wpAny_bind (wpAny_call (codeAny_mono hq ?_))
  intro r s' z
  match r, z with
  | .error e, z => exact z
  | .ok (.ret v), z =>
    obtain ⟨ez, z⟩ := z
    subst ez
    first
      | exact wpAny_pure (wpAny_pure z)
      | (wp_walk; exact z)
  | .ok .next, z => exact z.elim
  | .ok .brk, z => exact z.elim
  | .ok .cont, z => exact z.elim
theorem kw_call (F : ExcBaseFacts B newId initId bmB) (hT : ∀ X : String, bm.contains (.type X) = bmB.contains (.type X)) {fI : Addr}
    (hC : TheCls nm q C N bs bm hdct sn sub ab col dd k0 k1 k2 k3 k5 newId h) (hz : ws.length ≤ sizeLine)
    (hi : Looks (model prog w) h (typeLookup (.ref C) "__init__") (some (.ref fI)))
    (hb : ∀ self, Looks (model prog w) h (bindSpecial (.ref fI) self) (.ref fI, [self]))
    (hq : codeAny (model prog w) (A.under (.builtin "type.__call__" ⟨.ref C :: ws, kw⟩)) (.call (.ref fI) ⟨.ref (h.objs.size + 1) :: ws, kw⟩)
      (InitBack (h.objs.size + 1) R) ⟨(h.push (kdv_tup ws)).push (excO C h.objs.size), g, d, t, os⟩) :
    codeAny (model prog w) A (.call (.ref C) ⟨ws, kw⟩) R ⟨h, g, d, t, os⟩ := by
  have h1 := tc_lookup
  have h2 := tc_bind (.ref C)
  have hty : (⟨h, g, d, t, os⟩ : Shared).TypeIs (.ref C) "type" := ⟨_, hC, rfl⟩
  refine codeAny_of_tree ?_
  show wpAny _ _ (callAny (.ref C) _) _ _ _
  repeat (any_goals (first
    | assumption
    | with_reducible refine wpAny_loadPart_at hC ?_
    | wp_step))
  refine ⟨rfl, ?_⟩
  refine codeAny_call_builtin_at (Code.quiet_builtin _ (by decide +kernel)) entry_typeCall (kw_check_call hC ?_)
  refine kw_type_call F hT hC hz hi hb (codeAny_mono hq ?_)
  intro r s' z
  match r, z with
  | .error e, z => exact z
  | .ok (.ret v), z => exact z
  | .ok .next, z => exact z
  | .ok .brk, z => exact z
  | .ok .cont, z => exact z
end
end ScK

namespace Sc
open PySem L2 PySem.Spec PyProof.Rows
abbrev vName : Str := Str.ofString "value"
/-- the classes above an error class of the package, S that of ScriptError -/
abbrev above (S : Addr) : List Value := [.ref S, .type "ValueError", .type "Exception", .type "BaseException", .type "object"]
/-- what the top says of an error class x at C whose own creation is the def at fI -/
structure ErrK (K : PySem.W.Frag) (mg : Str → Option Value) (S C fI : Addr) (x : Str) : Prop where
  gC : mg x = some (.ref C)
  cls : ∃ nm q N bs sn sub ab col dd k0 k1 k2 k3 k5, K.lookup C = some (excClassObj nm q C N bs (above S) true sn sub ab col dd k0 k1 k2 k3 k5 "ValueError.__new__")
  sa : PySem.W.findIn K (.ref C) "__setattr__" = some (some (.builtin "object.__setattr__"))
  ga : PySem.W.findIn K (.ref C) "__getattribute__" = some (some (.builtin "BaseException.__getattribute__"))
  gg : PySem.W.findIn K (.ref C) "__getattr__" = some none
  noV : PySem.W.findIn K (.ref C) vName = some none
  iC : PySem.W.findIn K (.ref C) "__init__" = some (some (.ref fI))
  tI : PySem.W.typeIn K (.ref fI) = some (.type "function")
  kC : PySem.W.keepIn K (.ref C) = true
  ty : PySem.W.typeIn K (.ref C) = some (.type "type")
  ha : PySem.W.findIn K (.ref C) "__class__" = some (some (.builtin "object.__class__"))
/-- two facts of the descriptor __class__ -/
structure ClsD (K : PySem.W.Frag) : Prop where
  hn : PySem.W.specialIn K (.builtin "object.__class__") "__get__" = some (some (.builtin "getset_descriptor.__get__"))
  ht : PySem.W.takesIn K (.builtin "object.__class__") = some true
section
variable {K : PySem.W.Frag} {mg : Str → Option Value} {S C fI : Addr} {x : Str}
theorem ErrK.clsIn (E : ErrK K mg S C fI x) : ∃ cd, PySem.W.clsIn K C = some cd ∧ cd.mro = .ref C :: above S ∧ cd.hasDict = true := by
  obtain ⟨nm, q, N, bs, sn, sub, ab, col, dd, k0, k1, k2, k3, k5, hC⟩ := E.cls
  unfold PySem.W.clsIn
  rw [hC]
  exact ⟨_, rfl, rfl, rfl⟩
theorem ErrK.mro (E : ErrK K mg S C fI x) (b : Value) : PySem.W.mroIn K C b = some ((Value.ref C :: above S).contains b) := by
  obtain ⟨cd, h1, h2, _⟩ := E.clsIn
  unfold PySem.W.mroIn
  rw [h1, Option.bind_some, h2]
  rfl
theorem ErrK.sub (E : ErrK K mg S C fI x) (b : Value) : PySem.W.subIn K (.ref C) b = some ((Value.ref C :: above S).contains b) := E.mro b
theorem ErrK.hd (E : ErrK K mg S C fI x) : PySem.W.hasDictIn K C = true := by
  obtain ⟨cd, h1, _, h3⟩ := E.clsIn
  show (PySem.W.clsIn K C).any _ = true
  rw [h1]
  exact h3
theorem ErrK.oex (E : ErrK K mg S C fI x) : OexC K C where
  cls := by
    obtain ⟨nm, q, N, bs, sn, sub, ab, col, dd, k0, k1, k2, k3, k5, hC⟩ := E.cls
    exact ⟨nm, q, N, bs, _, sn, sub, ab, col, dd, k0, k1, k2, k3, k5, hC, rfl⟩
  sa := E.sa
  exC := E.sub _
  tyC := E.ty
  kC := E.kC
/-- of which of two classes an error is -/
theorem ErrK.one {C' fI' : Addr} {x' : Str} (E : ErrK K mg S C fI x) (E' : ErrK K mg S C' fI' x') (hs : C' ≠ S) : PySem.W.kitOne K (.ref C) (.ref C') = some (decide (C' = C)) := by
  by_cases h : C' = C
  · subst h
    unfold PySem.W.kitOne
    rw [if_pos (by simp)]
    simp
  · unfold PySem.W.kitOne
    rw [if_neg (fun z => h (Value.ref.inj (beq_iff_eq.mp z)).symm)]
    obtain ⟨cd, h1, _⟩ := E'.clsIn
    unfold PySem.W.kitCls
    dsimp only
    rw [h1, E'.ty, E.sub]
    rw [if_pos (show ((some cd).isSome && some (Value.type "type") == some (Value.type "type")) = true from rfl)]
    have e1 : (Value.ref C :: above S).contains (.ref C') = false := by
      simp [h, hs]
    rw [e1, decide_eq_false h]
theorem ErrK.base (E : ErrK K mg S C fI x) (hs : PySem.W.typeIn K (.ref S) = some (.type "type")) (hc : (PySem.W.clsIn K S).isSome = true) : PySem.W.kitOne K (.ref C) (.ref S) = some true := by
  by_cases h : S = C
  · subst h
    unfold PySem.W.kitOne
    rw [if_pos (by simp)]
  · unfold PySem.W.kitOne
    rw [if_neg (fun z => h (Value.ref.inj (beq_iff_eq.mp z)).symm)]
    unfold PySem.W.kitCls
    dsimp only
    rw [hc, hs, E.sub]
    rw [if_pos (by decide)]
    simp
theorem ErrK.value (E : ErrK K mg S C fI x) : PySem.W.kitOne K (.ref C) (.type "ValueError") = some true := by
  unfold PySem.W.kitOne
  rw [if_neg (fun z => nomatch (beq_iff_eq.mp z : Value.ref C = Value.type "ValueError"))]
  unfold PySem.W.kitCls
  dsimp only
  rw [if_pos (by decide +kernel), E.sub]
  rfl
end
/-- at a stands an error of the class at C with the value v, all in all -/
def Err (H : Hp) (C a : Addr) (v : V) : Prop := ∃ d, H a = some (exo a C (some d)) ∧ H d = some (exd d [(vName, v)])
theorem Err.same {H H' : Hp} {C a : Addr} {v : V} (e : Err H C a v) (k : Same H H') : Err H' C a v := by
  obtain ⟨d, h1, h2⟩ := e
  exact ⟨d, k _ _ h1, k _ _ h2⟩
/-- the promise of an error class's __init__ -/
def spErr (K : PySem.W.Frag) (C : Addr) : Sp := fun vs H Q _ => ∃ (a : Addr) (v : V), vs = [.ref a, v] ∧ H a = some (exo a C none) ∧
  ∀ dx, H dx = none → dx ≠ a → Q .non (upd (upd H dx (exd dx [(vName, v)])) a (exo a C (some dx)))
/-- C(e), C(value=e) -/
def tErr (C : Addr) (te : TE) : TE := fun σ H Q => te σ H fun v H1 => ∀ a H', H1 a = none → Err H' C a v → Same H1 H' → Q (.ref a) H'
section
variable {X : Cx} {S C fI : Addr} {x : Str} {fd : FuncData} {k : Nat} {pins : List (Addr × Obj)} {σ : L2.St} {H : Hp} {s : Shared} {v : V} {u : Value} {Q : VK} {kw : List (Str × Value)} {us : List Value}
/-- the call of the class itself, with the value at its place or by its name -/
theorem run_err (E : ErrK X.K X.mg S C fI x) (F : FnOk X.prog X.w X.K X.mg X.base CX0 k fI fd ["self", "value"] (spErr X.K C)) (hr : Room (k + 1) X.A) (I : Inv X pins σ H s) (rv : RelV v u)
    (hz : us.length ≤ sizeLine) (hb : ∀ (a : Addr) (s : Shared), X.K.In s.heap → BindsTo s fd ⟨.ref a :: us, kw⟩ ((["self", "value"] : List Str).zip [.ref a, u])) (hkw : kw = [] ∨ us = [])
    (q : ∀ a H', H a = none → Err H' C a v → Same H H' → Q (.ref a) H') : wpAny (model X.prog X.w) X.A (call (.ref C) us kw) (EP X pins σ Q) X.xe s := by
  obtain ⟨nm, q0, N, bs, sn, sub, ab, col, dd, k0, k1, k2, k3, k5, hC⟩ := E.cls
  obtain ⟨hp, g, dr, tk, os⟩ := s
  have hn : H (hp.objs.size + 1) = none := I.hok.fresh (Nat.le_succ _)
  have kk : ∀ b o, hp.get? b = some o → ((hp.push (PySem.W.kdv_tup us)).push (PySem.HandSPX.excO C hp.objs.size)).get? b = some o := by
    intro b o e
    exact Heap.get?_push_of_some _ (Heap.get?_push_of_some _ e)
  have hget : ((hp.push (PySem.W.kdv_tup us)).push (PySem.HandSPX.excO C hp.objs.size)).get? (hp.objs.size + 1) = some (PySem.HandSPX.excO C hp.objs.size) := by
    heap_get
  have I2 := I.laid (t' := tk) (a := hp.objs.size + 1) (o := exo (hp.objs.size + 1) C none) kk (Nat.le_succ _) (exo_ok hget)
  have kIn2 := I2.kIn
  refine wpAny_call (ScK.kw_call PySem.F.excBase_ValueError (fun Y => PySem.HandSPX.refsVE_contains Y (above S) rfl) (I.kIn _ _ hC) hz (PySem.W.looks_findIn I.kIn E.iC) (fun self => PySem.W.bind_fn I.kIn self E.tI) ?_)
  have hq := F.run (X.A.under (.builtin "type.__call__" ⟨.ref C :: us, kw⟩)) X.stack _ _ ⟨.ref (hp.objs.size + 1) :: us, kw⟩ [.ref (hp.objs.size + 1), u] [.ref (hp.objs.size + 1), v]
    (fun r H2 => r = .non ∧ ∃ d, H d = none ∧ d ≠ hp.objs.size + 1 ∧ H2 = upd (upd (upd H (hp.objs.size + 1) (exo (hp.objs.size + 1) C none)) d (exd d [(vName, v)])) (hp.objs.size + 1) (exo (hp.objs.size + 1) C (some d)))
    (fun _ _ _ => False) (hr.make C us kw) (I2.env0.make C us kw) (hb _ _ kIn2) (.cons rfl (.cons rv .nil))
    ⟨_, _, rfl, upd_same, fun dx h1 h2 => ⟨rfl, dx, by rw [upd_ne h2] at h1; exact h1, h2, rfl⟩⟩
  refine codeAny_mono hq ?_
  intro r s' hq'
  match r, hq' with
  | .error e, hq' => exact hq'.elim
  | .ok .next, hq' => exact hq'.elim
  | .ok .brk, hq' => exact hq'.elim
  | .ok .cont, hq' => exact hq'.elim
  | .ok (.ret u'), hq' =>
    obtain ⟨r', H2, J, rr, e0, d, hd, ne, e2⟩ := I2.after hq'
    subst e0
    subst e2
    refine ⟨rr, .ref (hp.objs.size + 1), _, J, rfl, q _ _ hn ⟨d, upd_same, ?_⟩ fun b o e => ?_⟩
    · rw [upd_ne ne, upd_same]
    · have nb := ne_of_none e hn
      rw [upd_ne nb, upd_ne (ne_of_none e hd), upd_ne nb]
      exact e
end
end Sc

namespace Sc
open PySem L2 PySem.Spec PyProof.Rows
/-- an error class with the promise of its creation -/
structure ErrF (P : Program) (w : World) (K : PySem.W.Frag) (mg : Str → Option Value) (base : Heap) (S C fI : Addr) (fd : FuncData) (x : Str) : Prop where
  e : ErrK K mg S C fI x
  ok : FnOk P w K mg base CX0 1 fI fd ["self", "value"] (spErr K C)
  bP : ∀ (a : Addr) (u : Value) (s : Shared), K.In s.heap → BindsTo s fd ⟨[.ref a, u], []⟩ ((["self", "value"] : List Str).zip [.ref a, u])
  bK : ∀ (a : Addr) (u : Value) (s : Shared), K.In s.heap → BindsTo s fd ⟨[.ref a], [(vName, u)]⟩ ((["self", "value"] : List Str).zip [.ref a, u])
/-- behind the one argument -/
def aft (C : Addr) (Q : VK) : List V → Hp → Prop := fun vs H1 => match vs with
  | [v] => ∀ a H', H1 a = none → Err H' C a v → Same H1 H' → Q (.ref a) H'
  | _ => False
theorem aft_one {C : Addr} {Q : VK} {vs : List V} {us : List Value} {H1 : Hp} (r : Vals vs us) (q : aft C Q vs H1) :
    ∃ v u, vs = [v] ∧ us = [u] ∧ RelV v u ∧ ∀ a H', H1 a = none → Err H' C a v → Same H1 H' → Q (.ref a) H' := by
  cases r with
  | nil => exact q.elim
  | cons a b =>
    cases b with
    | nil => exact ⟨_, _, rfl, rfl, a, q⟩
    | cons _ _ => exact q.elim
section
variable {X : Cx} {S C fI : Addr} {x : Str} {fd : FuncData} {e : Expr} {te : TE} {p pos kpos : Pos}
/-- C(e) -/
theorem pe_errP (E : ErrF X.prog X.w X.K X.mg X.base S C fI fd x) (hr : Room 2 X.A) (ha : PE X e te) (hg : Gl X x := by rfl) (hdb : (x == ("__debug__" : Str)) = false := by decide)
    (he : starEach [e] X.env = (false, eval e X.env) :: starEach [] X.env := by rfl) (hpl : (backTo pos (starEach [] X.env)).any (·.1) = false := by rfl) :
    PE X (.Call (.Name x p) [e] [] pos) (tErr C te) := by
  constructor
  intro pins s σ H Q I h
  refine wpAny_Call_Name_kw (ld_glob I hg E.e.gC ?_ hdb)
  refine PySem.W.callWith_K (h₀ := X.base) I.ok.mod.kin E.e.kC (thn ((pa_cons ha pa_nil he).run pos pins s σ H (aft C Q) I h) ?_) he hpl
  intro us s1 hh
  obtain ⟨vs, H1, I1, r1, q⟩ := hh
  obtain ⟨v, u, rfl, rfl, ru, q⟩ := aft_one r1 q
  refine ⟨I1.kIn, ?_⟩
  exact run_err (kw := []) E.e E.ok hr I1 ru (by show 1 ≤ sizeLine; decide) (fun a s X => E.bP a u s X) (.inl rfl) q
/-- C(value=e) -/
theorem pe_errK (E : ErrF X.prog X.w X.K X.mg X.base S C fI fd x) (hr : Room 2 X.A) (ha : PE X e te) (hg : Gl X x := by rfl) (hdb : (x == ("__debug__" : Str)) = false := by decide)
    (hall : (backToKw pos (keywordEach [⟨some vName, e, kpos⟩] X.env)).all (·.1.isSome) = true := by rfl) (hks : (backToKw pos (keywordEach [⟨some vName, e, kpos⟩] X.env)).filterMap (·.1) = [vName] := by rfl)
    (hpl : ((backTo pos (starEach [] X.env)).any (·.1) || (backToKw pos (keywordEach [⟨some vName, e, kpos⟩] X.env)).any (·.1.isNone)) = false := by rfl) :
    PE X (.Call (.Name x p) [] [⟨some vName, e, kpos⟩] pos) (tErr C te) := by
  constructor
  intro pins s σ H Q I h
  refine wpAny_Call_Name_kw (ld_glob I hg E.e.gC ?_ hdb)
  refine PySem.W.callWith_KW0 (h₀ := X.base) I.ok.mod.kin E.e.kC hall ?_ hpl
  refine thn ((pk_cons (nm := some vName) (kpos := kpos) ha pk_nil).run pos pins s σ H (aft C Q) I h) ?_
  intro us s1 hh
  obtain ⟨vs, H1, I1, r1, q⟩ := hh
  obtain ⟨v, u, rfl, rfl, ru, q⟩ := aft_one r1 q
  refine ⟨I1.kIn, ?_⟩
  rw [hks]
  exact run_err (us := []) (kw := [(vName, u)]) E.e E.ok hr I1 ru (Nat.zero_le _) (fun a s X => E.bK a u s X) (.inr rfl) q
/-- isinstance(e, c), e such an error -/
theorem call_isErr (T : ErrK X.K X.mg S C fI x) (D : ClsD X.K) : CallR X (.builtin "isinstance") (fun xs H Q => ∃ (a : Addr) (v c : V) (cv : Value) (b : Bool), xs = [.ref a, c] ∧ Err H C a v ∧ (∀ u, RelV c u → u = cv) ∧ PySem.W.kitOne X.K (.ref C) cv = some b ∧ Q (.bl b) H) := by
  intro pins s σ H xs us Q I r h
  obtain ⟨a, v, c, cv, b, rfl, ⟨d, ea, ed⟩, hc, e, q⟩ := h
  cases r with
  | cons rx rr =>
    cases rr with
    | cons rt rr =>
      cases rr
      cases rx
      have ec := hc _ rt
      subst ec
      obtain ⟨t1, ho⟩ := exo_at I.hok ea
      obtain ⟨mA, ⟨od, es, ep, hd, hrest⟩, _⟩ := exd_at I.hok ed
      have J : PySem.W.InstAt s.heap a { cls := .ref C, dict := some d, data := .fields #[.ref t1, .none, .none, .none, .bool false, .none] } C (some od) := ⟨ho, rfl, rfl, hd⟩
      obtain ⟨cd, hcd, _⟩ := T.clsIn
      exact PySem.W.kia_one (PySem.W.kitx_exc (by rw [hcd]; rfl) T.ga T.gg (T.sub _) T.ha D.hn D.ht (T.mro _)) I.kIn J e (fun z => nomatch z) fun tk => ⟨.bl b, H, I.kept (t' := tk) fun _ _ z => z, rfl, q⟩
/-- e.value -/
theorem pe_errV (T : ErrK X.K X.mg S C fI x) (ha : PE X e te) (hb : attributeBase e vName X.env (eval e X.env) = eval e X.env := by rfl) :
    PE X (.Attribute e vName pos) (fun σ H Q => te σ H fun y H1 => ∃ (a : Addr) (v : V), y = .ref a ∧ Err H1 C a v ∧ Q v H1) := by
  constructor
  intro pins s σ H Q I h
  refine attr_of hb (thn (ha.run pins s σ H _ I h) ?_)
  intro u s1 hh
  obtain ⟨y, H1, I1, ry, a, v, rfl, ⟨d, ea, ed⟩, q⟩ := hh
  cases ry
  obtain ⟨t1, ho⟩ := exo_at I1.hok ea
  obtain ⟨mA, hns, hr⟩ := exd_at I1.hok ed
  obtain ⟨od, hod, hl⟩ := lookIn_ns hns
  have l : List.lookup vName [(vName, v)] = some v := by
    simp [List.lookup]
  obtain ⟨u, hu, ru⟩ := RelO.some_of (v := v) (o := mA vName) (by rw [← l]; exact hr vName)
  have J : PySem.W.InstAt s1.heap a { cls := .ref C, dict := some d, data := .fields #[.ref t1, .none, .none, .none, .bool false, .none] } C (some od) := ⟨ho, rfl, rfl, hod⟩
  exact PySem.HandSPX.exc_get I1.kIn J T.ga T.gg (T.sub _) (PySem.W.findObj_own T.hd T.noV rfl (by rw [hl, hu])) (handed_of ru) ⟨v, H1, I1.tok _, ru, q⟩
end
end Sc

namespace Sc
open PySem L2 PySem.Spec PyProof.Rows
/-! ### an error class's own creation -/
abbrev eB (q1 q2 q3 q4 : Pos) : List Stmt := [.Assign [.Attribute (.Name "self" q1) "value" q2] (.Name "value" q3) q4]
abbrev eS : Scope := { kind := .function, names := [(Str.ofString "self", .local), (Str.ofString "value", .local)], isGenerator := false, isCoroutine := false, more := [] }
theorem scE : FnScope ["self", "value"] ["self", "value"] eS := ⟨rfl, rfl, rfl, by decide +kernel, rfl, by decide +kernel, by decide +kernel⟩
section
variable {P : Program} {w : World} {K : PySem.W.Frag} {mg : Str → Option Value} {base : Heap} {S C fI : Addr} {fd : FuncData} {x qual : Str} {st : Stmt} {q1 q2 q3 q4 : Pos}
theorem ok_err (F : Fun K "__init__" qual st fI fd) (E : ErrK K mg S C fI x) (hB : defBody st = eB q1 q2 q3 q4) (hS : defScope st = eS) : FnOk P w K mg base CX0 1 fI fd ["self", "value"] (spErr K C) := by
  have sc : FnScope ["self", "value"] ["self", "value"] (defScope st) := by rw [hS]; exact scE
  refine F.ok sc (fun vs H Q E' h => ?_) (fun cdv A outer s H vs Q E' hr h => ?_)
  · obtain ⟨a, v, rfl, _⟩ := h
    rfl
  · obtain ⟨a, v, rfl, ha, q⟩ := h
    rw [hB, hS]
    refine ⟨_, pss_one (ps_ost (pv 0) (pv 1)), ?_⟩
    refine ⟨_, rfl, _, rfl, a, C, rfl, E.oex, E.noV, .inl ⟨ha, fun dx h1 h2 => ?_⟩⟩
    exact q dx h1 h2
end
end Sc

namespace Sc
open PySem L2 PySem.Spec PyProof.Rows
abbrev sClasses : Stmt := top 34
abbrev sMade : Stmt := top 35
abbrev sNamed : Stmt := top 36
def errNames : List Str := ["BadRelease", "Doubled", "Unnamed", "RingOfNeeds", "TooLarge", "TooMany", "BadProgram", "BadWords", "NoProgram", "NoSet", "NoStep", "NoOrder", "Failed", "Endless", "BadMoment", "BadChoice", "BadStop", "NotLater", "OtherNames", "NotKept", "Busy", "NoCell", "NoWord", "NotLet", "Idle", "BadText", "BadLine"]
def nameOf (i : Nat) : Str := errNames.getD i (Str.ofString "")
/-- all 27 error classes, their base at S -/
structure All (P : Program) (w : World) (K : PySem.W.Frag) (mg : Str → Option Value) (base : Heap) (S : Addr) (C fI : Nat → Addr) (fd : Nat → FuncData) : Prop where
  err : ∀ i, i < 27 → ErrF P w K mg base S (C i) (fI i) (fd i) (nameOf i)
  ne : ∀ i, i < 27 → C i ≠ S
  inj : ∀ i j, i < 27 → j < 27 → C i = C j → i = j
  gS : mg "ScriptError" = some (.ref S)
  tS : PySem.W.typeIn K (.ref S) = some (.type "type")
  cS : (PySem.W.clsIn K S).isSome = true
  D : ClsD K
  isi : mg "isinstance" = none
  val : mg "ValueError" = none
theorem seq_go {t u : TS} {D : Ends} {σ : L2.St} {H : Hp} (h : t { D with nx := u D } σ H) : tSeq t u D σ H := h
/-! ### _law_classes -/
/-- isinstance(error, the class at Cj) -/
def rIsE (K : PySem.W.Frag) (Ci : Addr) : List V → Hp → VK → Prop := fun xs H Q => ∃ (a : Addr) (v c : V) (cv : Value) (b : Bool), xs = [.ref a, c] ∧ Err H Ci a v ∧ (∀ u, RelV c u → u = cv) ∧ PySem.W.kitOne K (.ref Ci) cv = some b ∧ Q (.bl b) H
abbrev tIs (K : PySem.W.Frag) (Ci Cj : Addr) : TE := tCB (rIsE K Ci) (tCons (tVar 0) (tCons (tC (.ref Cj)) tNil))
theorem same_new {H : Hp} {p : Addr} {o : HO} (h : H p = none) : Same H (upd H p o) := fun b u e => by
  rw [upd_ne (ne_of_none e h)]
  exact e
/-- what is told of an error of the i-th class -/
def told (C : Nat → Addr) (i n : Nat) : List V := (List.range n).map fun j => V.bl (decide (C j = C i))
theorem told_len (C : Nat → Addr) (i n : Nat) : (told C i n).length = n := by
  unfold told
  rw [List.length_map, List.length_range]
theorem told_add (C : Nat → Addr) (i n : Nat) : told C i n ++ [V.bl (decide (C n = C i)), V.bl (decide (C (n + 1) = C i)), V.bl (decide (C (n + 2) = C i))] = told C i (n + 3) := by
  unfold told
  rw [List.range_succ, List.range_succ, List.range_succ]
  simp
section
variable {P : Program} {w : World} {K : PySem.W.Frag} {mg : Str → Option Value} {base : Heap} {S : Addr} {C fI : Nat → Addr} {fd : Nat → FuncData} {H : Hp} {a : Addr} {v : V} {σ : L2.St} {i : Nat}
theorem is_one (A : All P w K mg base S C fI fd) (hi : i < 27) {j : Nat} (hj : j < 27) (hE : Err H (C i) a v) (hs : σ[0]? = some (some (.ref a))) {Q : VK} (q : Q (.bl (decide (C j = C i))) H) : tIs K (C i) (C j) σ H Q :=
  ⟨_, hs, a, v, _, _, _, rfl, hE, fun _ r => r, (A.err i hi).e.one (A.err j hj).e (A.ne j hj), q⟩
theorem is_three (A : All P w K mg base S C fI fd) (hi : i < 27) {j : Nat} (hj : j + 2 < 27) (hE : Err H (C i) a v) (hs : σ[0]? = some (some (.ref a))) {Q : VK}
    (q : ∀ p, H p = none → Q (.ref p) (upd H p (.lst [V.bl (decide (C j = C i)), V.bl (decide (C (j + 1) = C i)), V.bl (decide (C (j + 2) = C i))]))) :
    tLst (tCons (tIs K (C i) (C j)) (tCons (tIs K (C i) (C (j + 1))) (tCons (tIs K (C i) (C (j + 2))) tNil))) σ H Q := by
  refine is_one A hi (by omega) hE hs (is_one A hi (by omega) hE hs (is_one A hi (by omega) hE hs ⟨by show 3 ≤ sizeLine; decide, fun p hp => q p hp⟩))
theorem is_first (A : All P w K mg base S C fI fd) (hi : i < 27) {D : Ends} (hE : Err H (C i) a v)
    (q : ∀ p, H p = none → D.nx [some (.ref a), some (.ref p)] (upd H p (.lst (told C i 3)))) :
    tAsg (tLst (tCons (tIs K (C i) (C 0)) (tCons (tIs K (C i) (C 1)) (tCons (tIs K (C i) (C 2)) tNil)))) (gName 1) D [some (.ref a), none] H :=
  is_three (σ := [some (.ref a), none]) (j := 0) A hi (by decide) hE rfl fun p hp => q p hp
/-- found = found + [isinstance(..), isinstance(..), isinstance(..)] -/
theorem is_more (A : All P w K mg base S C fI fd) (hi : i < 27) {j : Nat} (hj : j + 2 < 27) {p : Addr} {D : Ends} (hE : Err H (C i) a v) (hp : H p = some (.lst (told C i j)))
    (q : ∀ p' H', H' p' = some (.lst (told C i (j + 3))) → Same H H' → D.nx [some (.ref a), some (.ref p')] H') :
    tAsg (tOp rCat (tVar 1) (tLst (tCons (tIs K (C i) (C j)) (tCons (tIs K (C i) (C (j + 1))) (tCons (tIs K (C i) (C (j + 2))) tNil))))) (gName 1) D [some (.ref a), some (.ref p)] H := by
  refine ⟨_, rfl, is_three A hi hj hE rfl fun p2 h2 => ?_⟩
  have s1 := same_new (o := .lst [V.bl (decide (C j = C i)), V.bl (decide (C (j + 1) = C i)), V.bl (decide (C (j + 2) = C i))]) h2
  refine ⟨p, p2, _, _, rfl, rfl, s1 _ _ hp, upd_same, ?_, fun p3 h3 => ?_⟩
  · rw [told_len]
    show j + 3 ≤ sizeLine
    rw [sizeLine_eq]
    omega
  · rw [told_add]
    exact q p3 _ upd_same (s1.trans (same_new h3))
def spClasses (C : Nat → Addr) : Sp := fun vs H Q _ => ∃ (a : Addr) (v : V) (i : Nat), vs = [.ref a] ∧ i < 27 ∧ Err H (C i) a v ∧ ∀ p H', H' p = some (.lst (told C i 27)) → Same H H' → Q (.ref p) H'
theorem scClasses : FnScope ["_law_error", "_law_found"] ["_law_error"] (defScope sClasses) := ⟨rfl, rfl, rfl, by decide +kernel, rfl, by decide +kernel, by decide +kernel⟩

/-- the reading: n rows more, from the j-th class on -/
def tRows (K : PySem.W.Frag) (C : Nat → Addr) (i : Nat) : Nat → Nat → TS
  | 0, _ => tRet (tVar 1)
  | n + 1, j => tSeq (tAsg (tOp rCat (tVar 1) (tLst (tCons (tIs K (C i) (C j)) (tCons (tIs K (C i) (C (j + 1))) (tCons (tIs K (C i) (C (j + 2))) tNil))))) (gName 1)) (tRows K C i n (j + 3))
def tClasses (K : PySem.W.Frag) (C : Nat → Addr) (i : Nat) : TS :=
  tSeq (tAsg (tLst (tCons (tIs K (C i) (C 0)) (tCons (tIs K (C i) (C 1)) (tCons (tIs K (C i) (C 2)) tNil)))) (gName 1)) (tRows K C i 8 3)
theorem rows_run (A : All P w K mg base S C fI fd) (hi : i < 27) {D : Ends} {H0 : Hp} : ∀ (n j : Nat) (H : Hp) (p : Addr), j + 3 * n = 27 → Err H (C i) a v → H p = some (.lst (told C i j)) → Same H0 H →
    (∀ p H', H' p = some (.lst (told C i 27)) → Same H0 H' → D.rt (.ref p) H') → tRows K C i n j D [some (.ref a), some (.ref p)] H
  | 0, j, H, p, hj, hE, hp, k, q => by
    have e : j = 27 := by omega
    subst e
    exact ⟨_, rfl, q p H hp k⟩
  | n + 1, j, H, p, hj, hE, hp, k, q => by
    refine seq_go (is_more A hi (by omega) hE hp fun p' H' h' s' => ?_)
    exact rows_run A hi n (j + 3) H' p' (by omega) (hE.same s') h' (k.trans s') q
theorem classes_run (A : All P w K mg base S C fI fd) (hi : i < 27) {D : Ends} (hE : Err H (C i) a v) (q : ∀ p H', H' p = some (.lst (told C i 27)) → Same H H' → D.rt (.ref p) H') :
    tClasses K C i D [some (.ref a), none] H := by
  refine seq_go (is_first A hi hE fun p hp => ?_)
  exact rows_run A hi 8 3 _ p (by decide) (hE.same (same_new hp)) upd_same (same_new hp) q
theorem ok_classes {f : Addr} {fd0 : FuncData} (F : Fun K "_law_classes" "_law_classes" sClasses f fd0) (A : All P w K mg base S C fI fd) : FnOk P w K mg base CX0 1 f fd0 ["_law_error"] (spClasses C) := by
  refine F.ok scClasses (fun vs H Q E h => ?_) (fun cdv A' outer s H vs Q E hr h => ?_)
  · obtain ⟨a, v, i, rfl, _⟩ := h
    rfl
  · obtain ⟨a, v, i, rfl, hi, hE, q⟩ := h
    refine ⟨tClasses K C i, ?_, classes_run A hi hE q⟩
    exact pss_cons (ps_set (i := 1) scClasses.nd rfl (Or.inl rfl) (pe_lst (pa_cons (pe_callB (call_isErr (A.err i hi).e A.D) (by rfl) A.isi (by decide +kernel) (pa_cons (pv 0) (pa_cons (pe_glob (v := .ref (C 0)) (by rfl) (A.err 0 (by decide)).e.gC rfl) pa_nil))) (pa_cons (pe_callB (call_isErr (A.err i hi).e A.D) (by rfl) A.isi (by decide +kernel) (pa_cons (pv 0) (pa_cons (pe_glob (v := .ref (C 1)) (by rfl) (A.err 1 (by decide)).e.gC rfl) pa_nil))) (pa_cons (pe_callB (call_isErr (A.err i hi).e A.D) (by rfl) A.isi (by decide +kernel) (pa_cons (pv 0) (pa_cons (pe_glob (v := .ref (C 2)) (by rfl) (A.err 2 (by decide)).e.gC rfl) pa_nil))) pa_nil)))))
      (pss_cons (ps_set (i := 1) scClasses.nd rfl (Or.inl rfl) (pe_op op_cat (pv 1) (pe_lst (pa_cons (pe_callB (call_isErr (A.err i hi).e A.D) (by rfl) A.isi (by decide +kernel) (pa_cons (pv 0) (pa_cons (pe_glob (v := .ref (C 3)) (by rfl) (A.err 3 (by decide)).e.gC rfl) pa_nil))) (pa_cons (pe_callB (call_isErr (A.err i hi).e A.D) (by rfl) A.isi (by decide +kernel) (pa_cons (pv 0) (pa_cons (pe_glob (v := .ref (C 4)) (by rfl) (A.err 4 (by decide)).e.gC rfl) pa_nil))) (pa_cons (pe_callB (call_isErr (A.err i hi).e A.D) (by rfl) A.isi (by decide +kernel) (pa_cons (pv 0) (pa_cons (pe_glob (v := .ref (C 5)) (by rfl) (A.err 5 (by decide)).e.gC rfl) pa_nil))) pa_nil))))))
      (pss_cons (ps_set (i := 1) scClasses.nd rfl (Or.inl rfl) (pe_op op_cat (pv 1) (pe_lst (pa_cons (pe_callB (call_isErr (A.err i hi).e A.D) (by rfl) A.isi (by decide +kernel) (pa_cons (pv 0) (pa_cons (pe_glob (v := .ref (C 6)) (by rfl) (A.err 6 (by decide)).e.gC rfl) pa_nil))) (pa_cons (pe_callB (call_isErr (A.err i hi).e A.D) (by rfl) A.isi (by decide +kernel) (pa_cons (pv 0) (pa_cons (pe_glob (v := .ref (C 7)) (by rfl) (A.err 7 (by decide)).e.gC rfl) pa_nil))) (pa_cons (pe_callB (call_isErr (A.err i hi).e A.D) (by rfl) A.isi (by decide +kernel) (pa_cons (pv 0) (pa_cons (pe_glob (v := .ref (C 8)) (by rfl) (A.err 8 (by decide)).e.gC rfl) pa_nil))) pa_nil))))))
      (pss_cons (ps_set (i := 1) scClasses.nd rfl (Or.inl rfl) (pe_op op_cat (pv 1) (pe_lst (pa_cons (pe_callB (call_isErr (A.err i hi).e A.D) (by rfl) A.isi (by decide +kernel) (pa_cons (pv 0) (pa_cons (pe_glob (v := .ref (C 9)) (by rfl) (A.err 9 (by decide)).e.gC rfl) pa_nil))) (pa_cons (pe_callB (call_isErr (A.err i hi).e A.D) (by rfl) A.isi (by decide +kernel) (pa_cons (pv 0) (pa_cons (pe_glob (v := .ref (C 10)) (by rfl) (A.err 10 (by decide)).e.gC rfl) pa_nil))) (pa_cons (pe_callB (call_isErr (A.err i hi).e A.D) (by rfl) A.isi (by decide +kernel) (pa_cons (pv 0) (pa_cons (pe_glob (v := .ref (C 11)) (by rfl) (A.err 11 (by decide)).e.gC rfl) pa_nil))) pa_nil))))))
      (pss_cons (ps_set (i := 1) scClasses.nd rfl (Or.inl rfl) (pe_op op_cat (pv 1) (pe_lst (pa_cons (pe_callB (call_isErr (A.err i hi).e A.D) (by rfl) A.isi (by decide +kernel) (pa_cons (pv 0) (pa_cons (pe_glob (v := .ref (C 12)) (by rfl) (A.err 12 (by decide)).e.gC rfl) pa_nil))) (pa_cons (pe_callB (call_isErr (A.err i hi).e A.D) (by rfl) A.isi (by decide +kernel) (pa_cons (pv 0) (pa_cons (pe_glob (v := .ref (C 13)) (by rfl) (A.err 13 (by decide)).e.gC rfl) pa_nil))) (pa_cons (pe_callB (call_isErr (A.err i hi).e A.D) (by rfl) A.isi (by decide +kernel) (pa_cons (pv 0) (pa_cons (pe_glob (v := .ref (C 14)) (by rfl) (A.err 14 (by decide)).e.gC rfl) pa_nil))) pa_nil))))))
      (pss_cons (ps_set (i := 1) scClasses.nd rfl (Or.inl rfl) (pe_op op_cat (pv 1) (pe_lst (pa_cons (pe_callB (call_isErr (A.err i hi).e A.D) (by rfl) A.isi (by decide +kernel) (pa_cons (pv 0) (pa_cons (pe_glob (v := .ref (C 15)) (by rfl) (A.err 15 (by decide)).e.gC rfl) pa_nil))) (pa_cons (pe_callB (call_isErr (A.err i hi).e A.D) (by rfl) A.isi (by decide +kernel) (pa_cons (pv 0) (pa_cons (pe_glob (v := .ref (C 16)) (by rfl) (A.err 16 (by decide)).e.gC rfl) pa_nil))) (pa_cons (pe_callB (call_isErr (A.err i hi).e A.D) (by rfl) A.isi (by decide +kernel) (pa_cons (pv 0) (pa_cons (pe_glob (v := .ref (C 17)) (by rfl) (A.err 17 (by decide)).e.gC rfl) pa_nil))) pa_nil))))))
      (pss_cons (ps_set (i := 1) scClasses.nd rfl (Or.inl rfl) (pe_op op_cat (pv 1) (pe_lst (pa_cons (pe_callB (call_isErr (A.err i hi).e A.D) (by rfl) A.isi (by decide +kernel) (pa_cons (pv 0) (pa_cons (pe_glob (v := .ref (C 18)) (by rfl) (A.err 18 (by decide)).e.gC rfl) pa_nil))) (pa_cons (pe_callB (call_isErr (A.err i hi).e A.D) (by rfl) A.isi (by decide +kernel) (pa_cons (pv 0) (pa_cons (pe_glob (v := .ref (C 19)) (by rfl) (A.err 19 (by decide)).e.gC rfl) pa_nil))) (pa_cons (pe_callB (call_isErr (A.err i hi).e A.D) (by rfl) A.isi (by decide +kernel) (pa_cons (pv 0) (pa_cons (pe_glob (v := .ref (C 20)) (by rfl) (A.err 20 (by decide)).e.gC rfl) pa_nil))) pa_nil))))))
      (pss_cons (ps_set (i := 1) scClasses.nd rfl (Or.inl rfl) (pe_op op_cat (pv 1) (pe_lst (pa_cons (pe_callB (call_isErr (A.err i hi).e A.D) (by rfl) A.isi (by decide +kernel) (pa_cons (pv 0) (pa_cons (pe_glob (v := .ref (C 21)) (by rfl) (A.err 21 (by decide)).e.gC rfl) pa_nil))) (pa_cons (pe_callB (call_isErr (A.err i hi).e A.D) (by rfl) A.isi (by decide +kernel) (pa_cons (pv 0) (pa_cons (pe_glob (v := .ref (C 22)) (by rfl) (A.err 22 (by decide)).e.gC rfl) pa_nil))) (pa_cons (pe_callB (call_isErr (A.err i hi).e A.D) (by rfl) A.isi (by decide +kernel) (pa_cons (pv 0) (pa_cons (pe_glob (v := .ref (C 23)) (by rfl) (A.err 23 (by decide)).e.gC rfl) pa_nil))) pa_nil))))))
      (pss_cons (ps_set (i := 1) scClasses.nd rfl (Or.inl rfl) (pe_op op_cat (pv 1) (pe_lst (pa_cons (pe_callB (call_isErr (A.err i hi).e A.D) (by rfl) A.isi (by decide +kernel) (pa_cons (pv 0) (pa_cons (pe_glob (v := .ref (C 24)) (by rfl) (A.err 24 (by decide)).e.gC rfl) pa_nil))) (pa_cons (pe_callB (call_isErr (A.err i hi).e A.D) (by rfl) A.isi (by decide +kernel) (pa_cons (pv 0) (pa_cons (pe_glob (v := .ref (C 25)) (by rfl) (A.err 25 (by decide)).e.gC rfl) pa_nil))) (pa_cons (pe_callB (call_isErr (A.err i hi).e A.D) (by rfl) A.isi (by decide +kernel) (pa_cons (pv 0) (pa_cons (pe_glob (v := .ref (C 26)) (by rfl) (A.err 26 (by decide)).e.gC rfl) pa_nil))) pa_nil))))))
      (pss_one (ps_ret (pv 1)))))))))))
end
end Sc

namespace Sc
open PySem L2 PySem.Spec PyProof.Rows
/-! ### _law_made, _law_made_by_name -/
/-- at the places as stand errors of the classes from the j-th on, with the value v -/
def Row (H : Hp) (C : Nat → Addr) (v : V) : Nat → List Addr → Prop
  | _, [] => True
  | j, a :: as => Err H (C j) a v ∧ Row H C v (j + 1) as
theorem Row.same {H H' : Hp} {C : Nat → Addr} {v : V} (k : Same H H') : ∀ {j : Nat} {as : List Addr}, Row H C v j as → Row H' C v j as
  | _, [], _ => trivial
  | _, _ :: _, ⟨e, r⟩ => ⟨e.same k, r.same k⟩
theorem Row.append {H : Hp} {C : Nat → Addr} {v : V} : ∀ {j : Nat} {as bs : List Addr}, Row H C v j as → Row H C v (j + as.length) bs → Row H C v j (as ++ bs)
  | _, [], _, _, r => r
  | j, a :: as, bs, ⟨e, r⟩, r2 => ⟨e, Row.append r (by rw [List.length_cons, show j + (as.length + 1) = j + 1 + as.length by omega] at r2; exact r2)⟩
theorem Row.at {H : Hp} {C : Nat → Addr} {v : V} : ∀ {j : Nat} {as : List Addr} {i : Nat} {a : Addr}, Row H C v j as → as[i]? = some a → Err H (C (j + i)) a v
  | _, [], _, _, _, h => by simp at h
  | j, b :: as, 0, a, ⟨e, _⟩, h => by
    simp at h
    subst h
    exact e
  | j, b :: as, i + 1, a, ⟨_, r⟩, h => by
    have := Row.at (i := i) (a := a) r (by simpa using h)
    rw [show j + (i + 1) = j + 1 + i by omega]
    exact this
/-- n errors in a row, from the j-th class on -/
def tErrs (C : Nat → Addr) : Nat → Nat → TA
  | 0, _ => tNil
  | n + 1, j => tCons (tErr (C j) (tVar 0)) (tErrs C n (j + 1))
theorem errs_run {C : Nat → Addr} {v : V} {σ : L2.St} (hs : σ[0]? = some (some v)) : ∀ (n j : Nat) (H : Hp) (Q : List V → Hp → Prop),
    (∀ as H', as.length = n → Row H' C v j as → Same H H' → Q (as.map V.ref) H') → tErrs C n j σ H Q
  | 0, j, H, Q, q => q [] H rfl trivial (Same.refl H)
  | n + 1, j, H, Q, q => by
    refine ⟨v, hs, fun a H1 hn e s => ?_⟩
    refine errs_run hs n (j + 1) H1 _ fun as H2 hl r s2 => ?_
    exact q (a :: as) H2 (by rw [List.length_cons, hl]) ⟨e.same s2, r⟩ (s.trans s2)
def tMades (C : Nat → Addr) : List Nat → Nat → TS
  | [], _ => tRet (tVar 1)
  | n :: r, j => tSeq (tAsg (tOp rCat (tVar 1) (tLst (tErrs C n j))) (gName 1)) (tMades C r (j + n))
def tMade (C : Nat → Addr) (n : Nat) (r : List Nat) : TS := tSeq (tAsg (tLst (tErrs C n 0)) (gName 1)) (tMades C r n)
theorem mades_run {C : Nat → Addr} {v : V} {D : Ends} {H0 : Hp} : ∀ (r : List Nat) (j : Nat) (H : Hp) (p : Addr) (as : List Addr), j + r.sum = 27 → as.length = j → Row H C v 0 as → H p = some (.lst (as.map V.ref)) → Same H0 H →
    (∀ p as H', as.length = 27 → H' p = some (.lst (as.map V.ref)) → Row H' C v 0 as → Same H0 H' → D.rt (.ref p) H') → tMades C r j D [some v, some (.ref p)] H
  | [], j, H, p, as, hj, hl, hr, hp, k, q => ⟨_, rfl, q p as H (by simp at hj; omega) hp hr k⟩
  | n :: r, j, H, p, as, hj, hl, hr, hp, k, q => by
    rw [List.sum_cons] at hj
    refine ⟨_, rfl, ?_⟩
    refine errs_run (v := v) rfl n j H _ fun bs H1 hb rb s1 => ⟨?_, fun p1 h1 => ?_⟩
    · rw [List.length_map, hb, sizeLine_eq]
      omega
    · have s2 := same_new (o := .lst (bs.map V.ref)) h1
      refine ⟨p, p1, _, _, rfl, rfl, s2 _ _ (s1 _ _ hp), upd_same, ?_, fun p2 h2 => ?_⟩
      · rw [List.length_map, List.length_map, hb, hl, sizeLine_eq]
        omega
      · have s3 := same_new (o := .lst (as.map V.ref ++ bs.map V.ref)) h2
        have s4 := (s1.trans s2).trans s3
        refine mades_run r (j + n) _ p2 (as ++ bs) (by omega) (by rw [List.length_append]; omega) (Row.append (hr.same s4) ?_) (by rw [List.map_append]; exact upd_same) (k.trans s4) q
        rw [hl, Nat.zero_add]
        exact rb.same (s2.trans s3)
theorem made_run {C : Nat → Addr} {v : V} {D : Ends} {H : Hp} (n : Nat) (r : List Nat) (hn : n + r.sum = 27)
    (q : ∀ p as H', as.length = 27 → H' p = some (.lst (as.map V.ref)) → Row H' C v 0 as → Same H H' → D.rt (.ref p) H') : tMade C n r D [some v, none] H := by
  refine errs_run (v := v) rfl n 0 H _ fun as H1 hl ra s1 => ⟨?_, fun p1 h1 => ?_⟩
  · rw [List.length_map, hl, sizeLine_eq]
    omega
  · have s2 := same_new (o := .lst (as.map V.ref)) h1
    exact mades_run r n _ p1 as hn hl (ra.same s2) upd_same (s1.trans s2) q
def spMade (C : Nat → Addr) : Sp := fun vs H Q _ => ∃ v : V, vs = [v] ∧ ∀ p as H', as.length = 27 → H' p = some (.lst (as.map V.ref)) → Row H' C v 0 as → Same H H' → Q (.ref p) H'
theorem scMade : FnScope ["_law_thing", "_law_found"] ["_law_thing"] (defScope sMade) := ⟨rfl, rfl, rfl, by decide +kernel, rfl, by decide +kernel, by decide +kernel⟩
theorem scNamed : FnScope ["_law_thing", "_law_found"] ["_law_thing"] (defScope sNamed) := ⟨rfl, rfl, rfl, by decide +kernel, rfl, by decide +kernel, by decide +kernel⟩
section
variable {P : Program} {w : World} {K : PySem.W.Frag} {mg : Str → Option Value} {base : Heap} {S : Addr} {C fI : Nat → Addr} {fd : Nat → FuncData}

theorem ok_made {f : Addr} {fd0 : FuncData} (F : Fun K "_law_made" "_law_made" sMade f fd0) (A : All P w K mg base S C fI fd) : FnOk P w K mg base CX0 3 f fd0 ["_law_thing"] (spMade C) := by
  refine F.ok scMade (fun vs H Q E h => ?_) (fun cdv A' outer s H vs Q E hr h => ?_)
  · obtain ⟨v, rfl, _⟩ := h
    rfl
  · obtain ⟨v, rfl, q⟩ := h
    refine ⟨tMade C 5 [5, 5, 5, 5, 2], ?_, made_run 5 [5, 5, 5, 5, 2] (by decide) q⟩
    exact pss_cons (ps_set (i := 1) scMade.nd rfl (Or.inl rfl) (pe_lst (pa_cons (pe_errP (A.err 0 (by decide)) hr (pv 0)) (pa_cons (pe_errP (A.err 1 (by decide)) hr (pv 0)) (pa_cons (pe_errP (A.err 2 (by decide)) hr (pv 0)) (pa_cons (pe_errP (A.err 3 (by decide)) hr (pv 0)) (pa_cons (pe_errP (A.err 4 (by decide)) hr (pv 0)) pa_nil)))))))
      (pss_cons (ps_set (i := 1) scMade.nd rfl (Or.inl rfl) (pe_op op_cat (pv 1) (pe_lst (pa_cons (pe_errP (A.err 5 (by decide)) hr (pv 0)) (pa_cons (pe_errP (A.err 6 (by decide)) hr (pv 0)) (pa_cons (pe_errP (A.err 7 (by decide)) hr (pv 0)) (pa_cons (pe_errP (A.err 8 (by decide)) hr (pv 0)) (pa_cons (pe_errP (A.err 9 (by decide)) hr (pv 0)) pa_nil))))))))
      (pss_cons (ps_set (i := 1) scMade.nd rfl (Or.inl rfl) (pe_op op_cat (pv 1) (pe_lst (pa_cons (pe_errP (A.err 10 (by decide)) hr (pv 0)) (pa_cons (pe_errP (A.err 11 (by decide)) hr (pv 0)) (pa_cons (pe_errP (A.err 12 (by decide)) hr (pv 0)) (pa_cons (pe_errP (A.err 13 (by decide)) hr (pv 0)) (pa_cons (pe_errP (A.err 14 (by decide)) hr (pv 0)) pa_nil))))))))
      (pss_cons (ps_set (i := 1) scMade.nd rfl (Or.inl rfl) (pe_op op_cat (pv 1) (pe_lst (pa_cons (pe_errP (A.err 15 (by decide)) hr (pv 0)) (pa_cons (pe_errP (A.err 16 (by decide)) hr (pv 0)) (pa_cons (pe_errP (A.err 17 (by decide)) hr (pv 0)) (pa_cons (pe_errP (A.err 18 (by decide)) hr (pv 0)) (pa_cons (pe_errP (A.err 19 (by decide)) hr (pv 0)) pa_nil))))))))
      (pss_cons (ps_set (i := 1) scMade.nd rfl (Or.inl rfl) (pe_op op_cat (pv 1) (pe_lst (pa_cons (pe_errP (A.err 20 (by decide)) hr (pv 0)) (pa_cons (pe_errP (A.err 21 (by decide)) hr (pv 0)) (pa_cons (pe_errP (A.err 22 (by decide)) hr (pv 0)) (pa_cons (pe_errP (A.err 23 (by decide)) hr (pv 0)) (pa_cons (pe_errP (A.err 24 (by decide)) hr (pv 0)) pa_nil))))))))
      (pss_cons (ps_set (i := 1) scMade.nd rfl (Or.inl rfl) (pe_op op_cat (pv 1) (pe_lst (pa_cons (pe_errP (A.err 25 (by decide)) hr (pv 0)) (pa_cons (pe_errP (A.err 26 (by decide)) hr (pv 0)) pa_nil)))))
      (pss_one (ps_ret (pv 1))))))))
theorem ok_named {f : Addr} {fd0 : FuncData} (F : Fun K "_law_made_by_name" "_law_made_by_name" sNamed f fd0) (A : All P w K mg base S C fI fd) : FnOk P w K mg base CX0 3 f fd0 ["_law_thing"] (spMade C) := by
  refine F.ok scNamed (fun vs H Q E h => ?_) (fun cdv A' outer s H vs Q E hr h => ?_)
  · obtain ⟨v, rfl, _⟩ := h
    rfl
  · obtain ⟨v, rfl, q⟩ := h
    refine ⟨tMade C 4 [4, 4, 4, 4, 4, 3], ?_, made_run 4 [4, 4, 4, 4, 4, 3] (by decide) q⟩
    exact pss_cons (ps_set (i := 1) scNamed.nd rfl (Or.inl rfl) (pe_lst (pa_cons (pe_errK (A.err 0 (by decide)) hr (pv 0)) (pa_cons (pe_errK (A.err 1 (by decide)) hr (pv 0)) (pa_cons (pe_errK (A.err 2 (by decide)) hr (pv 0)) (pa_cons (pe_errK (A.err 3 (by decide)) hr (pv 0)) pa_nil))))))
      (pss_cons (ps_set (i := 1) scNamed.nd rfl (Or.inl rfl) (pe_op op_cat (pv 1) (pe_lst (pa_cons (pe_errK (A.err 4 (by decide)) hr (pv 0)) (pa_cons (pe_errK (A.err 5 (by decide)) hr (pv 0)) (pa_cons (pe_errK (A.err 6 (by decide)) hr (pv 0)) (pa_cons (pe_errK (A.err 7 (by decide)) hr (pv 0)) pa_nil)))))))
      (pss_cons (ps_set (i := 1) scNamed.nd rfl (Or.inl rfl) (pe_op op_cat (pv 1) (pe_lst (pa_cons (pe_errK (A.err 8 (by decide)) hr (pv 0)) (pa_cons (pe_errK (A.err 9 (by decide)) hr (pv 0)) (pa_cons (pe_errK (A.err 10 (by decide)) hr (pv 0)) (pa_cons (pe_errK (A.err 11 (by decide)) hr (pv 0)) pa_nil)))))))
      (pss_cons (ps_set (i := 1) scNamed.nd rfl (Or.inl rfl) (pe_op op_cat (pv 1) (pe_lst (pa_cons (pe_errK (A.err 12 (by decide)) hr (pv 0)) (pa_cons (pe_errK (A.err 13 (by decide)) hr (pv 0)) (pa_cons (pe_errK (A.err 14 (by decide)) hr (pv 0)) (pa_cons (pe_errK (A.err 15 (by decide)) hr (pv 0)) pa_nil)))))))
      (pss_cons (ps_set (i := 1) scNamed.nd rfl (Or.inl rfl) (pe_op op_cat (pv 1) (pe_lst (pa_cons (pe_errK (A.err 16 (by decide)) hr (pv 0)) (pa_cons (pe_errK (A.err 17 (by decide)) hr (pv 0)) (pa_cons (pe_errK (A.err 18 (by decide)) hr (pv 0)) (pa_cons (pe_errK (A.err 19 (by decide)) hr (pv 0)) pa_nil)))))))
      (pss_cons (ps_set (i := 1) scNamed.nd rfl (Or.inl rfl) (pe_op op_cat (pv 1) (pe_lst (pa_cons (pe_errK (A.err 20 (by decide)) hr (pv 0)) (pa_cons (pe_errK (A.err 21 (by decide)) hr (pv 0)) (pa_cons (pe_errK (A.err 22 (by decide)) hr (pv 0)) (pa_cons (pe_errK (A.err 23 (by decide)) hr (pv 0)) pa_nil)))))))
      (pss_cons (ps_set (i := 1) scNamed.nd rfl (Or.inl rfl) (pe_op op_cat (pv 1) (pe_lst (pa_cons (pe_errK (A.err 24 (by decide)) hr (pv 0)) (pa_cons (pe_errK (A.err 25 (by decide)) hr (pv 0)) (pa_cons (pe_errK (A.err 26 (by decide)) hr (pv 0)) pa_nil))))))
      (pss_one (ps_ret (pv 1)))))))))
end
end Sc

namespace Sc
open PySem L2 PySem.Spec PyProof.Rows
abbrev sOdd : Stmt := top 33
theorem PotAt.three {H : Hp} {p : Addr} {N : Nat} (h : PotAt H p N) : Three H p := by
  obtain ⟨o, m, c, e, _⟩ := h
  exact ⟨_, _, _, e⟩
theorem PotAt.mono {H : Hp} {p : Addr} {N M : Nat} (h : PotAt H p N) (l : N ≤ M) : PotAt H p M := by
  obtain ⟨o, m, c, e, a, b, d, f, g⟩ := h
  exact ⟨o, m, c, e, a, b, d, f, by omega⟩
theorem PotAt.same {H H' : Hp} {p : Addr} {N : Nat} (h : PotAt H p N) (k : Same H H') : PotAt H' p N := by
  obtain ⟨o, m, c, e, r⟩ := h
  exact ⟨o, m, c, k _ _ e, r⟩
theorem SameBut.trans {p : Addr} {H H1 H2 : Hp} (a : SameBut p H H1) (b : SameBut p H1 H2) : SameBut p H H2 := fun c o e h => b c o (a c o e h) h
theorem same_but {p : Addr} {H H' : Hp} (a : Same H H') : SameBut p H H' := fun c o e _ => a c o e
theorem SameBut.refl (p : Addr) (H : Hp) : SameBut p H H := fun _ _ e _ => e
theorem SameBut.seq {K : PySem.W.Frag} {p l : Addr} {H H' : Hp} {xs : List V} (k : SameBut p H H') (hl : l ≠ p) (h : SqL K H l xs) : SqL K H' l xs := by
  rcases h with (h | ⟨o, h⟩) | h
  · exact .inl (.inl (k _ _ h hl))
  · exact .inl (.inr ⟨o, k _ _ h hl⟩)
  · exact .inr h
/-- made data, n wraps deep at most -/
def Thing (H : Hp) (x : V) (n : Nat) : Prop := ∃ d, DatAt H x d ∧ Good d n
theorem Thing.mono {H : Hp} {x : V} {n m : Nat} (h : Thing H x n) (l : n ≤ m) : Thing H x m := by
  obtain ⟨d, a, b⟩ := h
  exact ⟨d, a, good_mono b l⟩
theorem Thing.same {H H' : Hp} {x : V} {n : Nat} (h : Thing H x n) (k : Same H H') : Thing H' x n := by
  obtain ⟨d, a, b⟩ := h
  exact ⟨d, a.same k, b⟩
theorem Thing.keep {H H' : Hp} {p : Addr} {x : V} {n : Nat} (h : Thing H x n) (t : Three H p) (k : SameBut p H H') : Thing H' x n := by
  obtain ⟨d, a, b⟩ := h
  exact ⟨d, a.keep t k, b⟩
/-! ### readings, piece by piece -/
section
variable {σ : L2.St} {H : Hp} {te : TE} {tr t : TA} {Q : VK} {QA : List V → Hp → Prop} {v : V}
theorem unit_go (h : ∀ p H', H p = none → H' p = some (.tup []) → Same H H' → Q (.ref p) H') : tTup tNil σ H Q := ⟨Nat.zero_le _, fun p hp => h p _ hp upd_same (same_new hp)⟩
theorem cons_go (h : te σ H fun x H1 => tr σ H1 fun xs H2 => QA (x :: xs) H2) : tCons te tr σ H QA := h
theorem nil_go (h : QA [] H) : tNil σ H QA := h
theorem c_go (h : Q v H) : tC v σ H Q := h
def TupEnd (Q : VK) (xs : List V) (H1 : Hp) : Prop := xs.length ≤ sizeLine ∧ ∀ p, H1 p = none → Q (.ref p) (upd H1 p (.tup xs))
theorem tup_go (h : t σ H (TupEnd Q)) : tTup t σ H Q := h
theorem tup_end {xs : List V} (hz : xs.length ≤ 1000) (h : ∀ p H', H' p = some (.tup xs) → Same H H' → Q (.ref p) H') : TupEnd Q xs H :=
  ⟨Nat.le_trans hz (by decide), fun p hp => h p _ upd_same (same_new hp)⟩
def LstEnd (Q : VK) (xs : List V) (H1 : Hp) : Prop := xs.length ≤ sizeLine ∧ ∀ p, H1 p = none → Q (.ref p) (upd H1 p (.lst xs))
theorem lst_go (h : t σ H (LstEnd Q)) : tLst t σ H Q := h
theorem lst_end {xs : List V} (hz : xs.length ≤ 1000) (h : ∀ p H', H' p = some (.lst xs) → Same H H' → Q (.ref p) H') : LstEnd Q xs H :=
  ⟨Nat.le_trans hz (by decide), fun p hp => h p _ upd_same (same_new hp)⟩
def LstBEnd (Q : VK) (xs : List V) (H1 : Hp) : Prop := xs.length ≤ sizeLine ∧ ∀ p, H1 p = none → p ≠ sysModules → Q (.ref p) (upd H1 p (.lst xs))
theorem lstB_go (h : t σ H (LstBEnd Q)) : tLstB t σ H Q := h
theorem lstB_end {xs : List V} (hz : xs.length ≤ 1000) (h : ∀ p H', p ≠ sysModules → H' p = some (.lst xs) → Same H H' → Q (.ref p) H') : LstBEnd Q xs H :=
  ⟨Nat.le_trans hz (by decide), fun p hp hs => h p _ hs upd_same (same_new hp)⟩
theorem dnew_go (h : ∀ p H', H' p = some (.dK []) → Same H H' → Q (.ref p) H') : tDNewK σ H Q := fun p hp => h p _ upd_same (same_new hp)
def DispEnd (Q : VK) (p : Addr) (k : Str) (y : V) (H2 : Hp) : Prop :=
  H2 p = some (.dK []) ∧ ∃ kvs : List (Key × V), [(V.str k, y)] = kvs.map (fun kv => (kV kv.1, kv.2)) ∧ kvs.length ≤ 15 ∧ Q (.ref p) (upd H2 p (.dK (mergeK [] kvs)))
theorem disp_go {k : Str} (h : ∀ p H1, H p = none → H1 p = some (.dK []) → Same H H1 → te σ H1 (DispEnd Q p k)) : tDisp [(tC (.str k), te)] σ H Q :=
  fun p hp => h p _ hp upd_same (same_new hp)
theorem disp_end {p : Addr} {k : Str} {y : V} {H0 : Hp} (h0 : H0 p = none) (hp : H p = some (.dK [])) (s : Same H0 H) (h : ∀ H', H' p = some (.dK [(Sum.inr k, y)]) → Same H0 H' → (∀ b o, H b = some o → b ≠ p → H' b = some o) → Q (.ref p) H') : DispEnd Q p k y H := by
  refine ⟨hp, [(Sum.inr k, y)], rfl, by simp, h _ upd_same (fun b o e => ?_) fun b o e ne => ?_⟩
  · rw [upd_ne (ne_of_none e h0)]
    exact s b o e
  · rw [upd_ne ne]
    exact e
end
/-- the first list: what may be drawn -/
def tFirst : TA :=
  tCons (tC .non) (tCons (tC (.bl true)) (tCons (tC (.bl false)) (tCons (tC (.int 0)) (tCons (tUn (rU fun i => .int (-i)) (tC (.int 1))) (tCons (tOp (rI CPow fun i j => .int (i ^ j.toNat)) (tC (.int 10)) (tC (.int 17)))
  (tCons (tC (.str "")) (tCons (tC (.str "a")) (tCons (tC (.str "a b")) (tCons (tTup tNil) (tCons (tLstB tNil) (tCons tDNewK (tCons (tTup (tCons (tC (.str "a")) (tCons (tC (.int 0)) tNil)))
  (tCons (tLstB (tCons (tTup tNil) tNil)) (tCons (tDisp [(tC (.str "a"), tTup tNil)]) (tCons (tTup (tCons (tTup tNil) (tCons (tTup tNil) tNil))) tNil)))))))))))))))
theorem good0 {d : PyData} (h1 : d.showable = true) (h2 : d.depth ≤ 4) (h3 : d.shown.length ≤ 40) : Good d 0 := ⟨h1, by omega, by omega⟩
theorem things_nil {H : Hp} : ∀ x ∈ ([] : List V), Thing H x 0 := fun x h => nomatch h
theorem things_cons {H : Hp} {x : V} {xs : List V} (a : Thing H x 0) (b : ∀ y ∈ xs, Thing H y 0) : ∀ y ∈ x :: xs, Thing H y 0 := fun y h => by
  rcases List.mem_cons.mp h with e | h
  · rw [e]
    exact a
  · exact b y h
theorem first_run {σ : L2.St} {H : Hp} {Q : List V → Hp → Prop} (q : ∀ xs H', xs.length = 16 → (∀ x ∈ xs, Thing H' x 0) → Same H H' → Q xs H') : tFirst σ H Q := by
  refine cons_go (c_go (cons_go (c_go (cons_go (c_go (cons_go (c_go (cons_go ⟨_, rfl, ?_⟩))))))))
  refine cons_go ⟨_, _, rfl, rfl, ⟨by decide, by decide, by decide⟩, ?_⟩
  refine cons_go (c_go (cons_go (c_go (cons_go (c_go ?_)))))
  refine cons_go (unit_go fun t1 H1 n1 h1 s1 => ?_)
  refine cons_go (lstB_go (nil_go (lstB_end (by simp) fun l2 H2 m2 h2 s2 => ?_)))
  refine cons_go (dnew_go fun d3 H3 h3 s3 => ?_)
  refine cons_go (tup_go (cons_go (c_go (cons_go (c_go (nil_go (tup_end (by simp) fun t4 H4 h4 s4 => ?_)))))))
  refine cons_go (lstB_go (cons_go (unit_go fun t5 H5 n5 h5 s5 => nil_go (lstB_end (by simp) fun l6 H6 m6 h6 s6 => ?_))))
  refine cons_go (disp_go fun d7 H7 n7 h7 s7 => unit_go fun t8 H8 n8 h8 s8 => disp_end n7 (s8 _ _ h7) (s7.trans s8) fun H9 h9 s9 k9 => ?_)
  refine cons_go (tup_go (cons_go (unit_go fun t10 H10 n10 h10 s10 => cons_go (unit_go fun t11 H11 n11 h11 s11 => nil_go (tup_end (by simp) fun t12 H12 h12 s12 => ?_)))))
  refine nil_go (q _ H12 rfl ?_ ?_)
  · have k9' : Same H9 H12 := (s10.trans s11).trans s12
    have k6 : Same H6 H12 := s9.trans k9'
    have k4 : Same H4 H12 := (s5.trans s6).trans k6
    have k3 : Same H3 H12 := s4.trans k4
    have k2 : Same H2 H12 := s3.trans k3
    have k1 : Same H1 H12 := s2.trans k2
    have e8 : H9 t8 = some (.tup []) := k9 _ _ h8 (ne_of h8 (s8 _ _ h7) (by intro z; cases z))
    refine things_cons ⟨_, .non, good0 (by decide +kernel) (by decide +kernel) (by decide +kernel)⟩ ?_
    refine things_cons ⟨_, .bl _, good0 (by decide +kernel) (by decide +kernel) (by decide +kernel)⟩ ?_
    refine things_cons ⟨_, .bl _, good0 (by decide +kernel) (by decide +kernel) (by decide +kernel)⟩ ?_
    refine things_cons ⟨_, .int _, good0 (by decide +kernel) (by decide +kernel) (by decide +kernel)⟩ ?_
    refine things_cons ⟨_, .int _, good0 (by decide +kernel) (by decide +kernel) (by decide +kernel)⟩ ?_
    refine things_cons ⟨_, .int _, good0 (by decide +kernel) (by decide +kernel) (by decide +kernel)⟩ ?_
    refine things_cons ⟨_, .str _, good0 (by decide +kernel) (by decide +kernel) (by decide +kernel)⟩ ?_
    refine things_cons ⟨_, .str _, good0 (by decide +kernel) (by decide +kernel) (by decide +kernel)⟩ ?_
    refine things_cons ⟨_, .str _, good0 (by decide +kernel) (by decide +kernel) (by decide +kernel)⟩ ?_
    refine things_cons ⟨_, .tup0 (k1 _ _ h1), good0 (by decide +kernel) (by decide +kernel) (by decide +kernel)⟩ ?_
    refine things_cons ⟨_, .lst0 m2 (k2 _ _ h2), good0 (by decide +kernel) (by decide +kernel) (by decide +kernel)⟩ ?_
    refine things_cons ⟨_, .dict0 (k3 _ _ h3), good0 (by decide +kernel) (by decide +kernel) (by decide +kernel)⟩ ?_
    refine things_cons ⟨_, .tup2 (k4 _ _ h4) (.str _) (.int _), good0 (by decide +kernel) (by decide +kernel) (by decide +kernel)⟩ ?_
    refine things_cons ⟨_, .lst1 m6 (k6 _ _ h6) (.tup0 (k6 _ _ (s6 _ _ h5))), good0 (by decide +kernel) (by decide +kernel) (by decide +kernel)⟩ ?_
    refine things_cons ⟨_, .dict1 (k9' _ _ h9) (.tup0 (k9' _ _ e8)), good0 (by decide +kernel) (by decide +kernel) (by decide +kernel)⟩ ?_
    exact things_cons ⟨_, .tup2 h12 (.tup0 (s12 _ _ (s11 _ _ h10))) (.tup0 (s12 _ _ h11)), good0 (by decide +kernel) (by decide +kernel) (by decide +kernel)⟩ things_nil
  · exact (((((((s1.trans s2).trans s3).trans s4).trans s5).trans s6).trans s9).trans s10).trans (s11.trans s12)
end Sc

namespace Sc
open PySem L2 PySem.Spec PyProof.Rows
def spOf (K : PySem.W.Frag) : Sp := fun vs H Q _ => ∃ (p l : Addr) (xs : List V) (N : Nat), vs = [.ref p, .ref l] ∧ PotAt H p N ∧ N < 100000 ∧ SqL K H l xs ∧ l ≠ p ∧ 0 < xs.length ∧ xs.length < 1000 ∧
  ∀ x H', x ∈ xs → PotAt H' p (N + 1) → SameBut p H H' → Q x H'
section
variable {P : Program} {w : World} {K : PySem.W.Frag} {mg : Str → Option Value} {base : Heap}
theorem ok_of {f fT : Addr} {fd fdT : FuncData} (F : Fun K "_law_of" "_law_of" sOf f fd) (T : Nat0 mg) (GT : FnOk P w K mg base CX0 1 fT fdT ["_law_pot", "_law_upto"] spTake) (gT : mg "_law_take" = some (.ref fT))
    (kT : PySem.W.keepIn K (.ref fT) = true) (bT : Binds K fdT ["_law_pot", "_law_upto"] []) : FnOk P w K mg base CX0 2 f fd ["_law_pot", "_law_some"] (spOf K) := by
  refine F.ok scOf (fun vs H Q E h => ?_) (fun cdv A outer s H vs Q E hr h => ?_)
  · obtain ⟨p, l, xs, N, rfl, _⟩ := h
    rfl
  · obtain ⟨p, l, xs, N, rfl, hp, hN, hl, ne, h0, h1, q⟩ := h
    refine ⟨_, pss_one (ps_ret (pe_ix ix_list (pv 1) (pe_call GT hr (by rfl) gT kT bT .nil pass0 (pa_cons (pv 0) (pa_cons (pe_callB call_len_seq (by rfl) T.len PySem.boot_len (pa_cons (pv 1) pa_nil)) pa_nil))) (fun _ _ => rfl))), ?_⟩
    refine ⟨_, rfl, _, rfl, _, rfl, l, xs, rfl, .inl hl, p, _, N, rfl, hp, by omega, by omega, by omega, fun d H' d0 d1 hp' k => ?_⟩
    obtain ⟨n, rfl⟩ : ∃ n : Nat, d = n := ⟨d.toNat, by omega⟩
    have hn : n < xs.length := by omega
    refine ⟨l, xs, _, xs[n], rfl, rfl, k.seq ne hl, atI_nat (List.getElem?_eq_getElem hn), ?_⟩
    exact q _ _ (List.getElem_mem hn) hp' k
/-! ### _law_odd -/
def spOdd : Sp := fun vs H Q _ => ∃ (p : Addr) (N : Nat), vs = [.ref p] ∧ PotAt H p N ∧ N < 90000 ∧ ∀ x H', Thing H' x 15 → PotAt H' p (N + 17) → SameBut p H H' → Q x H'
theorem scOdd : FnScope ["_law_pot", "_law_some", "_law_found", "_law_turn"] ["_law_pot"] (defScope sOdd) := ⟨rfl, rfl, rfl, by decide +kernel, rfl, by decide +kernel, by decide +kernel⟩
/-- the four wraps of a thing -/
def tWraps : TA := tCons (tTup (tCons (tVar 2) tNil)) (tCons (tLstB (tCons (tVar 2) tNil)) (tCons (tDisp [(tC (.str "a"), tVar 2)]) (tCons (tTup (tCons (tVar 2) (tCons (tC (.int 0)) tNil))) tNil)))
theorem wraps_run {σ : L2.St} {H : Hp} {x : V} {n : Nat} (hs : σ[2]? = some (some x)) (hx : Thing H x n) {Q : List V → Hp → Prop} (q : ∀ xs H', xs.length = 4 → (∀ y ∈ xs, Thing H' y (n + 1)) → Same H H' → Q xs H') : tWraps σ H Q := by
  obtain ⟨d, D, G⟩ := hx
  refine cons_go (tup_go (cons_go ⟨x, hs, nil_go (tup_end (by simp) fun t1 H1 h1 s1 => ?_)⟩))
  refine cons_go (lstB_go (cons_go ⟨x, hs, nil_go (lstB_end (by simp) fun l2 H2 m2 h2 s2 => ?_)⟩))
  refine cons_go (disp_go fun d3 H3 n3 h3 s3 => ⟨x, hs, disp_end n3 h3 s3 fun H4 h4 s4 k4 => ?_⟩)
  refine cons_go (tup_go (cons_go ⟨x, hs, cons_go (c_go (nil_go (tup_end (by simp) fun t5 H5 h5 s5 => ?_)))⟩))
  have a1 : Same H1 H5 := (s2.trans s4).trans s5
  refine nil_go (q _ H5 rfl ?_ (s1.trans a1))
  have D5 := D.same (s1.trans a1)
  intro y hy
  have hy' : y = .ref t1 ∨ y = .ref l2 ∨ y = .ref d3 ∨ y = .ref t5 := by simpa using hy
  rcases hy' with rfl | rfl | rfl | rfl
  · exact ⟨_, .tup1 (a1 _ _ h1) D5, good_tup1 G⟩
  · exact ⟨_, .lst1 m2 ((s4.trans s5) _ _ h2) D5, good_lst1 G⟩
  · exact ⟨_, .dict1 (s5 _ _ h4) D5, good_dict1 G⟩
  · exact ⟨_, .tup2 h5 D5 (.int 0), good_tup2 G⟩
theorem ok_odd {f fO : Addr} {fd fdO : FuncData} (F : Fun K "_law_odd" "_law_odd" sOdd f fd) (tR : mg "range" = none) (GO : FnOk P w K mg base CX0 2 fO fdO ["_law_pot", "_law_some"] (spOf K)) (gO : mg "_law_of" = some (.ref fO))
    (kO : PySem.W.keepIn K (.ref fO) = true) (bO : Binds K fdO ["_law_pot", "_law_some"] []) : FnOk P w K mg base CX0 3 f fd ["_law_pot"] spOdd := by
  refine F.ok scOdd (fun vs H Q E h => ?_) (fun cdv A outer s H vs Q E hr h => ?_)
  · obtain ⟨p, N, rfl, _⟩ := h
    rfl
  · obtain ⟨p, N, rfl, hp, hN, q⟩ := h
    refine ⟨tSeq (tAsg (tLst tFirst) (gName 1)) (tSeq (tAsg (tCall (spOf K) [] E0 (tCons (tVar 0) (tCons (tVar 1) tNil))) (gName 2))
      (tSeq (tFor (iRng1 (tCons (tCall (spOf K) [] E0 (tCons (tVar 0) (tCons (tLst (tCons (tC (.int 0)) (tCons (tC (.int 0)) (tCons (tC (.int 0)) (tCons (tC (.int 1)) (tCons (tC (.int 2)) (tCons (tC (.int 15)) tNil))))))) tNil))) tNil)) (gName 3)
        (tAsg (tCall (spOf K) [] E0 (tCons (tVar 0) (tCons (tLst tWraps) tNil))) (gName 2)))
      (tRet (tVar 2)))), ?_, ?_⟩
    · refine pss_cons (ps_set (i := 1) scOdd.nd rfl (Or.inl rfl) (pe_lst ?_)) (pss_cons (ps_set (i := 2) scOdd.nd rfl (Or.inl rfl) (pe_call GO hr (by rfl) gO kO bO .nil pass0 (pa_cons (pv 0) (pa_cons (pv 1) pa_nil))))
        (pss_cons (ps_for PassesOwn.never rfl (pi_range1 (by rfl) tR (pa_cons (pe_call GO hr (by rfl) gO kO bO .nil pass0 (pa_cons (pv 0) (pa_cons (pe_lst (pa_cons pe_int (pa_cons pe_int (pa_cons pe_int (pa_cons pe_int (pa_cons pe_int (pa_cons pe_int pa_nil))))))) pa_nil))) pa_nil)) (pg_name (i := 3) scOdd.nd rfl (Or.inl rfl))
          (pss_one (ps_set (i := 2) scOdd.nd rfl (Or.inl rfl) (pe_call GO hr (by rfl) gO kO bO .nil pass0 (pa_cons (pv 0) (pa_cons (pe_lst ?_) pa_nil))))))
        (pss_one (ps_ret (pv 2)))))
      · exact pa_cons pe_non (pa_cons pe_bl (pa_cons pe_bl (pa_cons pe_int (pa_cons (pe_un un_neg pe_int) (pa_cons (pe_op op_pow pe_int pe_int) (pa_cons pe_str (pa_cons pe_str (pa_cons pe_str (pa_cons (pe_tup pa_nil) (pa_cons (pe_lstB pa_nil) (pa_cons pe_dnewK
          (pa_cons (pe_tup (pa_cons pe_str (pa_cons pe_int pa_nil))) (pa_cons (pe_lstB (pa_cons (pe_tup pa_nil) pa_nil)) (pa_cons (pe_disp (pps_cons pe_str (pe_tup pa_nil) pps_nil) (by rfl) (by rfl) (fun z => by cases z) (by decide)) (pa_cons (pe_tup (pa_cons (pe_tup pa_nil) (pa_cons (pe_tup pa_nil) pa_nil))) pa_nil)))))))))))))))
      · exact pa_cons (pe_tup (pa_cons (pv 2) pa_nil)) (pa_cons (pe_lstB (pa_cons (pv 2) pa_nil)) (pa_cons (pe_disp (pps_cons pe_str (pv 2) pps_nil) (by rfl) (by rfl) (fun z => by cases z) (by decide)) (pa_cons (pe_tup (pa_cons (pv 2) (pa_cons pe_int pa_nil))) pa_nil)))
    · refine seq_go ?_
      show tLst tFirst _ _ _
      refine lst_go (first_run fun xs H1 hl hx s1 => lst_end (by omega) fun l H2 h2 s2 => ?_)
      have p2 := hp.same (s1.trans s2)
      have ne2 : l ≠ p := by
        obtain ⟨a, b, c, e⟩ := p2.three
        refine ne_of h2 e (fun z => ?_)
        have z' := HO.lst.inj z
        rw [z'] at hl
        simp at hl
      refine seq_go ⟨_, rfl, _, rfl, p, l, xs, N, rfl, p2, by omega, SqL.of h2, ne2, by omega, by omega, fun x H3 hx3 p3 k3 => ?_⟩
      have t3 : Thing H3 x 0 := ((hx x hx3).same s2).keep p2.three k3
      refine seq_go ⟨_, rfl, ?_⟩
      refine lst_go (cons_go (c_go (cons_go (c_go (cons_go (c_go (cons_go (c_go (cons_go (c_go (cons_go (c_go (nil_go (lst_end (by simp) fun l4 H4 h4 s4 => ?_))))))))))))))
      have p4 := p3.same s4
      have ne4 : l4 ≠ p := by
        obtain ⟨a, b, c, e⟩ := p4.three
        exact ne_of h4 e (fun z => by cases z)
      refine ⟨p, l4, _, N + 1, rfl, p4, by omega, SqL.of h4, ne4, by simp, by simp, fun k H5 hk p5 k5 => ?_⟩
      have t5 : Thing H5 x 0 := (t3.same s4).keep p4.three k5
      have k15 : ∃ n : Nat, k = .int (n : Nat) ∧ n ≤ 15 := by
        have hk' : k = .int 0 ∨ k = .int 1 ∨ k = .int 2 ∨ k = .int 15 := by simpa using hk
        rcases hk' with rfl | rfl | rfl | rfl
        · exact ⟨0, rfl, by decide⟩
        · exact ⟨1, rfl, by decide⟩
        · exact ⟨2, rfl, by decide⟩
        · exact ⟨15, rfl, by decide⟩
      obtain ⟨n, rfl, hn⟩ := k15
      refine ⟨(n : Int), rfl, by omega, by omega, for_range (lo := 0) (n := ((n : Nat) : Int).toNat)
        (fun i σ H' => ∃ (y : V) (z : Option V), σ = [some (.ref p), some (.ref l), some y, z] ∧ Thing H' y i ∧ PotAt H' p (N + 2 + i) ∧ SameBut p H H') ⟨x, none, rfl, t5, p5, ?_⟩ ?_ ?_⟩
      · exact (((same_but (s1.trans s2)).trans k3).trans (same_but s4)).trans k5
      · rintro i σ H' hi ⟨y, z, rfl, ty, py, ky⟩
        have hi' : i < n := by omega
        refine ⟨_, rfl, ?_⟩
        refine lst_go (wraps_run (x := y) rfl ty fun ws H6 hw hws s6 => lst_end (by omega) fun l7 H7 h7 s7 => ?_)
        have p7 := py.same (s6.trans s7)
        have ne7 : l7 ≠ p := by
          obtain ⟨a, b, c, e⟩ := p7.three
          refine ne_of h7 e (fun z => ?_)
          have z' := HO.lst.inj z
          rw [z'] at hw
          simp at hw
        refine ⟨p, l7, ws, N + 2 + i, rfl, p7, by omega, SqL.of h7, ne7, by omega, by omega, fun y2 H8 hy2 p8 k8 => ?_⟩
        exact ⟨y2, _, rfl, ((hws y2 hy2).same s7).keep p7.three k8, p8, (ky.trans (same_but (s6.trans s7))).trans k8⟩
      · rintro σ H' ⟨y, z, rfl, ty, py, ky⟩
        exact ⟨_, rfl, q y H' (ty.mono (by omega)) (py.mono (by omega)) ky⟩
end
end Sc

namespace Sc
open PySem L2 PySem.Spec PyProof.Rows
/-! ### calls where it is known that no repr runs around -/
structure FnOkG (P : Program) (w : World) (K : PySem.W.Frag) (mg : Str → Option Value) (base : Heap) (k : Nat) (f : Addr) (fd : FuncData) (ps : List Str) (sp : Sp) : Prop where
  len : ∀ vs H Q E, sp vs H Q E → vs.length = ps.length
  run : ∀ (A : Around) (outer : List Env) (s : Shared) (H : Hp) (args : Args) (us : List Value) (vs : List V) (Q : VK) (E : XK),
    A.guards = some [] → Room k A → Env0 P w K mg base A outer s H → BindsTo s fd args (ps.zip us) → Vals vs us → sp vs H Q E →
    codeAny (model P w) A (.call (.ref f) args) (CR CX0 outer P w H s Q E) s
section
variable {P : Program} {w : World} {K : PySem.W.Frag} {mg : Str → Option Value} {base : Heap} {x qual : Str} {st : Stmt} {f : Addr} {fd : FuncData} {N ps : List Str} {k : Nat} {sp : Sp}
theorem okG (F : Fun K x qual st f fd) (S : FnScope N ps (defScope st)) (len : ∀ vs H Q E, sp vs H Q E → vs.length = ps.length)
    (hbody : ∀ (cdv : Value) (A : Around) (outer : List Env) (s : Shared) (H : Hp) (vs : List V) (Q : VK) (E : XK), A.guards = some [] → Room k (A.deeper (envOfC qual (defScope st) s.heap.objs.size f cdv)) → sp vs H Q E →
      ∃ t, PSs (cxOf CX0 P w K mg base N qual (defScope st) f cdv A outer s H E).nox (defBody st) t ∧ t { nx := fun _ H' => Q .non H', rt := Q } (start N vs) H) :
    FnOkG P w K mg base (k + 1) f fd ps sp := by
  obtain ⟨oc, od, kV, doc, pm, an, cdv, ct, osl, rfl, lk, hcd⟩ := F.ex
  constructor
  · exact len
  intro A outer s H args us vs Q E hg hr e0 hb r hsp
  have kIn : K.In s.heap := e0.mod.kin.keeps (fun b o e => (e0.bs b o e).1)
  have noLim : s.heap.NoLimit := e0.mod.nolimit.keeps (fun b o e => (e0.bs b o e).1)
  have kinds : ∀ y ∈ ps.zip us, (defScope st).names.lookup y.1 = some .local ∨
      ((defScope st).names.lookup y.1 = some .cell ∧ ((cellsFrom (s.heap.objs.size + 1) (defScope st).names []).lookup y.1).isSome = true) := by
    intro y hy
    rcases S.par y.1 (List.of_mem_zip hy).1 with q | q
    · exact .inl q
    · exact .inr ⟨q, PySem.W.cellsFrom_some _ _ _ (.inl q)⟩
  refine codeAny_call_function hr.depth (kIn _ _ lk) rfl S.co S.gen rfl (PySem.W.codeRec_of kIn hcd) (hb _ _ _ _ ?_)
  refine wpAny_newFunctionEnv_cells S.kind kinds ?_
  intro env he s1 y
  subst he
  refine ⟨noLim.keeps y.toInCall.keep, codeAny_func ?_⟩
  obtain ⟨t, ht, hq⟩ := hbody cdv A outer s H vs Q E hg (hr.deeper _) hsp
  have I := inv_start (CX := CX0) (E := E) S hr.hd e0 (len _ _ _ _ hsp) r y
  refine wpAny_mono (ht.nox.run [] s1 (start N vs) H _ I hq) ?_ (fun e s' hs => hs)
  intro fl s' hs
  match fl, hs with
  | .ret u, ⟨v, σ', H', J, rv, q⟩ => exact ⟨v, H', J.os, J.bare, J.base, J.hok, rv, q⟩
  | .next, ⟨σ', H', J, q⟩ => exact ⟨V.non, H', J.os, J.bare, J.base, J.hok, rfl, q⟩
  | .brk, ⟨_, _, _, q⟩ => exact q.elim
  | .cont, ⟨_, _, _, q⟩ => exact q.elim
end
section
variable {X : Cx} {k : Nat} {f : Addr} {fd : FuncData} {ps : List Str} {sp : Sp} {x : Str} {p pos : Pos} {e : Expr} {es : List Expr} {t : TA}
theorem pe_callG (F : FnOkG X.prog X.w X.K X.mg X.base k f fd ps sp) (hG : X.A.guards = some []) (hr : Room k X.A) (hg : Gl X x) (hm : X.mg x = some (.ref f)) (hk : PySem.W.keepIn X.K (.ref f) = true) (hb : Binds X.K fd ps [])
    (ha : PA X (e :: es) t) (hdb : (x == ("__debug__" : Str)) = false := by decide) (he : starEach (e :: es) X.env = (false, eval e X.env) :: starEach es X.env := by rfl) (hpl : (backTo pos (starEach es X.env)).any (·.1) = false := by rfl) :
    PE X (.Call (.Name x p) (e :: es) [] pos) (tCall sp [] E0 t) := by
  constructor
  intro pins s σ H Q I h
  refine wpAny_Call_Name_kw (ld_glob I hg hm ?_ hdb)
  refine PySem.W.callWith_K (h₀ := X.base) I.ok.mod.kin hk (thn (ha.run pos pins s σ H _ I h) ?_) he hpl
  intro us s1 hh
  obtain ⟨vs, H1, I1, r, q⟩ := hh
  rw [List.append_nil] at q
  refine ⟨I1.kIn, ?_⟩
  have hl : (us ++ []).length = ps.length := by
    rw [List.append_nil, ← r.length]
    exact F.len _ _ _ _ q
  have bt := hb s1 us I1.kIn hl
  rw [List.append_nil] at bt
  refine wpAny_call (codeAny_mono (F.run X.A X.stack s1 H1 ⟨us, []⟩ us vs Q E0 hG hr I1.env0 bt r q) ?_)
  intro r s' hq
  match r, hq with
  | .error e, hq => exact hq.elim
  | .ok (.ret u), hq => exact I1.after hq
  | .ok .next, hq => exact hq.elim
  | .ok .brk, hq => exact hq.elim
  | .ok .cont, hq => exact hq.elim
end
end Sc

namespace Sc
open PySem L2 PySem.Spec PyProof.Rows
abbrev sRight : Stmt := top 37
/-! ### rows of bools -/
theorem bools_dp {K : PySem.W.Frag} {H : Hp} : ∀ bs : List Bool, DpAll K H (bs.map V.bl) (bs.map PyData.bool)
  | [] => .nil
  | b :: bs => .cons (.bl b) (bools_dp bs)
theorem bools_lay : ∀ bs : List Bool, PyData.canLayAll0 (bs.map PyData.bool) = true
  | [] => rfl
  | b :: bs => by
    have h := bools_lay bs
    simp only [List.map_cons, PyData.canLayAll0, PyData.canLay0, h, Bool.and_self]
theorem bools_depth : ∀ bs : List Bool, PyData.depthAll (bs.map PyData.bool) ≤ 1
  | [] => by simp [PyData.depthAll]
  | b :: bs => by
    have h := bools_depth bs
    simp only [List.map_cons, PyData.depthAll, PyData.depth]
    omega
theorem bools_can (bs : List Bool) : PyData.canLay0 (.list (bs.map PyData.bool)) = true := by
  have h := bools_lay bs
  simp only [PyData.canLay0, h]
theorem bools_shaped (bs : List Bool) : SeqAt.shaped (.list (bs.map PyData.bool)) = true := by
  have h := bools_depth bs
  unfold SeqAt.shaped
  rw [bools_can, Bool.true_and]
  refine decide_eq_true ?_
  simp only [PyData.depth]
  omega
/-! ### the rules with the class told in the reading -/
section
variable {X : Cx} {e : Expr} {te : TE} {pos : Pos}
def rIsX (K : PySem.W.Frag) (mg : Str → Option Value) : List V → Hp → VK → Prop := fun xs H Q => ∃ (S C fI : Addr) (x : Str) (a : Addr) (v c : V) (cv : Value) (b : Bool), ErrK K mg S C fI x ∧ xs = [.ref a, c] ∧ Err H C a v ∧ (∀ u, RelV c u → u = cv) ∧ PySem.W.kitOne K (.ref C) cv = some b ∧ Q (.bl b) H
theorem call_isX (D : ClsD X.K) : CallR X (.builtin "isinstance") (rIsX X.K X.mg) := by
  intro pins s σ H xs us Q I r h
  obtain ⟨S, C, fI, x, a, v, c, cv, b, T, h⟩ := h
  exact call_isErr T D pins s σ H xs us Q I r ⟨a, v, c, cv, b, h⟩
def tValX (K : PySem.W.Frag) (mg : Str → Option Value) (te : TE) : TE := fun σ H Q => te σ H fun y H1 => ∃ (S C fI : Addr) (x : Str) (a : Addr) (v : V), ErrK K mg S C fI x ∧ y = .ref a ∧ Err H1 C a v ∧ Q v H1
theorem pe_valX (ha : PE X e te) (hb : attributeBase e vName X.env (eval e X.env) = eval e X.env := by rfl) : PE X (.Attribute e vName pos) (tValX X.K X.mg te) := by
  constructor
  intro pins s σ H Q I h
  refine attr_of hb (thn (ha.run pins s σ H _ I h) ?_)
  intro u s1 hh
  obtain ⟨y, H1, I1, ry, S, C, fI, x, a, v, T, rfl, ⟨d, ea, ed⟩, q⟩ := hh
  cases ry
  obtain ⟨t1, ho⟩ := exo_at I1.hok ea
  obtain ⟨mA, hns, hr⟩ := exd_at I1.hok ed
  obtain ⟨od, hod, hl⟩ := lookIn_ns hns
  have l : List.lookup vName [(vName, v)] = some v := by
    simp [List.lookup]
  obtain ⟨u, hu, ru⟩ := RelO.some_of (v := v) (o := mA vName) (by rw [← l]; exact hr vName)
  have J : PySem.W.InstAt s1.heap a { cls := .ref C, dict := some d, data := .fields #[.ref t1, .none, .none, .none, .bool false, .none] } C (some od) := ⟨ho, rfl, rfl, hod⟩
  exact PySem.HandSPX.exc_get I1.kIn J T.ga T.gg (T.sub _) (PySem.W.findObj_own T.hd T.noV rfl (by rw [hl, hu])) (handed_of ru) ⟨v, H1, I1.tok _, ru, q⟩
end
/-- the built-ins that _law_right uses -/
structure Nat1 (mg : Str → Option Value) : Prop where
  repr : mg "repr" = none
  enum : mg "enumerate" = none
  range : mg "range" = none
  len : mg "len" = none
theorem scRight : FnScope ["_law_pot", "_law_thing", "_law_shown", "_law_made_here", "_law_at", "_law_error", "_law_spot"] ["_law_pot"] (defScope sRight) := ⟨rfl, rfl, rfl, by decide +kernel, rfl, by decide +kernel, by decide +kernel⟩
def spRight : Sp := fun vs H Q _ => ∃ (p : Addr) (N : Nat), vs = [.ref p] ∧ PotAt H p N ∧ N < 80000 ∧ ∀ H', PotAt H' p (N + 17) → SameBut p H H' → Q (.bl true) H'
abbrev rRp : List V → Hp → VK → Prop := fun xs H Q => ∃ v d n, xs = [v] ∧ DatAt H v d ∧ Good d n ∧ n ≤ 30 ∧ Q (.str d.shown) H
/-- the body of the inner loop -/
def tInner (K : PySem.W.Frag) (mg : Str → Option Value) (C : Nat → Addr) (S : Addr) : TS :=
  tSeq (tIfS (tTest (tOp (rNeD K) (tCall (spClasses C) [] E0 (tCons (tVar 5) tNil)) (tLc (iRng1 (tCons (tCB (fun xs H Q => ∃ p ys, xs = [.ref p] ∧ (SqL K H p ys ∨ SqT K H p ys) ∧ Q (.int ys.length) H) (tCons (tVar 3) tNil)) tNil)) (gName 6) tYes (tOp rEq (tVar 6) (tVar 4)) [6]))) (tRet (tC (.bl false))) tNext)
    (tIfS (tOr (tNot (tB (tCB (rIsX K mg) (tCons (tVar 5) (tCons (tC (.ref S)) tNil))))) (tOr (tNot (tB (tCB (rIsX K mg) (tCons (tVar 5) (tCons (tC (.ty "ValueError")) tNil))))) (tTest (tOp rNe (tCB rRp (tCons (tValX K mg (tVar 5)) tNil)) (tVar 2)))))
      (tRet (tC (.bl false))) tNext)
def tRight (K : PySem.W.Frag) (mg : Str → Option Value) (C : Nat → Addr) (S : Addr) : TS :=
  tSeq (tAsg (tCall spOdd [] E0 (tCons (tVar 0) tNil)) (gName 1)) (tSeq (tAsg (tCB rRp (tCons (tVar 1) tNil)) (gName 2))
    (tSeq (tFor (iTup K (tTup (tCons (tCall (spMade C) [] E0 (tCons (tVar 1) tNil)) (tCons (tCall (spMade C) [] E0 (tCons (tVar 1) tNil)) tNil)))) (gName 3)
        (tFor (iEnum K (tCons (tVar 3) tNil)) (gTup K 2 (gCons (gName 4) (gCons (gName 5) gNil))) (tInner K mg C S)))
      (tRet (tOp rEq (tCB rRp (tCons (tVar 1) tNil)) (tVar 2)))))
section
variable {P : Program} {w : World} {K : PySem.W.Frag} {mg : Str → Option Value} {base : Heap} {S : Addr} {C fI : Nat → Addr} {fd : Nat → FuncData}
theorem forT_go {t : TA} {g : TG} {tb : TS} {D : Ends} {σ : L2.St} {H : Hp} (h : t σ H (TupEnd fun x H1 => ∃ a, x = V.ref a ∧ (∃ xs, SqT K H1 a xs) ∧ tFor (fun _ H2 R => R (Itt K a) H2) g tb D σ H1)) : tFor (iTup K (tTup t)) g tb D σ H := h
theorem told_eq (C : Nat → Addr) (i n : Nat) : told C i n = ((List.range n).map fun j => decide (C j = C i)).map V.bl := by
  unfold told
  rw [List.map_map]
  rfl
/-- what the comprehension makes -/
def spots (i n : Nat) : List Bool := (List.range n).map fun j => decide (V.int ((0 : Int) + ((j : Nat) : Int)) = V.int ((i : Nat) : Int))
theorem spots_add (i n : Nat) : (spots i n).map V.bl ++ [V.bl (decide (V.int ((0 : Int) + ((n : Nat) : Int)) = V.int ((i : Nat) : Int)))] = (spots i (n + 1)).map V.bl := by
  unfold spots
  rw [List.range_succ]
  simp
theorem spots_is (A : All P w K mg base S C fI fd) {i : Nat} (hi : i < 27) : spots i 27 = (List.range 27).map fun j => decide (C j = C i) := by
  unfold spots
  refine List.map_congr_left fun j hj => ?_
  have hj' := List.mem_range.mp hj
  refine decide_eq_decide.mpr ⟨fun e => ?_, fun e => ?_⟩
  · have e' := V.int.inj e
    rw [show j = i by omega]
  · rw [A.inj j i hj' hi e]
    simp
section
variable {H : Hp} {D : Ends} {p m : Addr} {x : V} {d : PyData} {as : List Addr} {y2 y3 : Option V}
abbrev rows (p m : Addr) (x : V) (d : PyData) (y2 y3 : Option V) : L2.St := [some (.ref p), some x, some (.str d.shown), some (.ref m), y2, y3, none]
theorem inner_run (A : All P w K mg base S C fI fd) (hm : H m = some (.lst (as.map V.ref))) (hl : as.length = 27) (hr : Row H C x 0 as) (Da : DatAt H x d) (G : Good d 15) {i : Nat} {e : Addr} (hi : i < 27) (he : as[i]? = some e)
    (q : ∀ H', Same H H' → D.nx (rows p m x d (some (.int (i : Nat))) (some (.ref e))) H') : tInner K mg C S D (rows p m x d (some (.int (i : Nat))) (some (.ref e))) H := by
  have hE : Err H (C i) e x := by
    have := Row.at hr he
    rwa [Nat.zero_add] at this
  have ln : (as.map V.ref).length = 27 := by rw [List.length_map, hl]
  refine seq_go ⟨_, rfl, e, x, i, rfl, hi, hE, fun p3 H3 h3 s3 => ?_⟩
  refine ⟨_, rfl, m, _, rfl, .inl (SqL.of (s3 _ _ hm)), _, rfl, by omega, by omega, fun L hL => ?_⟩
  refine lc_range (lo := 0) (n := (((as.map V.ref).length : Nat) : Int).toNat) (fun n H' => H' L = some (.lst ((spots i n).map V.bl)) ∧ n ≤ 27 ∧ Same H3 H') ⟨upd_same, by omega, same_new hL⟩ ?_ ?_
  · rintro n H4 hn ⟨h4, hn2, s4⟩
    have hn3 : n < 27 := by omega
    refine ⟨rfl, _, rfl, _, rfl, rfl, _, h4, ?_, ?_, hn3, ?_⟩
    · rw [List.length_map]
      unfold spots
      rw [List.length_map, List.length_range, sizeLine_eq]
      omega
    · rw [← spots_add]
      exact upd_same
    · intro b o eb
      rw [upd_ne (ne_of_none eb hL)]
      exact s4 b o eb
  · rintro H4 ⟨h4, _, s4⟩
    have n27 : (((as.map V.ref).length : Nat) : Int).toNat = 27 := by omega
    rw [n27, spots_is A hi] at h4
    rw [told_eq] at h3
    have sH : Same H H4 := s3.trans s4
    refine ⟨_, _, .lst (SqL.of (s4 _ _ h3)) (bools_dp _), .lst (SqL.of h4) (bools_dp _), bools_shaped _, bools_shaped _, _, rfl, ?_⟩
    have ev := SeqAt.eqv_refl _ (bools_can ((List.range 27).map fun j => decide (C j = C i)))
    rw [ev]
    refine iteF ?_
    have E1 := (A.err i hi).e
    refine ⟨_, rfl, S, C i, fI i, nameOf i, e, x, _, _, true, E1, rfl, hE.same sH, fun _ r => r, E1.base A.tS A.cS, true, rfl, iteF ?_⟩
    refine ⟨_, rfl, S, C i, fI i, nameOf i, e, x, _, _, true, E1, rfl, hE.same sH, fun _ r => r, E1.value, true, rfl, iteF ?_⟩
    refine ⟨_, rfl, S, C i, fI i, nameOf i, e, x, E1, rfl, hE.same sH, x, d, 15, rfl, Da.same sH, G, by decide, _, rfl, rfl, _, rfl, iteNS rfl ?_⟩
    exact q H4 sH
theorem outer_run (A : All P w K mg base S C fI fd) (hm : H m = some (.lst (as.map V.ref))) (hl : as.length = 27) (hr : Row H C x 0 as) (Da : DatAt H x d) (G : Good d 15)
    (q : ∀ z2 z3 H', Same H H' → D.nx (rows p m x d z2 z3) H') :
    tFor (iEnum K (tCons (tVar 3) tNil)) (gTup K 2 (gCons (gName 4) (gCons (gName 5) gNil))) (tInner K mg C S) D (rows p m x d y2 y3) H := by
  refine ⟨_, rfl, m, _, rfl, SqL.of hm, for_it (walk_enum (K := K) (a := m) (xs := as.map V.ref)) (fun _ σ H' => ∃ z2 z3, σ = rows p m x d z2 z3 ∧ Same H H') ⟨y2, y3, rfl, Same.refl H⟩ ?_ ?_ ?_⟩
  · rintro i σ H' _ ⟨z2, z3, rfl, s⟩
    exact SqL.of (s _ _ hm)
  · rintro i y σ H1 H2 hi ⟨z2, z3, rfl, s⟩ ⟨T, a1, b1, rfl, hT, rfl, ha, hb⟩
    cases ha
    have hb' : ∃ e, as[i]? = some e ∧ b1 = .ref e := by
      have hb : (as.map V.ref)[i]? = some b1 := hb
      rw [List.getElem?_map] at hb
      cases he : as[i]? with
      | none =>
        rw [he] at hb
        cases hb
      | some e =>
        rw [he] at hb
        exact ⟨e, rfl, (Option.some.inj hb).symm⟩
    obtain ⟨e, he, rfl⟩ := hb'
    have hi' : i < 27 := by
      have := (List.getElem?_eq_some_iff.mp he).1
      omega
    have s2 : Same H (upd H1 T (.tup [.int (i : Nat), .ref e])) := s.trans (same_new hT)
    refine ⟨T, _, rfl, SqT.of upd_same, rfl, _, _, rfl, _, _, rfl, rfl, ?_⟩
    exact inner_run A (s2 _ _ hm) hl (hr.same s2) (Da.same s2) G hi' he fun H' s3 => ⟨_, _, rfl, s2.trans s3⟩
  · rintro σ H' ⟨z2, z3, rfl, s⟩
    exact q z2 z3 H' s
end
theorem right_run (A : All P w K mg base S C fI fd) {vs : List V} {H : Hp} {Q : VK} {E : XK} (h : spRight vs H Q E) :
    tRight K mg C S { nx := fun _ H' => Q .non H', rt := Q } (start ["_law_pot", "_law_thing", "_law_shown", "_law_made_here", "_law_at", "_law_error", "_law_spot"] vs) H := by
  obtain ⟨p, N, rfl, hp, hN, q⟩ := h
  refine seq_go ⟨_, rfl, p, N, rfl, hp, by omega, fun x H1 tx p1 k1 => ?_⟩
  obtain ⟨d, Da, G⟩ := tx
  refine seq_go ⟨_, rfl, x, d, 15, rfl, Da, G, by decide, ?_⟩
  dsimp only
  refine seq_go ?_
  refine forT_go ?_
  refine (cons_go ⟨_, rfl, x, rfl, fun m as H2 hl hm hr s2 => cons_go ⟨_, rfl, x, rfl, fun m' as' H3 hl' hm' hr' s3 => nil_go (tup_end (by simp) fun t H4 h4 s4 => ?_)⟩⟩)
  have sA : Same H1 H4 := (s2.trans s3).trans s4
  have sB : Same H2 H4 := s3.trans s4
  refine ⟨t, rfl, ⟨_, SqT.of h4⟩, for_tup (K := K) (a := t) (xs := [.ref m, .ref m']) (fun _ σ H' => ∃ z1 z2 z3, σ = [some (.ref p), some x, some (.str d.shown), z1, z2, z3, none] ∧ Same H4 H') ⟨none, none, none, rfl, Same.refl _⟩ ?_ ?_ ?_⟩
  · rintro i σ H' _ ⟨z1, z2, z3, rfl, s⟩
    exact SqT.of (s _ _ h4)
  · rintro i y σ H' hi ⟨z1, z2, z3, rfl, s⟩
    have hy : y = .ref m ∨ y = .ref m' := by
      have := List.mem_of_getElem? hi
      simpa using this
    rcases hy with rfl | rfl
    · exact outer_run A ((sB.trans s) _ _ hm) hl (hr.same (sB.trans s)) (Da.same (sA.trans s)) G fun z2 z3 H'' s5 => ⟨_, _, _, rfl, s.trans s5⟩
    · exact outer_run A ((s4.trans s) _ _ hm') hl' (hr'.same (s4.trans s)) (Da.same (sA.trans s)) G fun z2 z3 H'' s5 => ⟨_, _, _, rfl, s.trans s5⟩
  · rintro σ H' ⟨z1, z2, z3, rfl, s⟩
    refine ⟨_, rfl, x, d, 15, rfl, Da.same (sA.trans s), G, by decide, _, rfl, rfl, ?_⟩
    rw [decide_eq_true (rfl : V.str d.shown = V.str d.shown)]
    exact q H' (p1.same (sA.trans s)) (k1.trans (same_but (sA.trans s)))
theorem ok_right {f fO fM fN fC : Addr} {fd0 fdO fdM fdN fdC : FuncData} (F : Fun K "_law_right" "_law_right" sRight f fd0) (A : All P w K mg base S C fI fd) (T : Nat1 mg)
    (GO : FnOk P w K mg base CX0 3 fO fdO ["_law_pot"] spOdd) (gO : mg "_law_odd" = some (.ref fO)) (kO : PySem.W.keepIn K (.ref fO) = true) (bO : Binds K fdO ["_law_pot"] [])
    (GM : FnOk P w K mg base CX0 3 fM fdM ["_law_thing"] (spMade C)) (gM : mg "_law_made" = some (.ref fM)) (kM : PySem.W.keepIn K (.ref fM) = true) (bM : Binds K fdM ["_law_thing"] [])
    (GN : FnOk P w K mg base CX0 3 fN fdN ["_law_thing"] (spMade C)) (gN : mg "_law_made_by_name" = some (.ref fN)) (kN : PySem.W.keepIn K (.ref fN) = true) (bN : Binds K fdN ["_law_thing"] [])
    (GC : FnOk P w K mg base CX0 1 fC fdC ["_law_error"] (spClasses C)) (gC : mg "_law_classes" = some (.ref fC)) (kC : PySem.W.keepIn K (.ref fC) = true) (bC : Binds K fdC ["_law_error"] []) :
    FnOkG P w K mg base 4 f fd0 ["_law_pot"] spRight := by
  refine okG F scRight (fun vs H Q E h => ?_) (fun cdv A' outer s H vs Q E hG hr h => ⟨tRight K mg C S, ?_, right_run A h⟩)
  · obtain ⟨p, N, rfl, _⟩ := h
    rfl
  · have hr1 : Room 1 _ := hr.mono (by decide)
    exact pss_cons (ps_set (i := 1) scRight.nd rfl (Or.inl rfl) (pe_call GO hr (by rfl) gO kO bO .nil pass0 (pa_cons (pv 0) pa_nil)))
      (pss_cons (ps_set (i := 2) scRight.nd rfl (Or.inl rfl) (pe_callB (call_reprD hr hG) (by rfl) T.repr PyProof.Rows.boot_repr (pa_cons (pv 1) pa_nil)))
      (pss_cons (ps_for PassesOwn.never rfl (pi_tup (pe_tup (pa_cons (pe_call GM hr (by rfl) gM kM bM .nil pass0 (pa_cons (pv 1) pa_nil)) (pa_cons (pe_call GN hr (by rfl) gN kN bN .nil pass0 (pa_cons (pv 1) pa_nil)) pa_nil)))) (pg_name (i := 3) scRight.nd rfl (Or.inl rfl))
        (pss_one (ps_for PassesOwn.never rfl (pi_enum (by rfl) T.enum (pa_cons (pv 3) pa_nil)) (pg_tup rfl (pgs_cons (pg_name (i := 4) scRight.nd rfl (Or.inr rfl)) (pgs_cons (pg_name (i := 5) scRight.nd rfl (Or.inl rfl)) pgs_nil)))
          (pss_cons (ps_if (pt_cmpR (op_neD hr.units) (pe_call GC hr1 (by rfl) gC kC bC .nil pass0 (pa_cons (pv 5) pa_nil))
              (pe_lc (own := [("_law_spot", 6)]) (g := gName 6) (tt := tYes) rfl scRight.nd (pi_range1 (by rfl) T.range (pa_cons (pe_callB call_len_seq (by rfl) T.len PySem.boot_len (pa_cons (pv 3) pa_nil)) pa_nil))
                (blkOk_by (own := [("_law_spot", 6)]) (N := ["_law_pot", "_law_thing", "_law_shown", "_law_made_here", "_law_at", "_law_error", "_law_spot"]) (sc := defScope sRight) (by decide +kernel))
                (fun _ _ _ _ _ => pg_name (i := 6) scRight.nd rfl (Or.inl rfl)) (fun _ _ _ _ _ => pts_nil) (fun _ _ _ _ _ => pe_cmpR op_eq (pv 6) (pv 4) (nomark _))) (nomark _))
            (pss_one (ps_ret pe_bl)) pss_nil)
          (pss_one (ps_if (PW.pt (pw_or (pt_not (pt_val (pe_callB (call_isX A.D) (by rfl) A.isi PyProof.Rows.boot_isinstance (pa_cons (pv 5) (pa_cons (pe_glob (v := .ref S) (by rfl) A.gS rfl) pa_nil)))))
            (pw_or (pt_not (pt_val (pe_callB (call_isX A.D) (by rfl) A.isi PyProof.Rows.boot_isinstance (pa_cons (pv 5) (pa_cons (pe_bltn (v := .ty "ValueError") (by rfl) A.val (by decide +kernel) rfl) pa_nil)))))
            (pw_or1 (pt_cmpR op_ne (pe_callB (call_reprD hr hG) (by rfl) T.repr PyProof.Rows.boot_repr (pa_cons (pe_valX (pv 5)) pa_nil)) (pv 2) (nomark _)))))) (pss_one (ps_ret pe_bl)) pss_nil))))))
      (pss_one (ps_ret (pe_cmpR op_eq (pe_callB (call_reprD hr hG) (by rfl) T.repr PyProof.Rows.boot_repr (pa_cons (pv 1) pa_nil)) (pv 2) (nomark _))))))
end
end Sc

namespace Sc
open PySem L2 PySem.Spec PyProof.Rows
abbrev sLaw : Stmt := top 38
theorem scLaw : FnScope ["_law_script", "_law_k", "_law_pot", "_law_turn"] ["_law_script"] (defScope sLaw) := ⟨rfl, rfl, rfl, by decide +kernel, rfl, by decide +kernel, by decide +kernel⟩
structure Nat2 (mg : Str → Option Value) : Prop where
  range : mg "range" = none
  max : mg "max" = none
  min : mg "min" = none
  len : mg "len" = none
  all : mg "all" = none
def spLaw (K : PySem.W.Frag) : Sp := fun vs H Q _ => ∃ (a : Addr) (ns : List Int), vs = [.ref a] ∧ SqL K H a (ns.map V.int) ∧ ns.length ≤ 63 ∧ ∀ H', Q (.bl true) H'
def tTurns : TE := tLc (iRng1 (tCons (tC (.int 12)) tNil)) (gName 3) tYes (tCall spRight [] E0 (tCons (tVar 2) tNil)) [3]
def tBody (K : PySem.W.Frag) : TS := tSeq (tAsg (tCall (spPot K) [] E0 (tCons (tVar 0) (tCons (tVar 1) tNil))) (gName 2)) (tIfS (tNot (tB (tCB (rAll K) (tCons tTurns tNil)))) (tRet (tC (.bl false))) tNext)
section
variable {P : Program} {w : World} {K : PySem.W.Frag} {mg : Str → Option Value} {base : Heap}
theorem turns_run {p a : Addr} {H0 H : Hp} {k : V} {Q : VK} (h0 : H0 p = none) (s0 : Same H0 H) (hp : PotAt H p 0)
    (q : ∀ L H', H' L = some (.lst ((List.replicate 12 true).map V.bl)) → Same H0 H' → Q (.ref L) H') : tTurns [some (.ref a), some k, some (.ref p), none] H Q := by
  refine ⟨(12 : Int), rfl, by decide, by decide, fun L hL => ?_⟩
  have nL : p ≠ L := by
    obtain ⟨x, y, z, e⟩ := hp.three
    exact ne_of_none e hL
  have n0 : H0 L = none := s0.free hL
  refine lc_range (lo := 0) (n := (12 : Int).toNat) (fun n H' => H' L = some (.lst ((List.replicate n true).map V.bl)) ∧ PotAt H' p (17 * n) ∧ n ≤ 12 ∧ Same H0 H') ⟨upd_same, hp.same (same_new hL), by omega, s0.trans (same_new hL)⟩ ?_ ?_
  · rintro n H1 hn ⟨h1, p1, n1, s1⟩
    have hn' : n < 12 := hn
    refine ⟨rfl, _, rfl, p, 17 * n, rfl, p1, by omega, fun H2 p2 k2 => ?_⟩
    refine ⟨_, k2 _ _ h1 nL.symm, ?_, ?_, ?_, hn', fun b o e => ?_⟩
    · rw [List.length_map, List.length_replicate, sizeLine_eq]
      omega
    · rw [upd_same, List.replicate_succ', List.map_append]
      rfl
    · obtain ⟨x, y, z, e, r⟩ := p2
      refine ⟨x, y, z, (upd_ne nL).trans e, ?_⟩
      rw [show 17 * (n + 1) = 17 * n + 17 by omega]
      exact r
    · rw [upd_ne (ne_of_none e n0)]
      exact k2 _ _ (s1 b o e) (ne_of_none e h0)
  · rintro H1 ⟨h1, p1, n1, s1⟩
    exact q L H1 h1 s1
theorem all_go {t u : TS} {D : Ends} {σ : L2.St} {H : Hp} (h : tTurns σ H fun x H1 => rAll K [x] H1 fun y H2 => ∃ c, y = V.bl c ∧ if (!c) = true then t D σ H2 else u D σ H2) :
    tIfS (tNot (tB (tCB (rAll K) (tCons tTurns tNil)))) t u D σ H := h
theorem ok_law {f fP fR : Addr} {fd0 fdP fdR : FuncData} (F : Fun K "law" "law" sLaw f fd0) (T : Nat2 mg)
    (GP : FnOk P w K mg base CX0 1 fP fdP ["_law_script", "_law_k"] (spPot K)) (gP : mg "_law_pot_of" = some (.ref fP)) (kP : PySem.W.keepIn K (.ref fP) = true) (bP : Binds K fdP ["_law_script", "_law_k"] [])
    (GR : FnOkG P w K mg base 4 fR fdR ["_law_pot"] spRight) (gR : mg "_law_right" = some (.ref fR)) (kR : PySem.W.keepIn K (.ref fR) = true) (bR : Binds K fdR ["_law_pot"] []) :
    FnOkG P w K mg base 5 f fd0 ["_law_script"] (spLaw K) := by
  refine okG F scLaw (fun vs H Q E h => ?_) (fun cdv A' outer s H vs Q E hG hr h => ?_)
  · obtain ⟨a, ns, rfl, _⟩ := h
    rfl
  · obtain ⟨a, ns, rfl, hS, hl, q⟩ := h
    have hr1 : Room 1 _ := hr.mono (by decide)
    refine ⟨tSeq (tFor (iRng1 (tCons (tCB (fun xs H Q => ∃ i j, xs = [.int i, .int j] ∧ Q (.int (if j > i then j else i)) H) (tCons (tC (.int 1)) (tCons (tCB (fun xs H Q => ∃ i j, xs = [.int i, .int j] ∧ Q (.int (if j < i then j else i)) H)
        (tCons (tC (.int 3)) (tCons (tCB (fun xs H Q => ∃ p ys, xs = [.ref p] ∧ (SqL K H p ys ∨ SqT K H p ys) ∧ Q (.int ys.length) H) (tCons (tVar 0) tNil)) tNil))) tNil))) tNil)) (gName 1) (tBody K)) (tRet (tC (.bl true))), ?_, ?_⟩
    · exact pss_cons (ps_for PassesOwn.never rfl (pi_range1 (by rfl) T.range (pa_cons (pe_callB (call_max2 rfl) (by rfl) T.max (by decide +kernel) (pa_cons pe_int (pa_cons (pe_callB (call_min2 rfl) (by rfl) T.min (by decide +kernel)
            (pa_cons pe_int (pa_cons (pe_callB call_len_seq (by rfl) T.len PySem.boot_len (pa_cons (pv 0) pa_nil)) pa_nil))) pa_nil))) pa_nil)) (pg_name (i := 1) scLaw.nd rfl (Or.inl rfl))
          (pss_cons (ps_set (i := 2) scLaw.nd rfl (Or.inr rfl) (pe_call GP hr1 (by rfl) gP kP bP .nil pass0 (pa_cons (pv 0) (pa_cons (pv 1) pa_nil))))
          (pss_one (ps_if (pt_not (pt_val (pe_callB (cr_all rfl) (by rfl) T.all (by decide +kernel) (pa_cons
              (pe_lc (own := [("_law_turn", 3)]) (g := gName 3) (tt := tYes) rfl scLaw.nd (pi_range1 (by rfl) T.range (pa_cons pe_int pa_nil))
                (blkOk_by (own := [("_law_turn", 3)]) (N := ["_law_script", "_law_k", "_law_pot", "_law_turn"]) (sc := defScope sLaw) (by decide +kernel))
                (fun _ _ _ _ _ => pg_name (i := 3) scLaw.nd rfl (Or.inl rfl)) (fun _ _ _ _ _ => pts_nil) (fun _ _ _ _ _ => pe_callG GR hG hr (by rfl) gR kR bR (pa_cons (pv 2) pa_nil))) pa_nil)))) (pss_one (ps_ret pe_bl)) pss_nil))))
        (pss_one (ps_ret pe_bl))
    · have top3 : ∀ n : Nat, (1 : Int) ≤ (if (if ((n : Nat) : Int) < 3 then ((n : Nat) : Int) else 3) > 1 then (if ((n : Nat) : Int) < 3 then ((n : Nat) : Int) else 3) else 1) ∧
          (if (if ((n : Nat) : Int) < 3 then ((n : Nat) : Int) else 3) > 1 then (if ((n : Nat) : Int) < 3 then ((n : Nat) : Int) else 3) else 1) ≤ 3 := fun n => by
        split <;> split <;> omega
      have t3 := top3 (ns.map V.int).length
      refine seq_go ⟨_, rfl, a, _, rfl, .inl hS, _, _, rfl, _, _, rfl, _, rfl, by omega, by omega, for_range (lo := 0) (n := Int.toNat _)
        (fun i σ H' => ∃ y1 y2, σ = [some (.ref a), y1, y2, none] ∧ Same H H') ⟨none, none, rfl, Same.refl H⟩ ?_ ?_⟩
      · rintro i σ H1 hi ⟨y1, y2, rfl, s1⟩
        have hi3 : i < 3 := by omega
        refine seq_go ⟨_, rfl, _, rfl, a, ns, i, ?_, s1.seq hS, hi3, fun p o m hp o0 o1 m0 m1 => ?_⟩
        · rw [Int.zero_add]
          rfl
        have s2 : Same H (upd H1 p (.lst [.int o, .int m, .int 0])) := s1.trans (same_new hp)
        unfold gName
        dsimp only
        refine all_go (turns_run (H0 := H1) hp (same_new hp) ⟨o, m, 0, upd_same, o0, m0, m1, by decide, by decide⟩ fun L H2 hL s3 => ?_)
        refine ⟨L, List.replicate 12 true, rfl, SqL.of hL, _, rfl, iteF ?_⟩
        exact ⟨_, _, rfl, s1.trans s3⟩
      · rintro σ H1 ⟨y1, y2, rfl, s1⟩
        exact q H1
end
end Sc

namespace Sc
open PySem L2 PySem.Spec PyProof.Rows
/-! ### the end of a law whose def is called where no repr runs -/
section
variable {P : Program} {w : World} {K : PySem.W.Frag} {mg mb : Str → Option Value} {k : Nat} {fa a : Addr} {fd : FuncData} {x : Str} {sp : Sp} {s1 : Shared} {vs : List Value} {ns : List Int}
/-- from an abstract heap in which the script alone may stand -/
theorem core_callG {H : Hp} (KX : K.In s1.heap) (hns : s1.heap.Ns mainGlobals mg) (hb : s1.heap.Ns builtinsNs mb) (hbb : ∀ x : Str, x ≠ "__name__" → mb x = bootBuiltins x) (hlim : s1.heap.NoLimit) (hg : s1.gens = #[])
    (ha : s1.heap.get? a = some { cls := .type "list", data := .seq vs.toArray }) (hr : Room k callerA)
    (F : ∀ base : Heap, K.In base → base.Ns mainGlobals mg → FnOkG P w K mg base k fa fd [x] sp) (hbind : ∀ (s : Shared) (u : Value), BindsTo s fd ⟨[u], []⟩ [(x, u)])
    (hO : Only H) (hok : HOk P w H s1.heap) (hA : ∀ b, H b ≠ none → b = a) (hK : H a ≠ none → K.lookup a = none)
    (hsp : sp [.ref a] H (fun v _ => v = .bl true) fun _ _ _ => False) :
    codeAny (model P w) callerA (.call (.ref fa) ⟨[.ref a], []⟩) (fun r s' => r = .ok (.ret (.bool true)) ∧ OldK s1.heap s'.heap ∧ s'.os = s1.os ∧ AllBare s'.gens) s1 := by
  have free : ∀ {b : Addr} {o : Obj} {es : Array DictEntry} {ep : Nat}, s1.heap.get? b = some o → o.data = .dict es ep → H b = none := by
    intro b o es ep e d
    cases q : H b with
    | none => rfl
    | some u =>
      have eb := hA b (by rw [q]; exact Option.some_ne_none u)
      rw [eb, ha] at e
      cases e
      exact nomatch (show Data.seq vs.toArray _ = Data.dict es ep from d)
  have inBase : ∀ {b : Addr} {m : Str → Option Value}, s1.heap.Ns b m → (hidT s1.heap H).Ns b m := by
    rintro b m ⟨o, es, ep, e, d, r⟩
    exact ⟨o, es, ep, hidT_get e (free e d), d, r⟩
  have kBase : K.In (hidT s1.heap H) := by
    intro b o e
    refine hidT_get (KX b o e) ?_
    cases q : H b with
    | none => rfl
    | some u =>
      have eb := hA b (by rw [q]; exact Option.some_ne_none u)
      rw [eb] at e q
      rw [hK (by rw [q]; exact Option.some_ne_none u)] at e
      cases e
  obtain ⟨mc, l1, l2⟩ := hlim
  have md : Mod K mg (hidT s1.heap H) := ⟨kBase, inBase hns, ⟨mb, inBase hb, hbb⟩, ⟨mc, inBase l1, l2⟩⟩
  have noFr : ∀ b : Addr, b ∉ frs [] := fun b z => nomatch z
  have e0 : Env0 P w K mg (hidT s1.heap H) callerA [] s1 H :=
    ⟨rfl, md, fun b o e => of_hidT e, Nat.le_of_eq (hidT_size _ _), trivial, fun b z => absurd z (noFr b), hok, .of_eq hg⟩
  have run := (F _ kBase (inBase hns)).run callerA [] s1 H ⟨[.ref a], []⟩ [.ref a] [.ref a] _ _ rfl hr e0 (hbind s1 (.ref a)) (.cons rfl .nil) hsp
  refine codeAny_mono run ?_
  intro r s' h
  match r, h with
  | .error e, h => exact h.elim
  | .ok .next, h => exact h.elim
  | .ok .brk, h => exact h.elim
  | .ok .cont, h => exact h.elim
  | .ok (.ret u), ⟨v, H', os, bare, un, hok', rv, q⟩ =>
    have q' : v = .bl true := q
    subst q'
    have eu : u = Value.bool true := rv
    subst eu
    refine ⟨rfl, OldK.of_keep ?_, os, bare⟩
    intro b o e
    rcases hO b with z | ⟨ob, xs, z⟩
    · exact un.keep b o e z (noFr b) (fun z => nomatch z)
    · have z1 := (hok b _ z).1
      have z2 := (hok' b _ (un.frzs b ob _ z)).1
      rw [e] at z1
      cases z1
      exact z2
theorem law_callG (KX : K.In s1.heap) (hns : s1.heap.Ns mainGlobals mg) (hb : s1.heap.Ns builtinsNs mb) (hbb : ∀ x : Str, x ≠ "__name__" → mb x = bootBuiltins x) (hlim : s1.heap.NoLimit) (hg : s1.gens = #[])
    (ha : s1.heap.get? a = some { cls := .type "list", data := .seq vs.toArray }) (hi : IntsAre vs ns) (hl : ns.length ≤ sizeLine) (hr : Room k callerA)
    (F : ∀ base : Heap, K.In base → base.Ns mainGlobals mg → FnOkG P w K mg base k fa fd [x] sp) (hbind : ∀ (s : Shared) (u : Value), BindsTo s fd ⟨[u], []⟩ [(x, u)])
    (hsp : ∀ H : Hp, Only H → SqL K H a (ns.map V.int) → sp [.ref a] H (fun v _ => v = .bl true) fun _ _ _ => False) :
    codeAny (model P w) callerA (.call (.ref fa) ⟨[.ref a], []⟩) (fun r s' => r = .ok (.ret (.bool true)) ∧ OldK s1.heap s'.heap ∧ s'.os = s1.os ∧ AllBare s'.gens) s1 := by
  have rv := vals_ints hi
  cases hk : K.lookup a with
  | some o =>
    have e := KX a o hk
    rw [ha] at e
    cases e
    have nothing : ∀ b, (fun _ => none : Hp) b = none := fun _ => rfl
    refine core_callG (H := fun _ => none) KX hns hb hbb hlim hg ha hr F hbind (fun b => .inl rfl) (fun b u z => nomatch z) (fun b z => absurd rfl z) (fun z => absurd rfl z) (hsp _ (fun b => .inl rfl) (.inr ⟨_, vs.toArray, _, hk, rfl, rfl, rfl, ?_, ?_⟩))
    · rw [List.size_toArray, hi.length]
      exact hl
    · rw [List.toList_toArray]
      exact rv
  | none =>
    have at_a : (fun b => if b = a then some (HO.frz { cls := .type "list", data := .seq vs.toArray } (.lst (ns.map V.int))) else none : Hp) a = some (HO.frz { cls := .type "list", data := .seq vs.toArray } (.lst (ns.map V.int))) := if_pos rfl
    have off : ∀ b, b ≠ a → (fun b => if b = a then some (HO.frz { cls := .type "list", data := .seq vs.toArray } (.lst (ns.map V.int))) else none : Hp) b = none := fun b h => if_neg h
    generalize (fun b => if b = a then some (HO.frz { cls := .type "list", data := .seq vs.toArray } (.lst (ns.map V.int))) else none : Hp) = H at at_a off
    have only : Only H := fun b => by
      by_cases e : b = a
      · exact .inr ⟨_, _, by rw [e]; exact at_a⟩
      · exact .inl (off b e)
    refine core_callG KX hns hb hbb hlim hg ha hr F hbind only (fun b u z => ?_) (fun b z => ?_) (fun _ => hk) (hsp H only (.inl (.inr ⟨_, at_a⟩)))
    · by_cases e : b = a
      · rw [e, at_a] at z
        cases z
        rw [e]
        exact ⟨ha, by rw [List.length_map]; exact hl, vs, _, rv, ha⟩
      · rw [off b e] at z
        cases z
    · by_cases e : b = a
      · exact e
      · exact absurd (off b e) z
end
theorem walkG {l : PySem.W.OpenLaw} {n k : Nat} {q : Program} {loose : List Str} {XP : (Str → Option Value) → Heap → Prop} {YP : World → Heap → Prop} {d : DefRec} {K : Params → PySem.W.Frag} {sp : PySem.W.Frag → Sp} {x : Str}
    (hn : l.most = some n) (hn2 : n ≤ sizeLine) (hdf : d.params.defaults = []) (hr : Room k callerA) (hY : ∀ (w : World) (h : Heap), YP w h → (K w.params).In h)
    (F : ∀ (w : World) (mg : Str → Option Value) (fa : Addr) (h : Heap), (K w.params).In h → h.Ns mainGlobals mg → mg d.name = some (.ref fa) →
      ∃ fd : FuncData, (∀ (s : Shared) (u : Value), BindsTo s fd ⟨[u], []⟩ [(x, u)]) ∧ ∀ base : Heap, (K w.params).In base → base.Ns mainGlobals mg → FnOkG l.prog w (K w.params) mg base k fa fd [x] (sp (K w.params)))
    (hsp : ∀ (K : PySem.W.Frag) (H : Hp) (a : Addr) (ns : List Int), ns.length ≤ n → Only H → SqL K H a (ns.map V.int) → sp K [.ref a] H (fun v _ => v = .bl true) fun _ _ _ => False) :
    PySem.W.WalkO q loose XP YP l.row.toRowW d [] (fun f vs => PySem.call f vs) := by
  refine Att.attach_call hn hdf ?_
  intro w s0 s1 mg mb fa o pm cd doc a vs ns G Y ho hd hcd hmg hobj hints hlen hg
  have KX := hY w _ Y
  obtain ⟨fd, hb, hF⟩ := F w mg fa _ KX G.T.g hmg
  exact law_callG KX G.T.g G.T.b G.T.builtins G.T.nolimit hg hobj hints (Nat.le_trans hlen hn2) hr hF hb (fun H hO hS => hsp _ H a ns hlen hO hS)
end Sc

namespace Sc
open PySem L2 PySem.Spec PyProof.Rows
/-! ### what the top has written -/
abbrev eA (p1 p2 : Pos) : Arguments := { posonlyargs := [], args := [{ arg := "self", annotation := none, pos := p1 }, { arg := "value", annotation := none, pos := p2 }], vararg := none, kwonlyargs := [], kw_defaults := [], kwarg := none, defaults := [] }
/-- an error class, whatever the program around it -/
def ErrAll (K : PySem.W.Frag) (mg : Str → Option Value) (S C fI : Addr) (fd : FuncData) (x : Str) : Prop := ∀ (P : Program) (w : World) (base : Heap), ErrF P w K mg base S C fI fd x
theorem err_mk {K : PySem.W.Frag} {h : Heap} {mg : Str → Option Value} (X : K.In h) (G : h.Ns mainGlobals mg) {S C fI N : Addr} (x qual : Str) (st : Stmt) {p1 p2 q1 q2 q3 q4 : Pos} (hA : defArgs st = eA p1 p2) (hB : defBody st = eB q1 q2 q3 q4) (hS : defScope st = eS)
    {nm q : Str} {bs : List Value} {sn : List Str} {sub : List Value} {ab : Bool} {col : Option Bool} {dd : Option Addr} {m0 m1 m2 m3 m5 : Option Value} {od an : Option Addr} {sl : Array (Option Value)} {oc kV dc pm cd ct : Value}
    (aC : PySem.W.nsIn K mainGlobals x = some (some (.ref C)))
    (xL : K.lookup C = some (excClassObj nm q C N bs (above S) true sn sub ab col dd m0 m1 m2 m3 m5 "ValueError.__new__"))
    (iC : PySem.W.findIn K (.ref C) "__init__" = some (some (.ref fI)))
    (l1 : K.lookup fI = some ⟨oc, od, .func (PySem.W.fnOf "__init__" qual (defArgs st) (defBody st) (defScope st) .none kV dc pm an cd ct), sl⟩)
    (c1 : PySem.W.codeIn K cd qual = true) (k1 : PySem.W.keepIn K (.ref fI) = true) (tI : PySem.W.typeIn K (.ref fI) = some (.type "function"))
    (sa : PySem.W.findIn K (.ref C) "__setattr__" = some (some (.builtin "object.__setattr__")))
    (ga : PySem.W.findIn K (.ref C) "__getattribute__" = some (some (.builtin "BaseException.__getattribute__")))
    (gg : PySem.W.findIn K (.ref C) "__getattr__" = some none) (nv : PySem.W.findIn K (.ref C) "value" = some none) (kC : PySem.W.keepIn K (.ref C) = true)
    (ty : PySem.W.typeIn K (.ref C) = some (.type "type")) (ha : PySem.W.findIn K (.ref C) "__class__" = some (some (.builtin "object.__class__"))) :
    ErrAll K mg S C fI (PySem.W.fnOf "__init__" qual (defArgs st) (defBody st) (defScope st) .none kV dc pm an cd ct) x := by
  intro P w base
  have E : ErrK K mg S C fI x := ⟨PySem.W.mg_of X G aC, ⟨nm, q, N, bs, sn, sub, ab, col, dd, m0, m1, m2, m3, m5, xL⟩, sa, ga, gg, nv, iC, tI, kC, ty, ha⟩
  have F := fun_mk (st := st) l1 c1 k1
  refine ⟨E, ok_err F E hB hS, fun a u s _ => ?_, fun a u s _ => ?_⟩
  · rw [hA, hB, hS]
    exact BindsTo.of_eq rfl
  · rw [hA, hB, hS]
    exact BindsTo.of_eq rfl
/-- a def of the module -/
def DefAt (K : PySem.W.Frag) (mg : Str → Option Value) (x : Str) (st : Stmt) (f : Addr) (fd : FuncData) : Prop := Fun K x x st f fd ∧ mg x = some (.ref f)
theorem def_mk {K : PySem.W.Frag} {h : Heap} {mg : Str → Option Value} (X : K.In h) (G : h.Ns mainGlobals mg) {f : Addr} (x : Str) (st : Stmt) {od an : Option Addr} {sl : Array (Option Value)} {oc kV dc pm cd ct : Value}
    (a1 : PySem.W.nsIn K mainGlobals x = some (some (.ref f)))
    (l1 : K.lookup f = some ⟨oc, od, .func (PySem.W.fnOf x x (defArgs st) (defBody st) (defScope st) .none kV dc pm an cd ct), sl⟩) (c1 : PySem.W.codeIn K cd x = true) (k1 : PySem.W.keepIn K (.ref f) = true) :
    DefAt K mg x st f (PySem.W.fnOf x x (defArgs st) (defBody st) (defScope st) .none kV dc pm an cd ct) := ⟨fun_mk (st := st) l1 c1 k1, PySem.W.mg_of X G a1⟩
abbrev sInit (i : Nat) : Stmt := inClass (top (i + 2)) 0
theorem getD_mem {l : List Addr} {j : Nat} (h : j < l.length) : l.getD j 0 ∈ l := by
  rw [List.getD_eq_getElem?_getD, List.getElem?_eq_getElem h]
  exact List.getElem_mem _
theorem no_twins : ∀ {l : List Addr}, l.Nodup → ∀ {i j : Nat}, i < l.length → j < l.length → l.getD i 0 = l.getD j 0 → i = j
  | [], _, i, _, hi, _, _ => absurd hi (Nat.not_lt_zero _)
  | _ :: _, _, 0, 0, _, _, _ => rfl
  | a :: l, h, 0, j + 1, _, hj, e => by
    have m : a ∈ l := by
      rw [show a = l.getD j 0 from e]
      exact getD_mem (Nat.lt_of_succ_lt_succ hj)
    exact absurd m (List.nodup_cons.mp h).1
  | a :: l, h, i + 1, 0, hi, _, e => by
    have m : a ∈ l := by
      rw [show a = l.getD i 0 from e.symm]
      exact getD_mem (Nat.lt_of_succ_lt_succ hi)
    exact absurd m (List.nodup_cons.mp h).1
  | a :: l, h, i + 1, j + 1, hi, hj, e => congrArg Nat.succ (no_twins (List.nodup_cons.mp h).2 (Nat.lt_of_succ_lt_succ hi) (Nat.lt_of_succ_lt_succ hj) e)

theorem all_mk {l : PySem.W.OpenLaw} {w : World} {K : PySem.W.Frag} {h : Heap} {mg : Str → Option Value} {fa S : Addr} (X : K.In h) (G : h.Ns mainGlobals mg) (hfa : mg "law" = some (.ref fa))
    {C0 C1 C2 C3 C4 C5 C6 C7 C8 C9 C10 C11 C12 C13 C14 C15 C16 C17 C18 C19 C20 C21 C22 C23 C24 C25 C26 f0 f1 f2 f3 f4 f5 f6 f7 f8 f9 f10 f11 f12 f13 f14 f15 f16 f17 f18 f19 f20 f21 f22 f23 f24 f25 f26 : Addr} {d0 d1 d2 d3 d4 d5 d6 d7 d8 d9 d10 d11 d12 d13 d14 d15 d16 d17 d18 d19 d20 d21 d22 d23 d24 d25 d26 : FuncData}
    {g0 g1 g2 g3 g4 g5 g6 g7 g8 : Addr} {e0 e1 e2 e3 e4 e5 e6 e7 e8 : FuncData}
    (aS : PySem.W.nsIn K mainGlobals "ScriptError" = some (some (.ref S))) (tS : PySem.W.typeIn K (.ref S) = some (.type "type")) (cS : PySem.W.isClsIn K S = true)
    (E0 : ErrAll K mg S C0 f0 d0 "BadRelease")
    (E1 : ErrAll K mg S C1 f1 d1 "Doubled")
    (E2 : ErrAll K mg S C2 f2 d2 "Unnamed")
    (E3 : ErrAll K mg S C3 f3 d3 "RingOfNeeds")
    (E4 : ErrAll K mg S C4 f4 d4 "TooLarge")
    (E5 : ErrAll K mg S C5 f5 d5 "TooMany")
    (E6 : ErrAll K mg S C6 f6 d6 "BadProgram")
    (E7 : ErrAll K mg S C7 f7 d7 "BadWords")
    (E8 : ErrAll K mg S C8 f8 d8 "NoProgram")
    (E9 : ErrAll K mg S C9 f9 d9 "NoSet")
    (E10 : ErrAll K mg S C10 f10 d10 "NoStep")
    (E11 : ErrAll K mg S C11 f11 d11 "NoOrder")
    (E12 : ErrAll K mg S C12 f12 d12 "Failed")
    (E13 : ErrAll K mg S C13 f13 d13 "Endless")
    (E14 : ErrAll K mg S C14 f14 d14 "BadMoment")
    (E15 : ErrAll K mg S C15 f15 d15 "BadChoice")
    (E16 : ErrAll K mg S C16 f16 d16 "BadStop")
    (E17 : ErrAll K mg S C17 f17 d17 "NotLater")
    (E18 : ErrAll K mg S C18 f18 d18 "OtherNames")
    (E19 : ErrAll K mg S C19 f19 d19 "NotKept")
    (E20 : ErrAll K mg S C20 f20 d20 "Busy")
    (E21 : ErrAll K mg S C21 f21 d21 "NoCell")
    (E22 : ErrAll K mg S C22 f22 d22 "NoWord")
    (E23 : ErrAll K mg S C23 f23 d23 "NotLet")
    (E24 : ErrAll K mg S C24 f24 d24 "Idle")
    (E25 : ErrAll K mg S C25 f25 d25 "BadText")
    (E26 : ErrAll K mg S C26 f26 d26 "BadLine")
    (nd : (S :: [C0, C1, C2, C3, C4, C5, C6, C7, C8, C9, C10, C11, C12, C13, C14, C15, C16, C17, C18, C19, C20, C21, C22, C23, C24, C25, C26]).Nodup)
    (hn : PySem.W.specialIn K (.builtin "object.__class__") "__get__" = some (some (.builtin "getset_descriptor.__get__"))) (ht : PySem.W.takesIn K (.builtin "object.__class__") = some true)
    (D0 : DefAt K mg "_law_pot_of" sPot g0 e0)
    (D1 : DefAt K mg "_law_take" sTake g1 e1)
    (D2 : DefAt K mg "_law_of" sOf g2 e2)
    (D3 : DefAt K mg "_law_odd" sOdd g3 e3)
    (D4 : DefAt K mg "_law_classes" sClasses g4 e4)
    (D5 : DefAt K mg "_law_made" sMade g5 e5)
    (D6 : DefAt K mg "_law_made_by_name" sNamed g6 e6)
    (D7 : DefAt K mg "_law_right" sRight g7 e7)
    (D8 : DefAt K mg "law" sLaw g8 e8)
    (z_isinstance : PySem.W.nsIn K mainGlobals "isinstance" = some none)
    (z_ValueError : PySem.W.nsIn K mainGlobals "ValueError" = some none)
    (z_len : PySem.W.nsIn K mainGlobals "len" = some none)
    (z_abs : PySem.W.nsIn K mainGlobals "abs" = some none)
    (z_int : PySem.W.nsIn K mainGlobals "int" = some none)
    (z_repr : PySem.W.nsIn K mainGlobals "repr" = some none)
    (z_enumerate : PySem.W.nsIn K mainGlobals "enumerate" = some none)
    (z_range : PySem.W.nsIn K mainGlobals "range" = some none)
    (z_max : PySem.W.nsIn K mainGlobals "max" = some none)
    (z_min : PySem.W.nsIn K mainGlobals "min" = some none)
    (z_all : PySem.W.nsIn K mainGlobals "all" = some none)
    (hB : ∀ (s : Shared) (u : Value), BindsTo s e8 ⟨[u], []⟩ [("_law_script", u)])
    (b0 : Binds K e0 ["_law_script", "_law_k"] [])
    (b1 : Binds K e1 ["_law_pot", "_law_upto"] [])
    (b2 : Binds K e2 ["_law_pot", "_law_some"] [])
    (b3 : Binds K e3 ["_law_pot"] [])
    (b4 : Binds K e4 ["_law_error"] [])
    (b5 : Binds K e5 ["_law_thing"] [])
    (b6 : Binds K e6 ["_law_thing"] [])
    (b7 : Binds K e7 ["_law_pot"] [])
    : ∃ fd : FuncData, (∀ (s : Shared) (u : Value), BindsTo s fd ⟨[u], []⟩ [("_law_script", u)]) ∧ ∀ base : Heap, K.In base → base.Ns mainGlobals mg → FnOkG l.prog w K mg base 5 fa fd ["_law_script"] (spLaw K) := by
  have e := hfa.symm.trans D8.2
  cases e
  have z : ∀ {n : Str}, PySem.W.nsIn K mainGlobals n = some none → mg n = none := fun h => PySem.W.mg_none_of X G h
  refine ⟨e8, hB, fun base _ _ => ?_⟩
  have T0 : Nat0 mg := ⟨z z_len, z z_abs, z z_int⟩
  have T1 : Nat1 mg := ⟨z z_repr, z z_enumerate, z z_range, z z_len⟩
  have T2 : Nat2 mg := ⟨z z_range, z z_max, z z_min, z z_len, z z_all⟩
  have A : All l.prog w K mg base S (fun i => [C0, C1, C2, C3, C4, C5, C6, C7, C8, C9, C10, C11, C12, C13, C14, C15, C16, C17, C18, C19, C20, C21, C22, C23, C24, C25, C26].getD i 0) (fun i => [f0, f1, f2, f3, f4, f5, f6, f7, f8, f9, f10, f11, f12, f13, f14, f15, f16, f17, f18, f19, f20, f21, f22, f23, f24, f25, f26].getD i 0) (fun i => [d0, d1, d2, d3, d4, d5, d6, d7, d8, d9, d10, d11, d12, d13, d14, d15, d16, d17, d18, d19, d20, d21, d22, d23, d24, d25, d26].getD i e8) := by
    refine ⟨fun i hi => ?_, fun i hi e => ?_, fun i j hi hj e => no_twins (List.nodup_cons.mp nd).2 hi hj e, PySem.W.mg_of X G aS, tS, cS, ⟨hn, ht⟩, z z_isinstance, z z_ValueError⟩
    · match i, hi with
      | 0, _ => exact E0 _ _ _
      | 1, _ => exact E1 _ _ _
      | 2, _ => exact E2 _ _ _
      | 3, _ => exact E3 _ _ _
      | 4, _ => exact E4 _ _ _
      | 5, _ => exact E5 _ _ _
      | 6, _ => exact E6 _ _ _
      | 7, _ => exact E7 _ _ _
      | 8, _ => exact E8 _ _ _
      | 9, _ => exact E9 _ _ _
      | 10, _ => exact E10 _ _ _
      | 11, _ => exact E11 _ _ _
      | 12, _ => exact E12 _ _ _
      | 13, _ => exact E13 _ _ _
      | 14, _ => exact E14 _ _ _
      | 15, _ => exact E15 _ _ _
      | 16, _ => exact E16 _ _ _
      | 17, _ => exact E17 _ _ _
      | 18, _ => exact E18 _ _ _
      | 19, _ => exact E19 _ _ _
      | 20, _ => exact E20 _ _ _
      | 21, _ => exact E21 _ _ _
      | 22, _ => exact E22 _ _ _
      | 23, _ => exact E23 _ _ _
      | 24, _ => exact E24 _ _ _
      | 25, _ => exact E25 _ _ _
      | 26, _ => exact E26 _ _ _
      | n + 27, hi => exact absurd hi (by omega)
    · refine (List.nodup_cons.mp nd).1 ?_
      rw [← e, List.getD_eq_getElem?_getD, List.getElem?_eq_getElem (show i < [C0, C1, C2, C3, C4, C5, C6, C7, C8, C9, C10, C11, C12, C13, C14, C15, C16, C17, C18, C19, C20, C21, C22, C23, C24, C25, C26].length from hi)]
      exact List.getElem_mem _
  have G0 : FnOk l.prog w K mg base CX0 1 g0 e0 _ _ := ok_pot D0.1 T0
  have G1 : FnOk l.prog w K mg base CX0 1 g1 e1 _ _ := ok_take D1.1 T0
  have G2 : FnOk l.prog w K mg base CX0 2 g2 e2 _ _ := ok_of D2.1 T0 G1 D1.2 D1.1.kp b1
  have G3 : FnOk l.prog w K mg base CX0 3 g3 e3 _ _ := ok_odd D3.1 (z z_range) G2 D2.2 D2.1.kp b2
  have G4 : FnOk l.prog w K mg base CX0 1 g4 e4 _ _ := ok_classes D4.1 A
  have G5 : FnOk l.prog w K mg base CX0 3 g5 e5 _ _ := ok_made D5.1 A
  have G6 : FnOk l.prog w K mg base CX0 3 g6 e6 _ _ := ok_named D6.1 A
  have G7 := ok_right D7.1 A T1 G3 D3.2 D3.1.kp b3 G5 D5.2 D5.1.kp b5 G6 D6.2 D6.1.kp b6 G4 D4.2 D4.1.kp b4
  exact ok_law D8.1 T2 G0 D0.2 D0.1.kp b0 G7 D7.2 D7.1.kp b7
end Sc

open PySem PySem.W PyProof.Rows
set_option maxRecDepth 100000 in
set_option maxHeartbeats 0 in
theorem PySem.Challenge.cw_scriptsamid_k62_errors_with_any_values_holds : PySem.Challenge.rw_scriptsamid_k62_errors_with_any_values.Holds := by
  w_on; o_law; k_head; (case hw => w_witness2)
  k_fill
  refine Sc.walkG (l := PySem.Challenge.rw_scriptsamid_k62_errors_with_any_values) (n := 63) (k := 5) (x := "_law_script") (sp := Sc.spLaw) rfl (by decide) rfl ⟨rfl, by decide, by decide⟩ (fun w h Y => PySem.W.kIn_of Y) ?F ?S
  case S =>
    intro K H a ns hl _ hS
    exact ⟨a, ns, rfl, hS, hl, fun _ => rfl⟩
  case F =>
    intro w mg fa h KX G hmg
    refine' Sc.all_mk KX G hmg ?aS ?tS ?cS ?E0 ?E1 ?E2 ?E3 ?E4 ?E5 ?E6 ?E7 ?E8 ?E9 ?E10 ?E11 ?E12 ?E13 ?E14 ?E15 ?E16 ?E17 ?E18 ?E19 ?E20 ?E21 ?E22 ?E23 ?E24 ?E25 ?E26 ?nd ?hn ?ht ?D0 ?D1 ?D2 ?D3 ?D4 ?D5 ?D6 ?D7 ?D8 ?z_isinstance ?z_ValueError ?z_len ?z_abs ?z_int ?z_repr ?z_enumerate ?z_range ?z_max ?z_min ?z_all ?hB ?b0 ?b1 ?b2 ?b3 ?b4 ?b5 ?b6 ?b7
    (case aS => k_is); (case tS => k_is); (case cS => k_is)
    (case E0 => refine' Sc.err_mk KX G "BadRelease" "BadRelease.__init__" (Sc.sInit 0) rfl rfl rfl ?aC ?xL ?iC ?l1 ?c1 ?k1 ?tI ?sa ?ga ?gg ?nv ?kC ?ty ?ha; (case aC => k_is); (case xL => k_is); (case iC => k_is); (case l1 => k_is); (case c1 => k_is); (case k1 => k_is); (case tI => k_is); (case sa => k_is); (case ga => k_is); (case gg => k_is); (case nv => k_is); (case kC => k_is); (case ty => k_is); (case ha => k_is))
    (case E1 => refine' Sc.err_mk KX G "Doubled" "Doubled.__init__" (Sc.sInit 1) rfl rfl rfl ?aC ?xL ?iC ?l1 ?c1 ?k1 ?tI ?sa ?ga ?gg ?nv ?kC ?ty ?ha; (case aC => k_is); (case xL => k_is); (case iC => k_is); (case l1 => k_is); (case c1 => k_is); (case k1 => k_is); (case tI => k_is); (case sa => k_is); (case ga => k_is); (case gg => k_is); (case nv => k_is); (case kC => k_is); (case ty => k_is); (case ha => k_is))
    (case E2 => refine' Sc.err_mk KX G "Unnamed" "Unnamed.__init__" (Sc.sInit 2) rfl rfl rfl ?aC ?xL ?iC ?l1 ?c1 ?k1 ?tI ?sa ?ga ?gg ?nv ?kC ?ty ?ha; (case aC => k_is); (case xL => k_is); (case iC => k_is); (case l1 => k_is); (case c1 => k_is); (case k1 => k_is); (case tI => k_is); (case sa => k_is); (case ga => k_is); (case gg => k_is); (case nv => k_is); (case kC => k_is); (case ty => k_is); (case ha => k_is))
    (case E3 => refine' Sc.err_mk KX G "RingOfNeeds" "RingOfNeeds.__init__" (Sc.sInit 3) rfl rfl rfl ?aC ?xL ?iC ?l1 ?c1 ?k1 ?tI ?sa ?ga ?gg ?nv ?kC ?ty ?ha; (case aC => k_is); (case xL => k_is); (case iC => k_is); (case l1 => k_is); (case c1 => k_is); (case k1 => k_is); (case tI => k_is); (case sa => k_is); (case ga => k_is); (case gg => k_is); (case nv => k_is); (case kC => k_is); (case ty => k_is); (case ha => k_is))
    (case E4 => refine' Sc.err_mk KX G "TooLarge" "TooLarge.__init__" (Sc.sInit 4) rfl rfl rfl ?aC ?xL ?iC ?l1 ?c1 ?k1 ?tI ?sa ?ga ?gg ?nv ?kC ?ty ?ha; (case aC => k_is); (case xL => k_is); (case iC => k_is); (case l1 => k_is); (case c1 => k_is); (case k1 => k_is); (case tI => k_is); (case sa => k_is); (case ga => k_is); (case gg => k_is); (case nv => k_is); (case kC => k_is); (case ty => k_is); (case ha => k_is))
    (case E5 => refine' Sc.err_mk KX G "TooMany" "TooMany.__init__" (Sc.sInit 5) rfl rfl rfl ?aC ?xL ?iC ?l1 ?c1 ?k1 ?tI ?sa ?ga ?gg ?nv ?kC ?ty ?ha; (case aC => k_is); (case xL => k_is); (case iC => k_is); (case l1 => k_is); (case c1 => k_is); (case k1 => k_is); (case tI => k_is); (case sa => k_is); (case ga => k_is); (case gg => k_is); (case nv => k_is); (case kC => k_is); (case ty => k_is); (case ha => k_is))
    (case E6 => refine' Sc.err_mk KX G "BadProgram" "BadProgram.__init__" (Sc.sInit 6) rfl rfl rfl ?aC ?xL ?iC ?l1 ?c1 ?k1 ?tI ?sa ?ga ?gg ?nv ?kC ?ty ?ha; (case aC => k_is); (case xL => k_is); (case iC => k_is); (case l1 => k_is); (case c1 => k_is); (case k1 => k_is); (case tI => k_is); (case sa => k_is); (case ga => k_is); (case gg => k_is); (case nv => k_is); (case kC => k_is); (case ty => k_is); (case ha => k_is))
    (case E7 => refine' Sc.err_mk KX G "BadWords" "BadWords.__init__" (Sc.sInit 7) rfl rfl rfl ?aC ?xL ?iC ?l1 ?c1 ?k1 ?tI ?sa ?ga ?gg ?nv ?kC ?ty ?ha; (case aC => k_is); (case xL => k_is); (case iC => k_is); (case l1 => k_is); (case c1 => k_is); (case k1 => k_is); (case tI => k_is); (case sa => k_is); (case ga => k_is); (case gg => k_is); (case nv => k_is); (case kC => k_is); (case ty => k_is); (case ha => k_is))
    (case E8 => refine' Sc.err_mk KX G "NoProgram" "NoProgram.__init__" (Sc.sInit 8) rfl rfl rfl ?aC ?xL ?iC ?l1 ?c1 ?k1 ?tI ?sa ?ga ?gg ?nv ?kC ?ty ?ha; (case aC => k_is); (case xL => k_is); (case iC => k_is); (case l1 => k_is); (case c1 => k_is); (case k1 => k_is); (case tI => k_is); (case sa => k_is); (case ga => k_is); (case gg => k_is); (case nv => k_is); (case kC => k_is); (case ty => k_is); (case ha => k_is))
    (case E9 => refine' Sc.err_mk KX G "NoSet" "NoSet.__init__" (Sc.sInit 9) rfl rfl rfl ?aC ?xL ?iC ?l1 ?c1 ?k1 ?tI ?sa ?ga ?gg ?nv ?kC ?ty ?ha; (case aC => k_is); (case xL => k_is); (case iC => k_is); (case l1 => k_is); (case c1 => k_is); (case k1 => k_is); (case tI => k_is); (case sa => k_is); (case ga => k_is); (case gg => k_is); (case nv => k_is); (case kC => k_is); (case ty => k_is); (case ha => k_is))
    (case E10 => refine' Sc.err_mk KX G "NoStep" "NoStep.__init__" (Sc.sInit 10) rfl rfl rfl ?aC ?xL ?iC ?l1 ?c1 ?k1 ?tI ?sa ?ga ?gg ?nv ?kC ?ty ?ha; (case aC => k_is); (case xL => k_is); (case iC => k_is); (case l1 => k_is); (case c1 => k_is); (case k1 => k_is); (case tI => k_is); (case sa => k_is); (case ga => k_is); (case gg => k_is); (case nv => k_is); (case kC => k_is); (case ty => k_is); (case ha => k_is))
    (case E11 => refine' Sc.err_mk KX G "NoOrder" "NoOrder.__init__" (Sc.sInit 11) rfl rfl rfl ?aC ?xL ?iC ?l1 ?c1 ?k1 ?tI ?sa ?ga ?gg ?nv ?kC ?ty ?ha; (case aC => k_is); (case xL => k_is); (case iC => k_is); (case l1 => k_is); (case c1 => k_is); (case k1 => k_is); (case tI => k_is); (case sa => k_is); (case ga => k_is); (case gg => k_is); (case nv => k_is); (case kC => k_is); (case ty => k_is); (case ha => k_is))
    (case E12 => refine' Sc.err_mk KX G "Failed" "Failed.__init__" (Sc.sInit 12) rfl rfl rfl ?aC ?xL ?iC ?l1 ?c1 ?k1 ?tI ?sa ?ga ?gg ?nv ?kC ?ty ?ha; (case aC => k_is); (case xL => k_is); (case iC => k_is); (case l1 => k_is); (case c1 => k_is); (case k1 => k_is); (case tI => k_is); (case sa => k_is); (case ga => k_is); (case gg => k_is); (case nv => k_is); (case kC => k_is); (case ty => k_is); (case ha => k_is))
    (case E13 => refine' Sc.err_mk KX G "Endless" "Endless.__init__" (Sc.sInit 13) rfl rfl rfl ?aC ?xL ?iC ?l1 ?c1 ?k1 ?tI ?sa ?ga ?gg ?nv ?kC ?ty ?ha; (case aC => k_is); (case xL => k_is); (case iC => k_is); (case l1 => k_is); (case c1 => k_is); (case k1 => k_is); (case tI => k_is); (case sa => k_is); (case ga => k_is); (case gg => k_is); (case nv => k_is); (case kC => k_is); (case ty => k_is); (case ha => k_is))
    (case E14 => refine' Sc.err_mk KX G "BadMoment" "BadMoment.__init__" (Sc.sInit 14) rfl rfl rfl ?aC ?xL ?iC ?l1 ?c1 ?k1 ?tI ?sa ?ga ?gg ?nv ?kC ?ty ?ha; (case aC => k_is); (case xL => k_is); (case iC => k_is); (case l1 => k_is); (case c1 => k_is); (case k1 => k_is); (case tI => k_is); (case sa => k_is); (case ga => k_is); (case gg => k_is); (case nv => k_is); (case kC => k_is); (case ty => k_is); (case ha => k_is))
    (case E15 => refine' Sc.err_mk KX G "BadChoice" "BadChoice.__init__" (Sc.sInit 15) rfl rfl rfl ?aC ?xL ?iC ?l1 ?c1 ?k1 ?tI ?sa ?ga ?gg ?nv ?kC ?ty ?ha; (case aC => k_is); (case xL => k_is); (case iC => k_is); (case l1 => k_is); (case c1 => k_is); (case k1 => k_is); (case tI => k_is); (case sa => k_is); (case ga => k_is); (case gg => k_is); (case nv => k_is); (case kC => k_is); (case ty => k_is); (case ha => k_is))
    (case E16 => refine' Sc.err_mk KX G "BadStop" "BadStop.__init__" (Sc.sInit 16) rfl rfl rfl ?aC ?xL ?iC ?l1 ?c1 ?k1 ?tI ?sa ?ga ?gg ?nv ?kC ?ty ?ha; (case aC => k_is); (case xL => k_is); (case iC => k_is); (case l1 => k_is); (case c1 => k_is); (case k1 => k_is); (case tI => k_is); (case sa => k_is); (case ga => k_is); (case gg => k_is); (case nv => k_is); (case kC => k_is); (case ty => k_is); (case ha => k_is))
    (case E17 => refine' Sc.err_mk KX G "NotLater" "NotLater.__init__" (Sc.sInit 17) rfl rfl rfl ?aC ?xL ?iC ?l1 ?c1 ?k1 ?tI ?sa ?ga ?gg ?nv ?kC ?ty ?ha; (case aC => k_is); (case xL => k_is); (case iC => k_is); (case l1 => k_is); (case c1 => k_is); (case k1 => k_is); (case tI => k_is); (case sa => k_is); (case ga => k_is); (case gg => k_is); (case nv => k_is); (case kC => k_is); (case ty => k_is); (case ha => k_is))
    (case E18 => refine' Sc.err_mk KX G "OtherNames" "OtherNames.__init__" (Sc.sInit 18) rfl rfl rfl ?aC ?xL ?iC ?l1 ?c1 ?k1 ?tI ?sa ?ga ?gg ?nv ?kC ?ty ?ha; (case aC => k_is); (case xL => k_is); (case iC => k_is); (case l1 => k_is); (case c1 => k_is); (case k1 => k_is); (case tI => k_is); (case sa => k_is); (case ga => k_is); (case gg => k_is); (case nv => k_is); (case kC => k_is); (case ty => k_is); (case ha => k_is))
    (case E19 => refine' Sc.err_mk KX G "NotKept" "NotKept.__init__" (Sc.sInit 19) rfl rfl rfl ?aC ?xL ?iC ?l1 ?c1 ?k1 ?tI ?sa ?ga ?gg ?nv ?kC ?ty ?ha; (case aC => k_is); (case xL => k_is); (case iC => k_is); (case l1 => k_is); (case c1 => k_is); (case k1 => k_is); (case tI => k_is); (case sa => k_is); (case ga => k_is); (case gg => k_is); (case nv => k_is); (case kC => k_is); (case ty => k_is); (case ha => k_is))
    (case E20 => refine' Sc.err_mk KX G "Busy" "Busy.__init__" (Sc.sInit 20) rfl rfl rfl ?aC ?xL ?iC ?l1 ?c1 ?k1 ?tI ?sa ?ga ?gg ?nv ?kC ?ty ?ha; (case aC => k_is); (case xL => k_is); (case iC => k_is); (case l1 => k_is); (case c1 => k_is); (case k1 => k_is); (case tI => k_is); (case sa => k_is); (case ga => k_is); (case gg => k_is); (case nv => k_is); (case kC => k_is); (case ty => k_is); (case ha => k_is))
    (case E21 => refine' Sc.err_mk KX G "NoCell" "NoCell.__init__" (Sc.sInit 21) rfl rfl rfl ?aC ?xL ?iC ?l1 ?c1 ?k1 ?tI ?sa ?ga ?gg ?nv ?kC ?ty ?ha; (case aC => k_is); (case xL => k_is); (case iC => k_is); (case l1 => k_is); (case c1 => k_is); (case k1 => k_is); (case tI => k_is); (case sa => k_is); (case ga => k_is); (case gg => k_is); (case nv => k_is); (case kC => k_is); (case ty => k_is); (case ha => k_is))
    (case E22 => refine' Sc.err_mk KX G "NoWord" "NoWord.__init__" (Sc.sInit 22) rfl rfl rfl ?aC ?xL ?iC ?l1 ?c1 ?k1 ?tI ?sa ?ga ?gg ?nv ?kC ?ty ?ha; (case aC => k_is); (case xL => k_is); (case iC => k_is); (case l1 => k_is); (case c1 => k_is); (case k1 => k_is); (case tI => k_is); (case sa => k_is); (case ga => k_is); (case gg => k_is); (case nv => k_is); (case kC => k_is); (case ty => k_is); (case ha => k_is))
    (case E23 => refine' Sc.err_mk KX G "NotLet" "NotLet.__init__" (Sc.sInit 23) rfl rfl rfl ?aC ?xL ?iC ?l1 ?c1 ?k1 ?tI ?sa ?ga ?gg ?nv ?kC ?ty ?ha; (case aC => k_is); (case xL => k_is); (case iC => k_is); (case l1 => k_is); (case c1 => k_is); (case k1 => k_is); (case tI => k_is); (case sa => k_is); (case ga => k_is); (case gg => k_is); (case nv => k_is); (case kC => k_is); (case ty => k_is); (case ha => k_is))
    (case E24 => refine' Sc.err_mk KX G "Idle" "Idle.__init__" (Sc.sInit 24) rfl rfl rfl ?aC ?xL ?iC ?l1 ?c1 ?k1 ?tI ?sa ?ga ?gg ?nv ?kC ?ty ?ha; (case aC => k_is); (case xL => k_is); (case iC => k_is); (case l1 => k_is); (case c1 => k_is); (case k1 => k_is); (case tI => k_is); (case sa => k_is); (case ga => k_is); (case gg => k_is); (case nv => k_is); (case kC => k_is); (case ty => k_is); (case ha => k_is))
    (case E25 => refine' Sc.err_mk KX G "BadText" "BadText.__init__" (Sc.sInit 25) rfl rfl rfl ?aC ?xL ?iC ?l1 ?c1 ?k1 ?tI ?sa ?ga ?gg ?nv ?kC ?ty ?ha; (case aC => k_is); (case xL => k_is); (case iC => k_is); (case l1 => k_is); (case c1 => k_is); (case k1 => k_is); (case tI => k_is); (case sa => k_is); (case ga => k_is); (case gg => k_is); (case nv => k_is); (case kC => k_is); (case ty => k_is); (case ha => k_is))
    (case E26 => refine' Sc.err_mk KX G "BadLine" "BadLine.__init__" (Sc.sInit 26) rfl rfl rfl ?aC ?xL ?iC ?l1 ?c1 ?k1 ?tI ?sa ?ga ?gg ?nv ?kC ?ty ?ha; (case aC => k_is); (case xL => k_is); (case iC => k_is); (case l1 => k_is); (case c1 => k_is); (case k1 => k_is); (case tI => k_is); (case sa => k_is); (case ga => k_is); (case gg => k_is); (case nv => k_is); (case kC => k_is); (case ty => k_is); (case ha => k_is))
    (case nd => decide)
    (case hn => k_is); (case ht => k_is)
    (case D0 => refine' Sc.def_mk KX G "_law_pot_of" Sc.sPot ?a1 ?l1 ?c1 ?k1; (case a1 => k_is); (case l1 => k_is); (case c1 => k_is); (case k1 => k_is))
    (case D1 => refine' Sc.def_mk KX G "_law_take" Sc.sTake ?a1 ?l1 ?c1 ?k1; (case a1 => k_is); (case l1 => k_is); (case c1 => k_is); (case k1 => k_is))
    (case D2 => refine' Sc.def_mk KX G "_law_of" Sc.sOf ?a1 ?l1 ?c1 ?k1; (case a1 => k_is); (case l1 => k_is); (case c1 => k_is); (case k1 => k_is))
    (case D3 => refine' Sc.def_mk KX G "_law_odd" Sc.sOdd ?a1 ?l1 ?c1 ?k1; (case a1 => k_is); (case l1 => k_is); (case c1 => k_is); (case k1 => k_is))
    (case D4 => refine' Sc.def_mk KX G "_law_classes" Sc.sClasses ?a1 ?l1 ?c1 ?k1; (case a1 => k_is); (case l1 => k_is); (case c1 => k_is); (case k1 => k_is))
    (case D5 => refine' Sc.def_mk KX G "_law_made" Sc.sMade ?a1 ?l1 ?c1 ?k1; (case a1 => k_is); (case l1 => k_is); (case c1 => k_is); (case k1 => k_is))
    (case D6 => refine' Sc.def_mk KX G "_law_made_by_name" Sc.sNamed ?a1 ?l1 ?c1 ?k1; (case a1 => k_is); (case l1 => k_is); (case c1 => k_is); (case k1 => k_is))
    (case D7 => refine' Sc.def_mk KX G "_law_right" Sc.sRight ?a1 ?l1 ?c1 ?k1; (case a1 => k_is); (case l1 => k_is); (case c1 => k_is); (case k1 => k_is))
    (case D8 => refine' Sc.def_mk KX G "law" Sc.sLaw ?a1 ?l1 ?c1 ?k1; (case a1 => k_is); (case l1 => k_is); (case c1 => k_is); (case k1 => k_is))
    (case z_isinstance => k_is)
    (case z_ValueError => k_is)
    (case z_len => k_is)
    (case z_abs => k_is)
    (case z_int => k_is)
    (case z_repr => k_is)
    (case z_enumerate => k_is)
    (case z_range => k_is)
    (case z_max => k_is)
    (case z_min => k_is)
    (case z_all => k_is)
    (case hB => exact fun s u => .of_eq rfl)
    (case b0 => exact L2.Binds.all fun us hl => match us, hl with | [_, _], _ => rfl)
    (case b1 => exact L2.Binds.all fun us hl => match us, hl with | [_, _], _ => rfl)
    (case b2 => exact L2.Binds.all fun us hl => match us, hl with | [_, _], _ => rfl)
    (case b3 => exact L2.Binds.all fun us hl => match us, hl with | [_], _ => rfl)
    (case b4 => exact L2.Binds.all fun us hl => match us, hl with | [_], _ => rfl)
    (case b5 => exact L2.Binds.all fun us hl => match us, hl with | [_], _ => rfl)
    (case b6 => exact L2.Binds.all fun us hl => match us, hl with | [_], _ => rfl)
    (case b7 => exact L2.Binds.all fun us hl => match us, hl with | [_], _ => rfl)
#print axioms PySem.Challenge.cw_scriptsamid_k62_errors_with_any_values_holds

