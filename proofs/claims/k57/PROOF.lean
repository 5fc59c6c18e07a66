import PyProof.Rows.All
import Wide.All
import OpenK.AllK
import Wide.FinOn
import HandS.Base
import HandS.Call
import HandS.List
import HandS.Comp
import HandS.Ends
import HandS.Dict
import HandS.Iter
import HandS.Words
import HandS.WordsList
import HandS.Wide
import HandS.Exc
import HandS.ExcInit
import HandS.Defaults
import KE.KExcIs
import HandS.ForMost
import HandS.Walk
import HandS.Text
import HandS.TryOnly
import HandS.WordsExc
import HandS.Zip
import HandS.Flow
import HandS.Deep
import HandS.IsInst
import HandS.FStr
import HandS.Codes
import HandS.ExcIs
import PySem.Challenge.RW_scriptsamid_k57_runs_written_and_read
set_option Elab.async false
set_option linter.all false
set_option maxRecDepth 100000
namespace Sc
open PySem L2
def top (i : Nat) : Stmt := PySem.Challenge.pw_scriptsamid_k57_runs_written_and_read.main.body.getD i (.Pass ⟨0, 0, 0, 0⟩)
abbrev sPot : Stmt := top 21
abbrev sTake : Stmt := top 22
abbrev sOf : Stmt := top 23
theorem scPot : FnScope ["_law_script", "_law_k", "_law_cell", "_law_own"] ["_law_script", "_law_k"] (defScope sPot) := ⟨rfl, rfl, rfl, by decide +kernel, rfl, by decide +kernel, by decide +kernel⟩
theorem scTake : FnScope ["_law_pot", "_law_upto", "_law_digit", "_law_prime", "_law_mixed"] ["_law_pot", "_law_upto"] (defScope sTake) := ⟨rfl, rfl, rfl, by decide +kernel, rfl, by decide +kernel, by decide +kernel⟩
theorem scOf : FnScope ["_law_pot", "_law_some"] ["_law_pot", "_law_some"] (defScope sOf) := ⟨rfl, rfl, rfl, by decide +kernel, rfl, by decide +kernel, by decide +kernel⟩
end Sc

set_option maxRecDepth 100000
namespace Sc
open PySem L2 PyProof.Rows
def CPowW (i j : Int) : Prop := 0 ≤ j ∧ (Builtin.Int.intBits i : Int) * j ≤ 2 ^ 27
theorem op_powW {X : Cx} : OpR X (binaryOp .Pow) (rI CPowW fun i j => .int (i ^ j.toNat)) := opI fun _ _ _ _ _ _ _ hc q => pow_int hc.1 hc.2 q
/-- the names that the helpers use stand for the built-ins -/
structure Nat0 (mg : Str → Option Value) : Prop where
  len : mg "len" = none
  abs : mg "abs" = none
  int : mg "int" = none
theorem cell_num (c : Int) : 0 ≤ (if c < 0 then -c else c) % ((10 ^ (60 : Int).toNat) ^ (5 : Int).toNat) * (if decide ((10 : Int) ^ (18 : Int).toNat ≤ if c < 0 then -c else c) = true then 1 else 0) ∧
    (if c < 0 then -c else c) % ((10 ^ (60 : Int).toNat) ^ (5 : Int).toNat) * (if decide ((10 : Int) ^ (18 : Int).toNat ≤ if c < 0 then -c else c) = true then 1 else 0) < 10 ^ 300 := by
  have e1 : ((10 : Int) ^ (60 : Int).toNat) ^ (5 : Int).toNat = 10 ^ 300 := by decide +kernel
  rw [e1]
  have p1 : (0 : Int) < 10 ^ 300 := by decide +kernel
  generalize (10 : Int) ^ 300 = M at p1
  have a1 := Int.emod_nonneg (if c < 0 then -c else c) (show M ≠ 0 by omega)
  have a2 := Int.emod_lt_of_pos (if c < 0 then -c else c) p1
  by_cases h : decide ((10 : Int) ^ (18 : Int).toNat ≤ if c < 0 then -c else c) = true
  · rw [if_pos h, Int.mul_one]; exact ⟨a1, a2⟩
  · rw [if_neg h, Int.mul_zero]; exact ⟨Int.le_refl _, p1⟩
theorem bit_small (c : Prop) [Decidable c] : -(2 ^ 64) < (if c then (1 : Int) else 0) ∧ (if c then (1 : Int) else 0) < 2 ^ 64 := by
  split <;> exact ⟨by decide, by decide⟩
def spPot (K : PySem.W.Frag) : Sp := fun vs H Q _ => ∃ (a : Addr) (ns : List Int) (k : Nat), vs = [.ref a, .int (k : Nat)] ∧ SqL K H a (ns.map V.int) ∧ k < 3 ∧
  ∀ (p : Addr) (o m : Int), H p = none → 0 ≤ o → o < 10 ^ 300 → 0 ≤ m → m < 2305843009213693921 → Q (.ref p) (upd H p (.lst [.int o, .int m, .int 0]))
section
variable {P : Program} {w : World} {K : PySem.W.Frag} {mg : Str → Option Value} {base : Heap}
theorem ok_pot {f : Addr} {fd : FuncData} (F : Fun K "_law_pot_of" "_law_pot_of" sPot f fd) (T : Nat0 mg) : FnOk P w K mg base CX0 1 f fd ["_law_script", "_law_k"] (spPot K) := by
  refine F.ok scPot (fun vs H Q E h => ?_) (fun cdv A outer s H vs Q E hr h => ?_)
  · obtain ⟨a, ns, k, rfl, _⟩ := h
    rfl
  · obtain ⟨a, ns, k, rfl, hS, hk, q⟩ := h
    refine ⟨_, pss_cons (ps_set (i := 2) scPot.nd rfl (Or.inl rfl) (pe_ifExp (pt_cmpR op_lt (pv 1) (pe_callB call_len_seq (by rfl) T.len PySem.boot_len (pa_cons (pv 0) pa_nil)) (nomark _)) (pe_ix ix_list (pv 0) (pv 1) (fun _ _ => rfl)) (pe_op op_add (pe_op op_mul pe_int (pv 1)) pe_int)))
      (pss_cons (ps_set (i := 3) scPot.nd rfl (Or.inl rfl) (pe_op op_mul (pe_op op_mod (pe_callTy call_int1 (by rfl) T.int (by decide +kernel) (pa_cons (pe_callB call_abs (by rfl) T.abs (by decide +kernel) (pa_cons (pv 2) pa_nil)) pa_nil)) (pe_op op_powW (pe_op op_pow pe_int pe_int) pe_int))
        (pe_callTy call_int1 (by rfl) T.int (by decide +kernel) (pa_cons (pe_cmpR op_ge (pe_callB call_abs (by rfl) T.abs (by decide +kernel) (pa_cons (pv 2) pa_nil)) (pe_op op_pow pe_int pe_int) (nomark _)) pa_nil))))
      (pss_one (ps_ret (pe_lst (pa_cons (pv 3) (pa_cons (pe_op op_mod (pe_op op_add (pe_op op_add (pe_op op_mul (pe_op op_mod (pe_callTy call_int1 (by rfl) T.int (by decide +kernel) (pa_cons (pv 2) pa_nil)) pe_int) pe_int) (pe_op op_mul (pe_op op_mul pe_int (pv 1)) (pv 1))) pe_int) pe_int) (pa_cons pe_int pa_nil))))))), ?_⟩
    refine ⟨_, rfl, _, rfl, a, _, rfl, .inl hS, _, _, rfl, rfl, _, rfl, ?_⟩
    refine ite2 (fun hlt => ?_) (fun hlt => ?_)
    focus
      have hlt := of_decide_eq_true hlt
      rw [List.length_map] at hlt
      have hk2 : k < ns.length := by omega
      refine ⟨_, rfl, _, rfl, a, _, _, V.int ns[k], rfl, rfl, hS, atI_nat (by rw [List.getElem?_map, List.getElem?_eq_getElem hk2]; rfl), ?_⟩
      generalize ns[k] = c
    rotate_left
    focus
      refine ⟨_, rfl, _, _, rfl, rfl, .inl ⟨by decide, by decide⟩, _, _, rfl, rfl, ?_⟩
      generalize 31 * (k : Int) + 13 = c
    all_goals
      refine ⟨_, rfl, _, rfl, .inl ⟨_, rfl, _, _, rfl, rfl, ⟨by decide, by decide, by decide⟩, _, _, rfl, rfl, ⟨by decide, by decide +kernel⟩, _, _, rfl, rfl, (by show (0 : Int) < _; decide +kernel), _, rfl, _, rfl, _, _, rfl, rfl, ⟨by decide, by decide, by decide⟩, _, _, rfl, rfl, .inr ⟨_, rfl, _, _, rfl, rfl, .inr ?_, ?_⟩⟩⟩
      · exact bit_small _
      refine ⟨_, rfl, _, rfl, .inl ⟨_, rfl, _, _, rfl, rfl, (by show (0 : Int) < _; decide), _, _, rfl, rfl, .inl ⟨?_, ?_⟩, ?_⟩⟩
      · exact Int.lt_of_lt_of_le (by decide) (Int.emod_nonneg _ (by decide))
      · exact Int.lt_trans (Int.emod_lt_of_pos _ (by decide)) (by decide)
      refine ⟨_, rfl, _, _, rfl, rfl, .inl ⟨by decide, by decide⟩, _, rfl, _, _, rfl, rfl, .inl ⟨by omega, by omega⟩, _, _, rfl, rfl, _, _, rfl, rfl, _, _, rfl, rfl, (by show (0 : Int) < _; decide), (by show 3 ≤ sizeLine; decide), fun p hp => ?_⟩
      refine q p _ _ hp ?_ ?_ ?_ ?_
      · exact (cell_num _).1
      · exact (cell_num _).2
      · exact Int.emod_nonneg _ (by decide)
      · exact Int.emod_lt_of_pos _ (by decide)
end
end Sc

set_option maxRecDepth 100000
namespace Sc
open PySem L2 PyProof.Rows
/-- a pot stands at p: what is left of the digits, the mixed number, how many were taken -/
structure PotAt (H : Hp) (p : Addr) (N : Nat) : Prop where
  ex : ∃ o m c : Int, H p = some (.lst [.int o, .int m, .int c]) ∧ 0 ≤ o ∧ 0 ≤ m ∧ m < 2305843009213693921 ∧ 0 ≤ c ∧ c ≤ N
/-- all that was tracked but what stands at p is as it was -/
def SameBut (p : Addr) (H H' : Hp) : Prop := ∀ b o, H b = some o → b ≠ p → H' b = some o
def spTake : Sp := fun vs H Q _ => ∃ (p : Addr) (n : Int) (N : Nat), vs = [.ref p, .int n] ∧ PotAt H p N ∧ N < 100000 ∧ 0 < n ∧ n < 1000000 ∧
  ∀ (d : Int) (H' : Hp), 0 ≤ d → d < n → PotAt H' p (N + 1) → SameBut p H H' → Q (.int d) H'
theorem prime_at {i : Int} (h0 : 0 ≤ i) (h5 : i < 5) : ∃ v : Int, atI [V.int 2147483647, V.int 2147483629, V.int 2147483587, V.int 2147483579, V.int 2147483563] i = some (.int v) ∧ 0 < v ∧ v < 2147483648 := by
  have : i = 0 ∨ i = 1 ∨ i = 2 ∨ i = 3 ∨ i = 4 := by omega
  rcases this with rfl | rfl | rfl | rfl | rfl <;> exact ⟨_, rfl, by decide, by decide⟩
theorem sq_le {c : Int} (h0 : 0 ≤ c) (h : c ≤ 100000) : 0 ≤ 60041 * c * c ∧ 60041 * c * c ≤ 600410000000000 := by
  have h1 : 0 ≤ c * c := Int.mul_nonneg h0 h0
  have h2 : c * c ≤ 100000 * 100000 := Int.mul_le_mul h h h0 (by decide)
  rw [Int.mul_assoc]
  omega
section
variable {P : Program} {w : World} {K : PySem.W.Frag} {mg : Str → Option Value} {base : Heap}
theorem ok_take {f : Addr} {fd : FuncData} (F : Fun K "_law_take" "_law_take" sTake f fd) (T : Nat0 mg) : FnOk P w K mg base CX0 1 f fd ["_law_pot", "_law_upto"] spTake := by
  refine F.ok scTake (fun vs H Q E h => ?_) (fun cdv A outer s H vs Q E hr h => ?_)
  · obtain ⟨p, n, N, rfl, _⟩ := h
    rfl
  · obtain ⟨p, n, N, rfl, ⟨o, m, c, hp, ho, hm, hm2, hc, hcN⟩, hN, hn, hn2, q⟩ := h
    refine ⟨_, pss_cons (ps_if (pt_cmpR op_gt (pe_ix ix_list (pv 0) pe_int (fun _ _ => rfl)) pe_int (nomark _))
        (pss_cons (ps_set (i := 2) scTake.nd rfl (Or.inl rfl) (pe_op op_mod (pe_callTy call_int1 (by rfl) T.int (by decide +kernel) (pa_cons (pe_ix ix_list (pv 0) pe_int (fun _ _ => rfl)) pa_nil)) (pv 1)))
        (pss_cons (ps_asg (pe_op op_fdiv (pe_ix ix_list (pv 0) pe_int (fun _ _ => rfl)) (pv 1)) (pg_sub (pv 0) pe_int set_list))
        (pss_one (ps_ret (pv 2))))) pss_nil)
      (pss_cons (ps_asg (pe_op op_add (pe_ix ix_list (pv 0) pe_int (fun _ _ => rfl)) pe_int) (pg_sub (pv 0) pe_int set_list))
      (pss_cons (ps_set (i := 3) scTake.nd rfl (Or.inl rfl) (pe_ix ix_list (pe_lst (pa_cons pe_int (pa_cons pe_int (pa_cons pe_int (pa_cons pe_int (pa_cons pe_int pa_nil))))))
          (pe_op op_mod (pe_callTy call_int1 (by rfl) T.int (by decide +kernel) (pa_cons (pe_ix ix_list (pv 0) pe_int (fun _ _ => rfl)) pa_nil)) pe_int) (fun _ _ => rfl)))
      (pss_cons (ps_set (i := 4) scTake.nd rfl (Or.inl rfl) (pe_op op_mod (pe_op op_pow (pe_callTy call_int1 (by rfl) T.int (by decide +kernel) (pa_cons
          (pe_op op_add (pe_op op_add (pe_ix ix_list (pv 0) pe_int (fun _ _ => rfl)) (pe_op op_mul (pe_op op_mul pe_int (pe_ix ix_list (pv 0) pe_int (fun _ _ => rfl))) (pe_ix ix_list (pv 0) pe_int (fun _ _ => rfl)))) pe_int) pa_nil)) pe_int) (pv 3)))
      (pss_one (ps_ret (pe_op op_mod (pe_op op_fdiv (pe_op op_mod (pe_callTy call_int1 (by rfl) T.int (by decide +kernel) (pa_cons
          (pe_op op_mul (pv 4) (pe_op op_add (pe_op op_mod (pe_callTy call_int1 (by rfl) T.int (by decide +kernel) (pa_cons (pv 4) pa_nil)) pe_int) (pe_op op_mul pe_int (pe_ix ix_list (pv 0) pe_int (fun _ _ => rfl))))) pa_nil)) pe_int) pe_int) (pv 1))))))), ?_⟩
    have S := SqL.of (K := K) hp
    refine ⟨_, rfl, p, _, _, _, rfl, rfl, S, rfl, _, _, rfl, rfl, _, rfl, ?_⟩
    refine ite2 (fun hlt => ?_) (fun hlt => ?_)
    · refine ⟨_, rfl, p, _, _, _, rfl, rfl, S, rfl, .inl ⟨_, rfl, _, rfl, _, _, rfl, rfl, hn, ?_⟩⟩
      refine ⟨_, rfl, p, _, _, _, rfl, rfl, S, rfl, _, rfl, _, _, rfl, rfl, ⟨hn, by omega⟩, _, rfl, p, _, _, _, rfl, rfl, hp, rfl, _, rfl, ?_⟩
      refine q _ _ (Int.emod_nonneg _ (by omega)) (Int.emod_lt_of_pos _ hn) ⟨_, _, _, upd_same, Int.ediv_nonneg ho (by omega), hm, hm2, hc, by omega⟩ fun b ob e hb => ?_
      rw [upd_ne hb]
      exact e
    · refine ⟨_, rfl, p, _, _, _, rfl, rfl, S, rfl, _, _, rfl, rfl, _, rfl, p, _, _, _, rfl, rfl, hp, rfl, ?_⟩
      refine ⟨(by show 5 ≤ sizeLine; decide), fun l hl => ?_⟩
      have hlp : p ≠ l := ne_of_none upd_same hl
      have hi0 := Int.emod_nonneg (c + 1) (show (5 : Int) ≠ 0 by decide)
      have hi5 := Int.emod_lt_of_pos (c + 1) (show (0 : Int) < 5 by decide)
      obtain ⟨v, hv, v0, v31⟩ := prime_at hi0 hi5
      have at2 : ∀ o1 o2 : HO, upd (upd H p o1) l o2 p = some o1 := fun o1 o2 => Eq.trans (upd_ne hlp) upd_same
      have S2 : ∀ xs o2, SqL K (upd (upd H p (.lst xs)) l o2) p xs := fun xs o2 => SqL.of (at2 _ _)
      refine ⟨_, rfl, p, _, _, _, rfl, rfl, S2 _ _, rfl, .inl ⟨_, rfl, _, _, rfl, rfl, (by show (0 : Int) < _; decide), l, _, _, _, rfl, rfl, SqL.of upd_same, hv, ?_⟩⟩
      obtain ⟨s0, s1⟩ := sq_le (c := c + 1) (by omega) (by omega)
      refine ⟨_, rfl, p, _, _, _, rfl, rfl, S2 _ _, rfl, _, rfl, p, _, _, _, rfl, rfl, S2 _ _, rfl, _, _, rfl, rfl, .inl ⟨by decide, by decide⟩, _, rfl, p, _, _, _, rfl, rfl, S2 _ _, rfl, _, _, rfl, rfl, .inl ⟨by omega, by omega⟩, _, _, rfl, rfl, _, _, rfl, rfl, .inl ⟨_, rfl, _, _, rfl, rfl, ⟨by decide, by decide, ?_⟩, _, rfl, _, _, rfl, rfl, v0, ?_⟩⟩
      · omega
      have x0 := Int.emod_nonneg ((m + 60041 * (c + 1) * (c + 1) + 41) ^ 3) (show v ≠ 0 by omega)
      have x1 := Int.emod_lt_of_pos ((m + 60041 * (c + 1) * (c + 1) + 41) ^ 3) v0
      refine ⟨_, rfl, _, rfl, .inl ⟨_, rfl, _, _, rfl, rfl, (by show (0 : Int) < _; decide), _, rfl, p, _, _, _, rfl, rfl, S2 _ _, rfl, _, _, rfl, rfl, .inl ⟨by decide, by decide⟩, _, _, rfl, rfl, _, _, rfl, rfl, .inl ⟨?_, ?_⟩, .inl ⟨_, rfl, _, _, rfl, rfl, (by show (0 : Int) < _; decide), _, _, rfl, rfl, ⟨by decide, by decide⟩, _, rfl, _, _, rfl, rfl, hn, ?_⟩⟩⟩
      · exact Int.lt_of_lt_of_le (by decide) x0
      · exact Int.lt_trans x1 (Int.lt_trans v31 (by decide))
      refine q _ _ (Int.emod_nonneg _ (by omega)) (Int.emod_lt_of_pos _ hn) ⟨_, _, _, at2 _ _, ho, hm, hm2, (by omega), (by omega)⟩ fun b ob e hb => ?_
      have e1 : ∀ o1, upd H p o1 b = some ob := fun o1 => (upd_ne hb).trans e
      exact (upd_ne (ne_of_none (e1 _) hl)).trans (e1 _)
end
end Sc

set_option maxRecDepth 100000
namespace Sc
open PySem L2 PySem.Spec PyProof.Rows
/-- v is a made thing, as plain data: lists of at most one item, tuples of at most two, dicts of at most one text key -/
inductive DatAt (H : Hp) : V → PyData → Prop where
  | non : DatAt H .non .none
  | bl (b : Bool) : DatAt H (.bl b) (.bool b)
  | int (i : Int) : DatAt H (.int i) (.int i)
  | str (x : Str) : DatAt H (.str x) (.str x)
  | tup0 {a : Addr} (h : H a = some (.tup [])) : DatAt H (.ref a) (.tuple [])
  | tup1 {a : Addr} {x : V} {d : PyData} (h : H a = some (.tup [x])) (hx : DatAt H x d) : DatAt H (.ref a) (.tuple [d])
  | tup2 {a : Addr} {x y : V} {d e : PyData} (h : H a = some (.tup [x, y])) (hx : DatAt H x d) (hy : DatAt H y e) : DatAt H (.ref a) (.tuple [d, e])
  | lst0 {a : Addr} (hs : a ≠ sysModules) (h : H a = some (.lst [])) : DatAt H (.ref a) (.list [])
  | lst1 {a : Addr} {x : V} {d : PyData} (hs : a ≠ sysModules) (h : H a = some (.lst [x])) (hx : DatAt H x d) : DatAt H (.ref a) (.list [d])
  | dict0 {a : Addr} (h : H a = some (.dK [])) : DatAt H (.ref a) (.dict [])
  | dict1 {a : Addr} {k : Str} {x : V} {d : PyData} (h : H a = some (.dK [(Sum.inr k, x)])) (hx : DatAt H x d) : DatAt H (.ref a) (.dict [(.str k, d)])
/-- at p stands a list of three items -/
def Three (H : Hp) (p : Addr) : Prop := ∃ x y z : V, H p = some (.lst [x, y, z])
theorem DatAt.keep {H H' : Hp} {p : Addr} (t : Three H p) (k : SameBut p H H') {v : V} {d : PyData} (h : DatAt H v d) : DatAt H' v d := by
  obtain ⟨x0, y0, z0, hp⟩ := t
  induction h with
  | non => exact .non
  | bl b => exact .bl b
  | int i => exact .int i
  | str x => exact .str x
  | tup0 h => exact .tup0 (k _ _ h (ne_of h hp (by intro z; cases z)))
  | tup1 h _ ih => exact .tup1 (k _ _ h (ne_of h hp (by intro z; cases z))) ih
  | tup2 h _ _ ih ih2 => exact .tup2 (k _ _ h (ne_of h hp (by intro z; cases z))) ih ih2
  | lst0 hs h => exact .lst0 hs (k _ _ h (ne_of h hp (by intro z; cases z)))
  | lst1 hs h _ ih => exact .lst1 hs (k _ _ h (ne_of h hp (by intro z; cases z))) ih
  | dict0 h => exact .dict0 (k _ _ h (ne_of h hp (by intro z; cases z)))
  | dict1 h _ ih => exact .dict1 (k _ _ h (ne_of h hp (by intro z; cases z))) ih
theorem DatAt.same {H H' : Hp} (k : Same H H') {v : V} {d : PyData} (h : DatAt H v d) : DatAt H' v d := by
  induction h with
  | non => exact .non
  | bl b => exact .bl b
  | int i => exact .int i
  | str x => exact .str x
  | tup0 h => exact .tup0 (k _ _ h)
  | tup1 h _ ih => exact .tup1 (k _ _ h) ih
  | tup2 h _ _ ih ih2 => exact .tup2 (k _ _ h) ih ih2
  | lst0 hs h => exact .lst0 hs (k _ _ h)
  | lst1 hs h _ ih => exact .lst1 hs (k _ _ h) ih
  | dict0 h => exact .dict0 (k _ _ h)
  | dict1 h _ ih => exact .dict1 (k _ _ h) ih
theorem vals_nil {us : List Value} (r : Vals [] us) : us = [] := by cases r; rfl
theorem vals_one {x : V} {us : List Value} (r : Vals [x] us) : ∃ u, us = [u] ∧ RelV x u := by
  cases r with
  | cons a b => cases b; exact ⟨_, rfl, a⟩
theorem vals_two {x y : V} {us : List Value} (r : Vals [x, y] us) : ∃ u w, us = [u, w] ∧ RelV x u ∧ RelV y w := by
  cases r with
  | cons a b =>
    obtain ⟨w, rfl, rw⟩ := vals_one b
    exact ⟨_, w, rfl, a, rw⟩
/-- such a thing is read as its data, in the real heap -/
theorem reads_of {P : Program} {w : World} {H : Hp} {h : Heap} (ok : HOk P w H h) {v : V} {d : PyData} (D : DatAt H v d) : ∀ u, RelV v u → ∃ as, Reads h u d as ∧ sysModules ∉ as := by
  induction D with
  | non => intro u r; cases (show u = Value.none from r); exact ⟨_, .none, by simp⟩
  | bl b => intro u r; cases (show u = Value.bool b from r); exact ⟨_, .bool b, by simp⟩
  | int i => intro u r; obtain ⟨t, e⟩ := (show ∃ t, u = Value.int i t from r); subst e; exact ⟨_, .int i t, by simp⟩
  | str x => intro u r; obtain ⟨t, e⟩ := (show ∃ t, u = Value.str x t from r); subst e; exact ⟨_, .str x t, by simp⟩
  | @tup0 a h =>
    intro u r
    cases (show u = Value.ref a from r)
    obtain ⟨_, its, r1, o, e1, e2, n, e3⟩ := ok _ _ h
    cases vals_nil r1
    exact ⟨_, .tuple e1 e2 e3 .nil, by simp⟩
  | @tup1 a x d h _ ih =>
    intro u r
    cases (show u = Value.ref a from r)
    obtain ⟨_, its, r1, o, e1, e2, n, e3⟩ := ok _ _ h
    obtain ⟨u1, rfl, q1⟩ := vals_one r1
    obtain ⟨as, R, hn⟩ := ih _ q1
    exact ⟨_, .tuple e1 e2 e3 (.cons R .nil), by simpa using hn⟩
  | @tup2 a x y d e h _ _ ih ih2 =>
    intro u r
    cases (show u = Value.ref a from r)
    obtain ⟨_, its, r1, o, e1, e2, n, e3⟩ := ok _ _ h
    obtain ⟨u1, u2, rfl, q1, q2⟩ := vals_two r1
    obtain ⟨as, R, hn⟩ := ih _ q1
    obtain ⟨bs, R2, hn2⟩ := ih2 _ q2
    exact ⟨_, .tuple e1 e2 e3 (.cons R (.cons R2 .nil)), by simp [hn, hn2]⟩
  | @lst0 a hs h =>
    intro u r
    cases (show u = Value.ref a from r)
    obtain ⟨_, its, n, r1, e1⟩ := ok _ _ h
    cases vals_nil r1
    exact ⟨_, .list e1 rfl rfl .nil, by simpa using Ne.symm hs⟩
  | @lst1 a x d hs h _ ih =>
    intro u r
    cases (show u = Value.ref a from r)
    obtain ⟨_, its, n, r1, e1⟩ := ok _ _ h
    obtain ⟨u1, rfl, q1⟩ := vals_one r1
    obtain ⟨as, R, hn⟩ := ih _ q1
    exact ⟨_, .list e1 rfl rfl (.cons R .nil), by simp [hn, Ne.symm hs]⟩
  | @dict0 a h =>
    intro u r
    cases (show u = Value.ref a from r)
    obtain ⟨_, hsys, vs, rel, o, es, ep, e1, ex, e2, kk, pp, nd⟩ := ok _ _ h
    have ha : a ≠ sysModules := beq_eq_false_iff_ne.mp hsys
    cases rel
    have e0 : es.toList = [] := by
      generalize es.toList = l at pp
      cases pp
      rfl
    refine ⟨a :: [] ++ [], .dict (kvs := []) e1 ex.1 e2 (by rw [e0]; exact .nil) (by rw [e0]; exact .nil), by simpa using Ne.symm ha⟩
  | @dict1 a k x d h _ ih =>
    intro u r
    cases (show u = Value.ref a from r)
    obtain ⟨_, hsys, vs, rel, o, es, ep, e1, ex, e2, kk, pp, nd⟩ := ok _ _ h
    have ha : a ≠ sysModules := beq_eq_false_iff_ne.mp hsys
    cases rel with
    | @cons _ b _ _ ra rb =>
      cases rb
      obtain ⟨z1, z2⟩ := ra
      obtain ⟨as, R, hn⟩ := ih _ z2
      have e0 : ∃ e, es.toList = [e] ∧ (mixKind P w).is (Sum.inr k) e.key = true ∧ e.val = b.2 := by
        generalize es.toList = l at pp
        cases pp with
        | cons k1 v1 p1 =>
          cases p1
          exact ⟨_, rfl, by rw [← z1] at k1; exact k1, v1⟩
      obtain ⟨en, ee, ek, ev⟩ := e0
      have ek' : keyIs (Sum.inr k) en.key = true := ek
      obtain ⟨i, t, z, _⟩ | ⟨y, t, z, ey⟩ := keyIs_shape ek'
      · cases z
      cases z
      refine ⟨a :: ([] ++ []) ++ (as ++ []), .dict (kvs := [(.str k, d)]) e1 ex.1 e2 (by rw [ee]; exact .cons (by show Reads _ en.key _ _; rw [ey]; exact .str _ _) .nil) (by rw [ee]; exact .cons (by show Reads _ en.val _ _; rw [ev]; exact R) .nil), by simp [hn, Ne.symm ha]⟩
end Sc

set_option maxRecDepth 100000
namespace Sc
open PySem L2 PySem.Spec PyProof.Rows
/-- how large such data is: n the number of wraps -/
structure Good (d : PyData) (n : Nat) : Prop where
  sh : d.showable = true
  dp : d.depth ≤ n + 4
  sz : d.shown.length ≤ 40 + 10 * n
theorem len_app (a b : Str) : (a ++ b).length = a.length + b.length := by
  show (a.cps ++ b.cps).size = a.cps.size + b.cps.size
  exact Array.size_append
theorem join_one (s x : Str) : s.join [x] = x := by rfl
theorem join_two (s x y : Str) : s.join [x, y] = x ++ s ++ y := by rfl
theorem good_mono {d : PyData} {n m : Nat} (g : Good d n) (h : n ≤ m) : Good d m := ⟨g.sh, by have := g.dp; omega, by have := g.sz; omega⟩
theorem good_tup1 {d : PyData} {n : Nat} (g : Good d n) : Good (.tuple [d]) (n + 1) := by
  refine ⟨?_, ?_, ?_⟩
  · have := g.sh
    simp only [PyData.showable, PyData.showableAll, this, Bool.and_self]
  · have := g.dp
    simp only [PyData.depth, PyData.depthAll]
    omega
  · have h := g.sz
    rw [PyData.shown_tuple, PyData.shownAll_cons, PyData.shownAll_nil, join_one, len_app, len_app]
    have e1 : (Str.ofString "(").length = 1 := by decide +kernel
    have e2 : (Str.ofString (if ([d].length == 1) = true then ",)" else ")")).length = 2 := by
      show (Str.ofString ",)").length = 2
      decide +kernel
    omega
theorem good_lst1 {d : PyData} {n : Nat} (g : Good d n) : Good (.list [d]) (n + 1) := by
  refine ⟨?_, ?_, ?_⟩
  · have := g.sh
    simp only [PyData.showable, PyData.showableAll, this, Bool.and_self]
  · have := g.dp
    simp only [PyData.depth, PyData.depthAll]
    omega
  · have h := g.sz
    rw [PyData.shown_list, PyData.shownAll_cons, PyData.shownAll_nil, join_one, len_app, len_app]
    have e1 : (Str.ofString "[").length = 1 := by decide +kernel
    have e2 : (Str.ofString "]").length = 1 := by decide +kernel
    omega
theorem good_dict1 {d : PyData} {n : Nat} (g : Good d n) : Good (.dict [(.str (Str.ofString "a"), d)]) (n + 1) := by
  refine ⟨?_, ?_, ?_⟩
  · have := g.sh
    simp only [PyData.showable, PyData.showableKv, this, Bool.and_self]
  · have := g.dp
    simp only [PyData.depth, PyData.depthKv]
    omega
  · have h := g.sz
    rw [PyData.shown_dict, PyData.shownKv_cons, PyData.shownKv_nil, join_one, len_app, len_app, len_app, len_app]
    have e1 : (Str.ofString "{").length = 1 := by decide +kernel
    have e2 : (Str.ofString "}").length = 1 := by decide +kernel
    have e3 : (PyData.str (Str.ofString "a")).shown.length = 3 := by decide +kernel
    have e4 : (Str.ofString ": ").length = 2 := by decide +kernel
    omega
theorem good_tup2 {d : PyData} {n : Nat} (g : Good d n) : Good (.tuple [d, .int 0]) (n + 1) := by
  refine ⟨?_, ?_, ?_⟩
  · have := g.sh
    have h0 : PyData.showable (.int 0) = true := by decide +kernel
    simp only [PyData.showable, PyData.showableAll, this, Bool.and_self, Bool.true_and, Bool.and_true]
    exact h0
  · have := g.dp
    simp only [PyData.depth, PyData.depthAll]
    omega
  · have h := g.sz
    rw [PyData.shown_tuple, PyData.shownAll_cons, PyData.shownAll_cons, PyData.shownAll_nil, join_two, len_app, len_app, len_app, len_app]
    have e1 : (Str.ofString "(").length = 1 := by decide +kernel
    have e2 : (Str.ofString (if ([d, .int 0].length == 1) = true then ",)" else ")")).length = 1 := by
      show (Str.ofString ")").length = 1
      decide +kernel
    have e3 : (PyData.int 0).shown.length = 1 := by decide +kernel
    have e4 : (Str.ofString ", ").length = 2 := by decide +kernel
    omega
/-- a list that stands at a new place, and not at that of sys.modules -/
def tLstB (t : TA) : TE := fun σ H Q => t σ H fun xs H1 => xs.length ≤ sizeLine ∧ ∀ p, H1 p = none → p ≠ sysModules → Q (.ref p) (upd H1 p (.lst xs))
section
variable {X : Cx} {es : List Expr} {t : TA} {pos : Pos}
theorem pe_lstB (h : PA X es t) : PE X (.List es pos) (tLstB t) := by
  constructor
  intro pins s σ H Q I hq
  refine wpAny_List_spliced (thn (h.run pos pins s σ H _ I hq) ?_)
  intro us s1 hh
  obtain ⟨xs, H1, I1, r, z, q⟩ := hh
  have hf : H1 s1.heap.objs.size = none := I1.hok.fresh (Nat.le_refl _)
  have hok : ObjOk X.prog X.w (upd H1 s1.heap.objs.size (.lst xs)) (s1.heap.push { cls := .type "list", data := .seq us.toArray }) s1.heap.objs.size (.lst xs) :=
    ⟨z, us, 0, r, Heap.get?_push_size _ rfl⟩
  have J := I1.laid (t' := s1.toks) (fun b u e => Heap.get?_push_of_some _ e) (Nat.le_refl _) hok
  exact ⟨r.length ▸ z, .ref _, _, J, rfl, q _ hf (Nat.ne_of_gt I1.big)⟩
/-- repr of made data -/
theorem call_reprD {k : Nat} (hr : Room k X.A) (hg : X.A.guards = some []) : CallR X (.builtin "repr") (fun xs H Q => ∃ v d n, xs = [v] ∧ DatAt H v d ∧ Good d n ∧ n ≤ 30 ∧ Q (.str d.shown) H) := by
  intro pins s σ H xs us Q I r h
  obtain ⟨v, d, n, rfl, D, G, hn, q⟩ := h
  obtain ⟨u, rfl, ru⟩ := vals_one r
  have hsz : d.shown.length ≤ sizeLine := by
    have := G.sz
    rw [sizeLine_eq]
    omega
  have fin : ∀ (h' : Heap) (u : Tok) (tk : Nat), (∀ b o, s.heap.get? b = some o → h'.get? b = some o) → EP X pins σ Q (.str d.shown u) { s with heap := h', toks := tk } :=
    fun h' u tk k => ⟨.str d.shown, H, I.kept (t' := tk) k, ⟨_, rfl⟩, q⟩
  obtain ⟨as, R, hsm⟩ := reads_of I.hok D u ru
  have hu := hr.units
  have hd := G.dp
  cases R with
  | none => exact PySem.P.repr_of_none (fin s.heap _ _ fun _ _ e => e)
  | bool b => exact PySem.P.repr_of_bool (fin s.heap _ _ fun _ _ e => e)
  | int i t => exact PySem.P.repr_of_int (of_decide_eq_true G.sh) (fin s.heap _ _ fun _ _ e => e)
  | str x t => exact PySem.P.repr_of_str (fin s.heap _ _ fun _ _ e => e) hsz
  | list h1 h2 h3 h4 => exact repr_of_reads' (.list h1 h2 h3 h4) G.sh (fun _ => hsm) hg (by omega) (fun _ _ e => e) fin hsz
  | tuple h1 h2 h3 h4 => exact repr_of_reads' (.tuple h1 h2 h3 h4) G.sh (fun _ => hsm) hg (by omega) (fun _ _ e => e) fin hsz
  | dict h1 h2 h3 h4 h5 => exact repr_of_reads' (.dict h1 h2 h3 h4 h5) G.sh (fun _ => hsm) hg (by omega) (fun _ _ e => e) fin hsz
end
end Sc

set_option maxRecDepth 100000
set_option maxHeartbeats 4000000
/-! an own error class, made with keywords -/
namespace ScK
open PySem PySem.W PySem.Calls PyProof.Rows PySem.HandSPX
section
variable {M : Model} {A : Around} {E : Value → Shared → Prop} {h : Heap} {g : Array GenState} {d : Drawn} {t : Nat} {os : OsState}
variable {nm q : Str} {C N : Addr} {bs bm bmB : List Value} {hdct : Bool} {sn : List Str} {sub : List Value} {ab : Bool}
variable {col : Option Bool} {dd : Option Addr} {k0 k1 k2 k3 k5 : Option Value} {B newId initId : String} {ws : List Value} {kw : List (Str × Value)}
abbrev TheCls (nm q : Str) (C N : Addr) (bs bm : List Value) (hdct : Bool) (sn : List Str) (sub : List Value) (ab : Bool) (col : Option Bool) (dd : Option Addr) (k0 k1 k2 k3 k5 : Option Value) (newId : String) (h : Heap) : Prop :=
  h.get? C = some (excClassObj nm q C N bs bm hdct sn sub ab col dd k0 k1 k2 k3 k5 newId)
theorem has_base (F : ExcBaseFacts B newId initId bmB) (hT : ∀ X : String, bm.contains (.type X) = bmB.contains (.type X)) : (Value.ref C :: bm).contains (.type B) = true := by
  rw [List.contains_cons, hT, F.hasB]
  exact Bool.or_true _
theorem kw_check_new (F : ExcBaseFacts B newId initId bmB) (hT : ∀ X : String, bm.contains (.type X) = bmB.contains (.type X)) {Q : Unit → Shared → Prop}
    (hC : TheCls nm q C N bs bm hdct sn sub ab col dd k0 k1 k2 k3 k5 newId h) (hq : Q () ⟨h, g, d, t, os⟩) :
    wpAny M A (checkBuiltinCall newId ⟨.ref C :: ws, kw⟩) Q E ⟨h, g, d, t, os⟩ := by
  have hB := has_base (C := C) F hT
  have hs := F.noStar
  simp only [checkBuiltinCall, F.newKind, F.newSplit, F.newRow]
  repeat (first
    | refine wpAny_loadPart_at hC ?_
    | (refine wpAny_isSubtype_exc hC ?_; rw [hB])
    | refine wpAny_staticBase_exc hC ?_
    | refine wpAny_madeBy_exc hC ?_
    | simp only [bne_self_eq_false, Bool.false_eq_true, if_false]
    | wp_step)
  exact hq
theorem kw_check_call {Q : Unit → Shared → Prop} (hC : TheCls nm q C N bs bm hdct sn sub ab col dd k0 k1 k2 k3 k5 newId h)
    (hq : Q () ⟨h, g, d, t, os⟩) : wpAny M A (checkBuiltinCall "type.__call__" ⟨.ref C :: ws, kw⟩) Q E ⟨h, g, d, t, os⟩ := by
  have h3 := tc_sub
  have hty : (⟨h, g, d, t, os⟩ : Shared).TypeIs (.ref C) "type" := ⟨_, hC, rfl⟩
  simp only [checkBuiltinCall, tc_kind, tc_split]
  repeat (any_goals (first
    | assumption
    | with_reducible refine wpAny_loadPart_at hC ?_
    | with_reducible refine wpAny_onRaise ?_
    | with_reducible refine wpAny_map ?_
    | wp_step))
end
section
variable {prog : Program} {w : World} {A : Around} {E : Value → Shared → Prop} {R : Result → Shared → Prop} {h : Heap} {g : Array GenState} {d : Drawn} {t : Nat} {os : OsState}
variable {nm q : Str} {C N : Addr} {bs bm bmB : List Value} {hdct : Bool} {sn : List Str} {sub : List Value} {ab : Bool}
variable {col : Option Bool} {dd : Option Addr} {k0 k1 k2 k3 k5 : Option Value} {B newId initId : String} {ws : List Value} {kw : List (Str × Value)}
theorem kw_new (F : ExcBaseFacts B newId initId bmB) (hT : ∀ X : String, bm.contains (.type X) = bmB.contains (.type X))
    (hC : TheCls nm q C N bs bm hdct sn sub ab col dd k0 k1 k2 k3 k5 newId h) (hz : ws.length ≤ sizeLine)
    (hq : R (.ok (.ret (.ref (h.objs.size + 1)))) ⟨(h.push (kdv_tup ws)).push (excO C h.objs.size), g, d, t, os⟩) :
    codeAny (model prog w) A (.builtin newId ⟨.ref C :: ws, kw⟩) R ⟨h, g, d, t, os⟩ := by
  have hends := F.ends
  have hB := has_base (C := C) F hT
  have hA : (Value.ref C :: bm).contains (.type "AttributeError") = false := by
    rw [List.contains_cons, hT, F.noAttr]
    rfl
  have hN : (Value.ref C :: bm).contains (.type "NameError") = false := by
    rw [List.contains_cons, hT, F.noName]
    rfl
  refine codeAny_builtinAt F.entry ?_
  unfold Builtin.«BaseException.__new__»
  refine PySem.wpAt_bind ?_
  show PySem.wpAt _ _ _ (stack >>= _) _ _ _
  refine PySem.wpAt_bind (PySem.wpAt_stack fun p below => PySem.wpAt_of_wpAny ?_)
  wp_walk
  refine PySem.wpAt_of_wpAny ?_
  rw [F.owner]
  repeat (first
    | with_reducible refine wpAny_madeHere_exc F.canon hC ?_
    | with_reducible refine wpAny_loadPart_at hC ?_
    | (with_reducible refine wpAny_isSubtype_exc hC ?_; first | rw [hB] | rw [hA] | rw [hN])
    | wp_step)
  show R _ _
  rw [Heap.size_push]
  exact hq
theorem kw_type_call (F : ExcBaseFacts B newId initId bmB) (hT : ∀ X : String, bm.contains (.type X) = bmB.contains (.type X)) {fI : Addr} {Q : Fin → Shared → Prop}
    (hC : TheCls nm q C N bs bm hdct sn sub ab col dd k0 k1 k2 k3 k5 newId h) (hz : ws.length ≤ sizeLine)
    (hi : Looks (model prog w) h (typeLookup (.ref C) "__init__") (some (.ref fI)))
    (hb : ∀ self, Looks (model prog w) h (bindSpecial (.ref fI) self) (.ref fI, [self]))
    (hq : codeAny (model prog w) A (.call (.ref fI) ⟨.ref (h.objs.size + 1) :: ws, kw⟩)
      (fun r s' => match r with
        | .ok (.ret v) => v = .none ∧ Q (.done (.ret (.ref (h.objs.size + 1)))) s'
        | .ok _ => False
        | .error e => E e s')
      ⟨(h.push (kdv_tup ws)).push (excO C h.objs.size), g, d, t, os⟩) :
    wpAny (model prog w) A (Builtin.«type.__call__» ⟨.ref C :: ws, kw⟩) Q E ⟨h, g, d, t, os⟩ := by
  repeat (first
    | with_reducible refine wpAny_loadPart_at hC ?_
    | with_reducible refine wpAny_madeBy_exc hC ?_
    | wp_step)
  refine codeAny_call_builtin_code (Code.quiet_builtin _ F.quiet) (kw_check_new F hT hC ?_)
  refine kw_new F hT hC hz ?_
  show wpAny _ _ _ _ _ _
  have kp : ∀ b o, h.get? b = some o → ((h.push (kdv_tup ws)).push (excO C h.objs.size)).get? b = some o :=
    fun b o e => Heap.get?_push_of_some _ (Heap.get?_push_of_some _ e)
  have hC2 := kp _ _ hC
  have he : ((h.push (kdv_tup ws)).push (excO C h.objs.size)).get? (h.objs.size + 1) = some (excO C h.objs.size) := by
    heap_get
  have hCC : (Value.ref C :: bm).contains (.ref C) = true := by
    simp
  have i2 := hi.keeps kp
  have b2 := (hb (.ref (h.objs.size + 1))).keeps kp
  unfold isInstance
  repeat (first
    | with_reducible refine wpAny_loadPart_at he ?_
    | (with_reducible refine wpAny_isSubtype_exc hC2 ?_; rw [hCC])
    | wp_step)
  show wpAny _ _ (typeLookup (.ref C) _) _ _ _
  refine i2.at ?_
  refine wpAny_holding (wpAny_bind (b2.at ?_))
  refine wpAny_bind (wpAny_call (codeAny_mono hq ?_))
  intro r s' z
  match r, z with
  | .error e, z => exact z
  | .ok (.ret v), z =>
    obtain ⟨ez, z⟩ := z
    subst ez
    first
      | exact wpAny_pure (wpAny_pure z)
      | (wp_walk; exact z)
  | .ok .next, z => exact z.elim
  | .ok .brk, z => exact z.elim
  | .ok .cont, z => exact z.elim
theorem kw_call (F : ExcBaseFacts B newId initId bmB) (hT : ∀ X : String, bm.contains (.type X) = bmB.contains (.type X)) {fI : Addr}
    (hC : TheCls nm q C N bs bm hdct sn sub ab col dd k0 k1 k2 k3 k5 newId h) (hz : ws.length ≤ sizeLine)
    (hi : Looks (model prog w) h (typeLookup (.ref C) "__init__") (some (.ref fI)))
    (hb : ∀ self, Looks (model prog w) h (bindSpecial (.ref fI) self) (.ref fI, [self]))
    (hq : codeAny (model prog w) (A.under (.builtin "type.__call__" ⟨.ref C :: ws, kw⟩)) (.call (.ref fI) ⟨.ref (h.objs.size + 1) :: ws, kw⟩)
      (InitBack (h.objs.size + 1) R) ⟨(h.push (kdv_tup ws)).push (excO C h.objs.size), g, d, t, os⟩) :
    codeAny (model prog w) A (.call (.ref C) ⟨ws, kw⟩) R ⟨h, g, d, t, os⟩ := by
  have h1 := tc_lookup
  have h2 := tc_bind (.ref C)
  have hty : (⟨h, g, d, t, os⟩ : Shared).TypeIs (.ref C) "type" := ⟨_, hC, rfl⟩
  refine codeAny_of_tree ?_
  show wpAny _ _ (callAny (.ref C) _) _ _ _
  repeat (any_goals (first
    | assumption
    | with_reducible refine wpAny_loadPart_at hC ?_
    | wp_step))
  refine ⟨rfl, ?_⟩
  refine codeAny_call_builtin_at (Code.quiet_builtin _ (by decide +kernel)) entry_typeCall (kw_check_call hC ?_)
  refine kw_type_call F hT hC hz hi hb (codeAny_mono hq ?_)
  intro r s' z
  match r, z with
  | .error e, z => exact z
  | .ok (.ret v), z => exact z
  | .ok .next, z => exact z
  | .ok .brk, z => exact z
  | .ok .cont, z => exact z
end
end ScK

set_option maxRecDepth 100000
set_option maxHeartbeats 4000000
namespace Sc
open PySem L2 PySem.Spec PyProof.Rows
abbrev vName : Str := Str.ofString "value"
/-- the classes above an error class of the package, S that of ScriptError -/
abbrev above (S : Addr) : List Value := [.ref S, .type "ValueError", .type "Exception", .type "BaseException", .type "object"]
/-- what the top says of an error class x at C whose own creation is the def at fI -/
structure ErrK (K : PySem.W.Frag) (mg : Str → Option Value) (S C fI : Addr) (x : Str) : Prop where
  gC : mg x = some (.ref C)
  cls : ∃ nm q N bs sn sub ab col dd k0 k1 k2 k3 k5, K.lookup C = some (excClassObj nm q C N bs (above S) true sn sub ab col dd k0 k1 k2 k3 k5 "ValueError.__new__")
  sa : PySem.W.findIn K (.ref C) "__setattr__" = some (some (.builtin "object.__setattr__"))
  ga : PySem.W.findIn K (.ref C) "__getattribute__" = some (some (.builtin "BaseException.__getattribute__"))
  gg : PySem.W.findIn K (.ref C) "__getattr__" = some none
  noV : PySem.W.findIn K (.ref C) vName = some none
  iC : PySem.W.findIn K (.ref C) "__init__" = some (some (.ref fI))
  tI : PySem.W.typeIn K (.ref fI) = some (.type "function")
  kC : PySem.W.keepIn K (.ref C) = true
  ty : PySem.W.typeIn K (.ref C) = some (.type "type")
  ha : PySem.W.findIn K (.ref C) "__class__" = some (some (.builtin "object.__class__"))
/-- two facts of the descriptor __class__ -/
structure ClsD (K : PySem.W.Frag) : Prop where
  hn : PySem.W.specialIn K (.builtin "object.__class__") "__get__" = some (some (.builtin "getset_descriptor.__get__"))
  ht : PySem.W.takesIn K (.builtin "object.__class__") = some true
section
variable {K : PySem.W.Frag} {mg : Str → Option Value} {S C fI : Addr} {x : Str}
theorem ErrK.clsIn (E : ErrK K mg S C fI x) : ∃ cd, PySem.W.clsIn K C = some cd ∧ cd.mro = .ref C :: above S ∧ cd.hasDict = true := by
  obtain ⟨nm, q, N, bs, sn, sub, ab, col, dd, k0, k1, k2, k3, k5, hC⟩ := E.cls
  unfold PySem.W.clsIn
  rw [hC]
  exact ⟨_, rfl, rfl, rfl⟩
theorem ErrK.mro (E : ErrK K mg S C fI x) (b : Value) : PySem.W.mroIn K C b = some ((Value.ref C :: above S).contains b) := by
  obtain ⟨cd, h1, h2, _⟩ := E.clsIn
  unfold PySem.W.mroIn
  rw [h1, Option.bind_some, h2]
  rfl
theorem ErrK.sub (E : ErrK K mg S C fI x) (b : Value) : PySem.W.subIn K (.ref C) b = some ((Value.ref C :: above S).contains b) := E.mro b
theorem ErrK.hd (E : ErrK K mg S C fI x) : PySem.W.hasDictIn K C = true := by
  obtain ⟨cd, h1, _, h3⟩ := E.clsIn
  show (PySem.W.clsIn K C).any _ = true
  rw [h1]
  exact h3
theorem ErrK.oex (E : ErrK K mg S C fI x) : OexC K C where
  cls := by
    obtain ⟨nm, q, N, bs, sn, sub, ab, col, dd, k0, k1, k2, k3, k5, hC⟩ := E.cls
    exact ⟨nm, q, N, bs, _, sn, sub, ab, col, dd, k0, k1, k2, k3, k5, hC, rfl⟩
  sa := E.sa
  exC := E.sub _
  tyC := E.ty
  kC := E.kC
/-- of which of two classes an error is -/
theorem ErrK.one {C' fI' : Addr} {x' : Str} (E : ErrK K mg S C fI x) (E' : ErrK K mg S C' fI' x') (hs : C' ≠ S) : PySem.W.kitOne K (.ref C) (.ref C') = some (decide (C' = C)) := by
  by_cases h : C' = C
  · subst h
    unfold PySem.W.kitOne
    rw [if_pos (by simp)]
    simp
  · unfold PySem.W.kitOne
    rw [if_neg (fun z => h (Value.ref.inj (beq_iff_eq.mp z)).symm)]
    obtain ⟨cd, h1, _⟩ := E'.clsIn
    unfold PySem.W.kitCls
    dsimp only
    rw [h1, E'.ty, E.sub]
    rw [if_pos (show ((some cd).isSome && some (Value.type "type") == some (Value.type "type")) = true from rfl)]
    have e1 : (Value.ref C :: above S).contains (.ref C') = false := by
      simp [h, hs]
    rw [e1, decide_eq_false h]
theorem ErrK.base (E : ErrK K mg S C fI x) (hs : PySem.W.typeIn K (.ref S) = some (.type "type")) (hc : (PySem.W.clsIn K S).isSome = true) : PySem.W.kitOne K (.ref C) (.ref S) = some true := by
  by_cases h : S = C
  · subst h
    unfold PySem.W.kitOne
    rw [if_pos (by simp)]
  · unfold PySem.W.kitOne
    rw [if_neg (fun z => h (Value.ref.inj (beq_iff_eq.mp z)).symm)]
    unfold PySem.W.kitCls
    dsimp only
    rw [hc, hs, E.sub]
    rw [if_pos (by decide)]
    simp
theorem ErrK.value (E : ErrK K mg S C fI x) : PySem.W.kitOne K (.ref C) (.type "ValueError") = some true := by
  unfold PySem.W.kitOne
  rw [if_neg (fun z => nomatch (beq_iff_eq.mp z : Value.ref C = Value.type "ValueError"))]
  unfold PySem.W.kitCls
  dsimp only
  rw [if_pos (by decide +kernel), E.sub]
  rfl
end
/-- at a stands an error of the class at C with the value v, all in all -/
def Err (H : Hp) (C a : Addr) (v : V) : Prop := ∃ d, H a = some (exo a C (some d)) ∧ H d = some (exd d [(vName, v)])
theorem Err.same {H H' : Hp} {C a : Addr} {v : V} (e : Err H C a v) (k : Same H H') : Err H' C a v := by
  obtain ⟨d, h1, h2⟩ := e
  exact ⟨d, k _ _ h1, k _ _ h2⟩
/-- the promise of an error class's __init__ -/
def spErr (K : PySem.W.Frag) (C : Addr) : Sp := fun vs H Q _ => ∃ (a : Addr) (v : V), vs = [.ref a, v] ∧ H a = some (exo a C none) ∧
  ∀ dx, H dx = none → dx ≠ a → Q .non (upd (upd H dx (exd dx [(vName, v)])) a (exo a C (some dx)))
/-- C(e), C(value=e) -/
def tErr (C : Addr) (te : TE) : TE := fun σ H Q => te σ H fun v H1 => ∀ a H', H1 a = none → Err H' C a v → Same H1 H' → Q (.ref a) H'
section
variable {X : Cx} {S C fI : Addr} {x : Str} {fd : FuncData} {k : Nat} {pins : List (Addr × Obj)} {σ : L2.St} {H : Hp} {s : Shared} {v : V} {u : Value} {Q : VK} {kw : List (Str × Value)} {us : List Value}
/-- the call of the class itself, with the value at its place or by its name -/
theorem run_err (E : ErrK X.K X.mg S C fI x) (F : FnOk X.prog X.w X.K X.mg X.base CX0 k fI fd ["self", "value"] (spErr X.K C)) (hr : Room (k + 1) X.A) (I : Inv X pins σ H s) (rv : RelV v u)
    (hz : us.length ≤ sizeLine) (hb : ∀ (a : Addr) (s : Shared), X.K.In s.heap → BindsTo s fd ⟨.ref a :: us, kw⟩ ((["self", "value"] : List Str).zip [.ref a, u])) (hkw : kw = [] ∨ us = [])
    (q : ∀ a H', H a = none → Err H' C a v → Same H H' → Q (.ref a) H') : wpAny (model X.prog X.w) X.A (call (.ref C) us kw) (EP X pins σ Q) X.xe s := by
  obtain ⟨nm, q0, N, bs, sn, sub, ab, col, dd, k0, k1, k2, k3, k5, hC⟩ := E.cls
  obtain ⟨hp, g, dr, tk, os⟩ := s
  have hn : H (hp.objs.size + 1) = none := I.hok.fresh (Nat.le_succ _)
  have kk : ∀ b o, hp.get? b = some o → ((hp.push (PySem.W.kdv_tup us)).push (PySem.HandSPX.excO C hp.objs.size)).get? b = some o := by
    intro b o e
    exact Heap.get?_push_of_some _ (Heap.get?_push_of_some _ e)
  have hget : ((hp.push (PySem.W.kdv_tup us)).push (PySem.HandSPX.excO C hp.objs.size)).get? (hp.objs.size + 1) = some (PySem.HandSPX.excO C hp.objs.size) := by
    heap_get
  have I2 := I.laid (t' := tk) (a := hp.objs.size + 1) (o := exo (hp.objs.size + 1) C none) kk (Nat.le_succ _) (exo_ok hget)
  have kIn2 := I2.kIn
  refine wpAny_call (ScK.kw_call PySem.F.excBase_ValueError (fun Y => PySem.HandSPX.refsVE_contains Y (above S) rfl) (I.kIn _ _ hC) hz (PySem.W.looks_findIn I.kIn E.iC) (fun self => PySem.W.bind_fn I.kIn self E.tI) ?_)
  have hq := F.run (X.A.under (.builtin "type.__call__" ⟨.ref C :: us, kw⟩)) X.stack _ _ ⟨.ref (hp.objs.size + 1) :: us, kw⟩ [.ref (hp.objs.size + 1), u] [.ref (hp.objs.size + 1), v]
    (fun r H2 => r = .non ∧ ∃ d, H d = none ∧ d ≠ hp.objs.size + 1 ∧ H2 = upd (upd (upd H (hp.objs.size + 1) (exo (hp.objs.size + 1) C none)) d (exd d [(vName, v)])) (hp.objs.size + 1) (exo (hp.objs.size + 1) C (some d)))
    (fun _ _ _ => False) (hr.make C us kw) (I2.env0.make C us kw) (hb _ _ kIn2) (.cons rfl (.cons rv .nil))
    ⟨_, _, rfl, upd_same, fun dx h1 h2 => ⟨rfl, dx, by rw [upd_ne h2] at h1; exact h1, h2, rfl⟩⟩
  refine codeAny_mono hq ?_
  intro r s' hq'
  match r, hq' with
  | .error e, hq' => exact hq'.elim
  | .ok .next, hq' => exact hq'.elim
  | .ok .brk, hq' => exact hq'.elim
  | .ok .cont, hq' => exact hq'.elim
  | .ok (.ret u'), hq' =>
    obtain ⟨r', H2, J, rr, e0, d, hd, ne, e2⟩ := I2.after hq'
    subst e0
    subst e2
    refine ⟨rr, .ref (hp.objs.size + 1), _, J, rfl, q _ _ hn ⟨d, upd_same, ?_⟩ fun b o e => ?_⟩
    · rw [upd_ne ne, upd_same]
    · have nb := ne_of_none e hn
      rw [upd_ne nb, upd_ne (ne_of_none e hd), upd_ne nb]
      exact e
end
end Sc

set_option maxRecDepth 100000
set_option maxHeartbeats 4000000
namespace Sc
open PySem L2 PySem.Spec PyProof.Rows
/-- an error class with the promise of its creation -/
structure ErrF (P : Program) (w : World) (K : PySem.W.Frag) (mg : Str → Option Value) (base : Heap) (S C fI : Addr) (fd : FuncData) (x : Str) : Prop where
  e : ErrK K mg S C fI x
  ok : FnOk P w K mg base CX0 1 fI fd ["self", "value"] (spErr K C)
  bP : ∀ (a : Addr) (u : Value) (s : Shared), K.In s.heap → BindsTo s fd ⟨[.ref a, u], []⟩ ((["self", "value"] : List Str).zip [.ref a, u])
  bK : ∀ (a : Addr) (u : Value) (s : Shared), K.In s.heap → BindsTo s fd ⟨[.ref a], [(vName, u)]⟩ ((["self", "value"] : List Str).zip [.ref a, u])
/-- behind the one argument -/
def aft (C : Addr) (Q : VK) : List V → Hp → Prop := fun vs H1 => match vs with
  | [v] => ∀ a H', H1 a = none → Err H' C a v → Same H1 H' → Q (.ref a) H'
  | _ => False
theorem aft_one {C : Addr} {Q : VK} {vs : List V} {us : List Value} {H1 : Hp} (r : Vals vs us) (q : aft C Q vs H1) :
    ∃ v u, vs = [v] ∧ us = [u] ∧ RelV v u ∧ ∀ a H', H1 a = none → Err H' C a v → Same H1 H' → Q (.ref a) H' := by
  cases r with
  | nil => exact q.elim
  | cons a b =>
    cases b with
    | nil => exact ⟨_, _, rfl, rfl, a, q⟩
    | cons _ _ => exact q.elim
section
variable {X : Cx} {S C fI : Addr} {x : Str} {fd : FuncData} {e : Expr} {te : TE} {p pos kpos : Pos}
/-- C(e) -/
theorem pe_errP (E : ErrF X.prog X.w X.K X.mg X.base S C fI fd x) (hr : Room 2 X.A) (ha : PE X e te) (hg : Gl X x := by rfl) (hdb : (x == ("__debug__" : Str)) = false := by decide)
    (he : starEach [e] X.env = (false, eval e X.env) :: starEach [] X.env := by rfl) (hpl : (backTo pos (starEach [] X.env)).any (·.1) = false := by rfl) :
    PE X (.Call (.Name x p) [e] [] pos) (tErr C te) := by
  constructor
  intro pins s σ H Q I h
  refine wpAny_Call_Name_kw (ld_glob I hg E.e.gC ?_ hdb)
  refine PySem.W.callWith_K (h₀ := X.base) I.ok.mod.kin E.e.kC (thn ((pa_cons ha pa_nil he).run pos pins s σ H (aft C Q) I h) ?_) he hpl
  intro us s1 hh
  obtain ⟨vs, H1, I1, r1, q⟩ := hh
  obtain ⟨v, u, rfl, rfl, ru, q⟩ := aft_one r1 q
  refine ⟨I1.kIn, ?_⟩
  exact run_err (kw := []) E.e E.ok hr I1 ru (by show 1 ≤ sizeLine; decide) (fun a s X => E.bP a u s X) (.inl rfl) q
/-- C(value=e) -/
theorem pe_errK (E : ErrF X.prog X.w X.K X.mg X.base S C fI fd x) (hr : Room 2 X.A) (ha : PE X e te) (hg : Gl X x := by rfl) (hdb : (x == ("__debug__" : Str)) = false := by decide)
    (hall : (backToKw pos (keywordEach [⟨some vName, e, kpos⟩] X.env)).all (·.1.isSome) = true := by rfl) (hks : (backToKw pos (keywordEach [⟨some vName, e, kpos⟩] X.env)).filterMap (·.1) = [vName] := by rfl)
    (hpl : ((backTo pos (starEach [] X.env)).any (·.1) || (backToKw pos (keywordEach [⟨some vName, e, kpos⟩] X.env)).any (·.1.isNone)) = false := by rfl) :
    PE X (.Call (.Name x p) [] [⟨some vName, e, kpos⟩] pos) (tErr C te) := by
  constructor
  intro pins s σ H Q I h
  refine wpAny_Call_Name_kw (ld_glob I hg E.e.gC ?_ hdb)
  refine PySem.W.callWith_KW0 (h₀ := X.base) I.ok.mod.kin E.e.kC hall ?_ hpl
  refine thn ((pk_cons (nm := some vName) (kpos := kpos) ha pk_nil).run pos pins s σ H (aft C Q) I h) ?_
  intro us s1 hh
  obtain ⟨vs, H1, I1, r1, q⟩ := hh
  obtain ⟨v, u, rfl, rfl, ru, q⟩ := aft_one r1 q
  refine ⟨I1.kIn, ?_⟩
  rw [hks]
  exact run_err (us := []) (kw := [(vName, u)]) E.e E.ok hr I1 ru (Nat.zero_le _) (fun a s X => E.bK a u s X) (.inr rfl) q
/-- isinstance(e, c), e such an error -/
theorem call_isErr (T : ErrK X.K X.mg S C fI x) (D : ClsD X.K) : CallR X (.builtin "isinstance") (fun xs H Q => ∃ (a : Addr) (v c : V) (cv : Value) (b : Bool), xs = [.ref a, c] ∧ Err H C a v ∧ (∀ u, RelV c u → u = cv) ∧ PySem.W.kitOne X.K (.ref C) cv = some b ∧ Q (.bl b) H) := by
  intro pins s σ H xs us Q I r h
  obtain ⟨a, v, c, cv, b, rfl, ⟨d, ea, ed⟩, hc, e, q⟩ := h
  cases r with
  | cons rx rr =>
    cases rr with
    | cons rt rr =>
      cases rr
      cases rx
      have ec := hc _ rt
      subst ec
      obtain ⟨t1, ho⟩ := exo_at I.hok ea
      obtain ⟨mA, ⟨od, es, ep, hd, hrest⟩, _⟩ := exd_at I.hok ed
      have J : PySem.W.InstAt s.heap a { cls := .ref C, dict := some d, data := .fields #[.ref t1, .none, .none, .none, .bool false, .none] } C (some od) := ⟨ho, rfl, rfl, hd⟩
      obtain ⟨cd, hcd, _⟩ := T.clsIn
      exact PySem.W.kia_one (PySem.W.kitx_exc (by rw [hcd]; rfl) T.ga T.gg (T.sub _) T.ha D.hn D.ht (T.mro _)) I.kIn J e (fun z => nomatch z) fun tk => ⟨.bl b, H, I.kept (t' := tk) fun _ _ z => z, rfl, q⟩
/-- e.value -/
theorem pe_errV (T : ErrK X.K X.mg S C fI x) (ha : PE X e te) (hb : attributeBase e vName X.env (eval e X.env) = eval e X.env := by rfl) :
    PE X (.Attribute e vName pos) (fun σ H Q => te σ H fun y H1 => ∃ (a : Addr) (v : V), y = .ref a ∧ Err H1 C a v ∧ Q v H1) := by
  constructor
  intro pins s σ H Q I h
  refine attr_of hb (thn (ha.run pins s σ H _ I h) ?_)
  intro u s1 hh
  obtain ⟨y, H1, I1, ry, a, v, rfl, ⟨d, ea, ed⟩, q⟩ := hh
  cases ry
  obtain ⟨t1, ho⟩ := exo_at I1.hok ea
  obtain ⟨mA, hns, hr⟩ := exd_at I1.hok ed
  obtain ⟨od, hod, hl⟩ := lookIn_ns hns
  have l : List.lookup vName [(vName, v)] = some v := by
    simp [List.lookup]
  obtain ⟨u, hu, ru⟩ := RelO.some_of (v := v) (o := mA vName) (by rw [← l]; exact hr vName)
  have J : PySem.W.InstAt s1.heap a { cls := .ref C, dict := some d, data := .fields #[.ref t1, .none, .none, .none, .bool false, .none] } C (some od) := ⟨ho, rfl, rfl, hod⟩
  exact PySem.HandSPX.exc_get I1.kIn J T.ga T.gg (T.sub _) (PySem.W.findObj_own T.hd T.noV rfl (by rw [hl, hu])) (handed_of ru) ⟨v, H1, I1.tok _, ru, q⟩
end
end Sc

set_option maxRecDepth 100000
set_option maxHeartbeats 4000000
namespace Sc
open PySem L2 PySem.Spec PyProof.Rows
/-! ### an error class's own creation -/
abbrev eB (q1 q2 q3 q4 : Pos) : List Stmt := [.Assign [.Attribute (.Name "self" q1) "value" q2] (.Name "value" q3) q4]
abbrev eS : Scope := { kind := .function, names := [(Str.ofString "self", .local), (Str.ofString "value", .local)], isGenerator := false, isCoroutine := false, more := [] }
theorem scE : FnScope ["self", "value"] ["self", "value"] eS := ⟨rfl, rfl, rfl, by decide +kernel, rfl, by decide +kernel, by decide +kernel⟩
section
variable {P : Program} {w : World} {K : PySem.W.Frag} {mg : Str → Option Value} {base : Heap} {S C fI : Addr} {fd : FuncData} {x qual : Str} {st : Stmt} {q1 q2 q3 q4 : Pos}
theorem ok_err (F : Fun K "__init__" qual st fI fd) (E : ErrK K mg S C fI x) (hB : defBody st = eB q1 q2 q3 q4) (hS : defScope st = eS) : FnOk P w K mg base CX0 1 fI fd ["self", "value"] (spErr K C) := by
  have sc : FnScope ["self", "value"] ["self", "value"] (defScope st) := by rw [hS]; exact scE
  refine F.ok sc (fun vs H Q E' h => ?_) (fun cdv A outer s H vs Q E' hr h => ?_)
  · obtain ⟨a, v, rfl, _⟩ := h
    rfl
  · obtain ⟨a, v, rfl, ha, q⟩ := h
    rw [hB, hS]
    refine ⟨_, pss_one (ps_ost (pv 0) (pv 1)), ?_⟩
    refine ⟨_, rfl, _, rfl, a, C, rfl, E.oex, E.noV, .inl ⟨ha, fun dx h1 h2 => ?_⟩⟩
    exact q dx h1 h2
end
end Sc

set_option maxRecDepth 100000
set_option maxHeartbeats 4000000
namespace Sc
open PySem L2 PySem.Spec PyProof.Rows
theorem same_new {H : Hp} {p : Addr} {o : HO} (h : H p = none) : Same H (upd H p o) := fun b u e => by
  rw [upd_ne (ne_of_none e h)]
  exact e
/-- a new list is filled: what was there ahead of it stays -/
theorem same_fill {H H1 : Hp} {p : Addr} {o : HO} (h : H p = none) (s : Same H H1) : Same H (upd H1 p o) := fun c u e => by
  rw [upd_ne (ne_of_none e h)]
  exact s c u e
theorem sqT_same {K : PySem.W.Frag} {H H' : Hp} {a : Addr} {xs : List V} (h : SqT K H a xs) (s : Same H H') : SqT K H' a xs := by
  rcases h with (h | ⟨o, h⟩) | h
  · exact .inl (.inl (s _ _ h))
  · exact .inl (.inr ⟨o, s _ _ h⟩)
  · exact .inr h
theorem sqL_same {K : PySem.W.Frag} {H H' : Hp} {a : Addr} {xs : List V} (h : SqL K H a xs) (s : Same H H') : SqL K H' a xs := s.seq h
theorem PotAt.three {H : Hp} {p : Addr} {N : Nat} (h : PotAt H p N) : Three H p := by
  obtain ⟨o, m, c, e, _⟩ := h
  exact ⟨_, _, _, e⟩
theorem PotAt.mono {H : Hp} {p : Addr} {N M : Nat} (h : PotAt H p N) (l : N ≤ M) : PotAt H p M := by
  obtain ⟨o, m, c, e, a, b, d, f, g⟩ := h
  exact ⟨o, m, c, e, a, b, d, f, by omega⟩
theorem PotAt.same {H H' : Hp} {p : Addr} {N : Nat} (h : PotAt H p N) (k : Same H H') : PotAt H' p N := by
  obtain ⟨o, m, c, e, r⟩ := h
  exact ⟨o, m, c, k _ _ e, r⟩
theorem SameBut.trans {p : Addr} {H H1 H2 : Hp} (a : SameBut p H H1) (b : SameBut p H1 H2) : SameBut p H H2 := fun c o e h => b c o (a c o e h) h
theorem same_but {p : Addr} {H H' : Hp} (a : Same H H') : SameBut p H H' := fun c o e _ => a c o e
theorem SameBut.refl (p : Addr) (H : Hp) : SameBut p H H := fun _ _ e _ => e
theorem SameBut.seq {K : PySem.W.Frag} {p l : Addr} {H H' : Hp} {xs : List V} (k : SameBut p H H') (hl : l ≠ p) (h : SqL K H l xs) : SqL K H' l xs := by
  rcases h with (h | ⟨o, h⟩) | h
  · exact .inl (.inl (k _ _ h hl))
  · exact .inl (.inr ⟨o, k _ _ h hl⟩)
  · exact .inr h
/-! ### readings, piece by piece -/
section
variable {σ : L2.St} {H : Hp} {te : TE} {tr t : TA} {Q : VK} {QA : List V → Hp → Prop} {v : V}
theorem unit_go (h : ∀ p H', H p = none → H' p = some (.tup []) → Same H H' → Q (.ref p) H') : tTup tNil σ H Q := ⟨Nat.zero_le _, fun p hp => h p _ hp upd_same (same_new hp)⟩
theorem cons_go (h : te σ H fun x H1 => tr σ H1 fun xs H2 => QA (x :: xs) H2) : tCons te tr σ H QA := h
theorem nil_go (h : QA [] H) : tNil σ H QA := h
theorem c_go (h : Q v H) : tC v σ H Q := h
def TupEnd (Q : VK) (xs : List V) (H1 : Hp) : Prop := xs.length ≤ sizeLine ∧ ∀ p, H1 p = none → Q (.ref p) (upd H1 p (.tup xs))
theorem tup_go (h : t σ H (TupEnd Q)) : tTup t σ H Q := h
theorem tup_end {xs : List V} (hz : xs.length ≤ 1000) (h : ∀ p H', H' p = some (.tup xs) → Same H H' → Q (.ref p) H') : TupEnd Q xs H :=
  ⟨Nat.le_trans hz (by decide), fun p hp => h p _ upd_same (same_new hp)⟩
def LstEnd (Q : VK) (xs : List V) (H1 : Hp) : Prop := xs.length ≤ sizeLine ∧ ∀ p, H1 p = none → Q (.ref p) (upd H1 p (.lst xs))
theorem lst_go (h : t σ H (LstEnd Q)) : tLst t σ H Q := h
theorem lst_end {xs : List V} (hz : xs.length ≤ 1000) (h : ∀ p H', H' p = some (.lst xs) → Same H H' → Q (.ref p) H') : LstEnd Q xs H :=
  ⟨Nat.le_trans hz (by decide), fun p hp => h p _ upd_same (same_new hp)⟩
def LstBEnd (Q : VK) (xs : List V) (H1 : Hp) : Prop := xs.length ≤ sizeLine ∧ ∀ p, H1 p = none → p ≠ sysModules → Q (.ref p) (upd H1 p (.lst xs))
theorem lstB_go (h : t σ H (LstBEnd Q)) : tLstB t σ H Q := h
theorem lstB_end {xs : List V} (hz : xs.length ≤ 1000) (h : ∀ p H', p ≠ sysModules → H' p = some (.lst xs) → Same H H' → Q (.ref p) H') : LstBEnd Q xs H :=
  ⟨Nat.le_trans hz (by decide), fun p hp hs => h p _ hs upd_same (same_new hp)⟩
theorem dnew_go (h : ∀ p H', H' p = some (.dK []) → Same H H' → Q (.ref p) H') : tDNewK σ H Q := fun p hp => h p _ upd_same (same_new hp)
def DispEnd (Q : VK) (p : Addr) (k : Str) (y : V) (H2 : Hp) : Prop :=
  H2 p = some (.dK []) ∧ ∃ kvs : List (Key × V), [(V.str k, y)] = kvs.map (fun kv => (kV kv.1, kv.2)) ∧ kvs.length ≤ 15 ∧ Q (.ref p) (upd H2 p (.dK (mergeK [] kvs)))
theorem disp_go {k : Str} (h : ∀ p H1, H p = none → H1 p = some (.dK []) → Same H H1 → te σ H1 (DispEnd Q p k)) : tDisp [(tC (.str k), te)] σ H Q :=
  fun p hp => h p _ hp upd_same (same_new hp)
theorem disp_end {p : Addr} {k : Str} {y : V} {H0 : Hp} (h0 : H0 p = none) (hp : H p = some (.dK [])) (s : Same H0 H) (h : ∀ H', H' p = some (.dK [(Sum.inr k, y)]) → Same H0 H' → (∀ b o, H b = some o → b ≠ p → H' b = some o) → Q (.ref p) H') : DispEnd Q p k y H := by
  refine ⟨hp, [(Sum.inr k, y)], rfl, by simp, h _ upd_same (fun b o e => ?_) fun b o e ne => ?_⟩
  · rw [upd_ne (ne_of_none e h0)]
    exact s b o e
  · rw [upd_ne ne]
    exact e
end
def spOf (K : PySem.W.Frag) : Sp := fun vs H Q _ => ∃ (p l : Addr) (xs : List V) (N : Nat), vs = [.ref p, .ref l] ∧ PotAt H p N ∧ N < 100000 ∧ SqL K H l xs ∧ l ≠ p ∧ 0 < xs.length ∧ xs.length < 1000 ∧
  ∀ x H', x ∈ xs → PotAt H' p (N + 1) → SameBut p H H' → Q x H'
section
variable {P : Program} {w : World} {K : PySem.W.Frag} {mg : Str → Option Value} {base : Heap}
theorem ok_of {f fT : Addr} {fd fdT : FuncData} (F : Fun K "_law_of" "_law_of" sOf f fd) (T : Nat0 mg) (GT : FnOk P w K mg base CX0 1 fT fdT ["_law_pot", "_law_upto"] spTake) (gT : mg "_law_take" = some (.ref fT))
    (kT : PySem.W.keepIn K (.ref fT) = true) (bT : Binds K fdT ["_law_pot", "_law_upto"] []) : FnOk P w K mg base CX0 2 f fd ["_law_pot", "_law_some"] (spOf K) := by
  refine F.ok scOf (fun vs H Q E h => ?_) (fun cdv A outer s H vs Q E hr h => ?_)
  · obtain ⟨p, l, xs, N, rfl, _⟩ := h
    rfl
  · obtain ⟨p, l, xs, N, rfl, hp, hN, hl, ne, h0, h1, q⟩ := h
    refine ⟨_, pss_one (ps_ret (pe_ix ix_list (pv 1) (pe_call GT hr (by rfl) gT kT bT .nil pass0 (pa_cons (pv 0) (pa_cons (pe_callB call_len_seq (by rfl) T.len PySem.boot_len (pa_cons (pv 1) pa_nil)) pa_nil))) (fun _ _ => rfl))), ?_⟩
    refine ⟨_, rfl, _, rfl, _, rfl, l, xs, rfl, .inl hl, p, _, N, rfl, hp, by omega, by omega, by omega, fun d H' d0 d1 hp' k => ?_⟩
    obtain ⟨n, rfl⟩ : ∃ n : Nat, d = n := ⟨d.toNat, by omega⟩
    have hn : n < xs.length := by omega
    refine ⟨l, xs, _, xs[n], rfl, rfl, k.seq ne hl, atI_nat (List.getElem?_eq_getElem hn), ?_⟩
    exact q _ _ (List.getElem_mem hn) hp' k
end
/-! ### calls where it is known that no repr runs around -/
structure FnOkG (P : Program) (w : World) (K : PySem.W.Frag) (mg : Str → Option Value) (base : Heap) (k : Nat) (f : Addr) (fd : FuncData) (ps : List Str) (sp : Sp) : Prop where
  len : ∀ vs H Q E, sp vs H Q E → vs.length = ps.length
  run : ∀ (A : Around) (outer : List Env) (s : Shared) (H : Hp) (args : Args) (us : List Value) (vs : List V) (Q : VK) (E : XK),
    A.guards = some [] → Room k A → Env0 P w K mg base A outer s H → BindsTo s fd args (ps.zip us) → Vals vs us → sp vs H Q E →
    codeAny (model P w) A (.call (.ref f) args) (CR CX0 outer P w H s Q E) s
section
variable {P : Program} {w : World} {K : PySem.W.Frag} {mg : Str → Option Value} {base : Heap} {x qual : Str} {st : Stmt} {f : Addr} {fd : FuncData} {N ps : List Str} {k : Nat} {sp : Sp}
theorem okG (F : Fun K x qual st f fd) (S : FnScope N ps (defScope st)) (len : ∀ vs H Q E, sp vs H Q E → vs.length = ps.length)
    (hbody : ∀ (cdv : Value) (A : Around) (outer : List Env) (s : Shared) (H : Hp) (vs : List V) (Q : VK) (E : XK), A.guards = some [] → Room k (A.deeper (envOfC qual (defScope st) s.heap.objs.size f cdv)) → sp vs H Q E →
      ∃ t, PSs (cxOf CX0 P w K mg base N qual (defScope st) f cdv A outer s H E).nox (defBody st) t ∧ t { nx := fun _ H' => Q .non H', rt := Q } (start N vs) H) :
    FnOkG P w K mg base (k + 1) f fd ps sp := by
  obtain ⟨oc, od, kV, doc, pm, an, cdv, ct, osl, rfl, lk, hcd⟩ := F.ex
  constructor
  · exact len
  intro A outer s H args us vs Q E hg hr e0 hb r hsp
  have kIn : K.In s.heap := e0.mod.kin.keeps (fun b o e => (e0.bs b o e).1)
  have noLim : s.heap.NoLimit := e0.mod.nolimit.keeps (fun b o e => (e0.bs b o e).1)
  have kinds : ∀ y ∈ ps.zip us, (defScope st).names.lookup y.1 = some .local ∨
      ((defScope st).names.lookup y.1 = some .cell ∧ ((cellsFrom (s.heap.objs.size + 1) (defScope st).names []).lookup y.1).isSome = true) := by
    intro y hy
    rcases S.par y.1 (List.of_mem_zip hy).1 with q | q
    · exact .inl q
    · exact .inr ⟨q, PySem.W.cellsFrom_some _ _ _ (.inl q)⟩
  refine codeAny_call_function hr.depth (kIn _ _ lk) rfl S.co S.gen rfl (PySem.W.codeRec_of kIn hcd) (hb _ _ _ _ ?_)
  refine wpAny_newFunctionEnv_cells S.kind kinds ?_
  intro env he s1 y
  subst he
  refine ⟨noLim.keeps y.toInCall.keep, codeAny_func ?_⟩
  obtain ⟨t, ht, hq⟩ := hbody cdv A outer s H vs Q E hg (hr.deeper _) hsp
  have I := inv_start (CX := CX0) (E := E) S hr.hd e0 (len _ _ _ _ hsp) r y
  refine wpAny_mono (ht.nox.run [] s1 (start N vs) H _ I hq) ?_ (fun e s' hs => hs)
  intro fl s' hs
  match fl, hs with
  | .ret u, ⟨v, σ', H', J, rv, q⟩ => exact ⟨v, H', J.os, J.bare, J.base, J.hok, rv, q⟩
  | .next, ⟨σ', H', J, q⟩ => exact ⟨V.non, H', J.os, J.bare, J.base, J.hok, rfl, q⟩
  | .brk, ⟨_, _, _, q⟩ => exact q.elim
  | .cont, ⟨_, _, _, q⟩ => exact q.elim
end
section
variable {X : Cx} {k : Nat} {f : Addr} {fd : FuncData} {ps : List Str} {sp : Sp} {x : Str} {p pos : Pos} {e : Expr} {es : List Expr} {t : TA}
theorem pe_callG (F : FnOkG X.prog X.w X.K X.mg X.base k f fd ps sp) (hG : X.A.guards = some []) (hr : Room k X.A) (hg : Gl X x) (hm : X.mg x = some (.ref f)) (hk : PySem.W.keepIn X.K (.ref f) = true) (hb : Binds X.K fd ps [])
    (ha : PA X (e :: es) t) (hdb : (x == ("__debug__" : Str)) = false := by decide) (he : starEach (e :: es) X.env = (false, eval e X.env) :: starEach es X.env := by rfl) (hpl : (backTo pos (starEach es X.env)).any (·.1) = false := by rfl) :
    PE X (.Call (.Name x p) (e :: es) [] pos) (tCall sp [] E0 t) := by
  constructor
  intro pins s σ H Q I h
  refine wpAny_Call_Name_kw (ld_glob I hg hm ?_ hdb)
  refine PySem.W.callWith_K (h₀ := X.base) I.ok.mod.kin hk (thn (ha.run pos pins s σ H _ I h) ?_) he hpl
  intro us s1 hh
  obtain ⟨vs, H1, I1, r, q⟩ := hh
  rw [List.append_nil] at q
  refine ⟨I1.kIn, ?_⟩
  have hl : (us ++ []).length = ps.length := by
    rw [List.append_nil, ← r.length]
    exact F.len _ _ _ _ q
  have bt := hb s1 us I1.kIn hl
  rw [List.append_nil] at bt
  refine wpAny_call (codeAny_mono (F.run X.A X.stack s1 H1 ⟨us, []⟩ us vs Q E0 hG hr I1.env0 bt r q) ?_)
  intro r s' hq
  match r, hq with
  | .error e, hq => exact hq.elim
  | .ok (.ret u), hq => exact I1.after hq
  | .ok .next, hq => exact hq.elim
  | .ok .brk, hq => exact hq.elim
  | .ok .cont, hq => exact hq.elim
end
end Sc

set_option maxRecDepth 100000
set_option maxHeartbeats 4000000
namespace Sc
open PySem L2 PySem.Spec PyProof.Rows TL
/-! ### choices, runs, as data and as texts -/
inductive Ch where
  | beg (p w : Str)
  | at (t : Str)
  | one (w : Str)
abbrev Item := Ch × Option Nat
def chD : Ch → PyData
  | .beg p w => .tuple [.str "begin", .tuple [.str p, .str w]]
  | .at t => .tuple [.str "at", .str t]
  | .one w => .tuple [.str w]
def stD : Option Nat → PyData
  | none => .none
  | some n => .int (n : Nat)
def itD (c : Item) : PyData := .tuple [chD c.1, stD c.2]
def runD (r : List Item) : PyData := .tuple (r.map itD)
def letters : Str := "abcdefghijklmnopqrstuvwxyz"
def digits : Str := "0123456789"
def stepWords : List Str := ["leaves", "before", "lay", "gone", "behind"]
def numT (n : Nat) : Str := Str.ofString (toString ((n : Nat) : Int))
def bodyOf : Ch → Str
  | .beg p w => "begin " ++ Txt.join "." [p, w]
  | .at t => "at " ++ t
  | .one w => w
def showCh (c : Item) : Str := match c.2 with
  | none => bodyOf c.1
  | some n => bodyOf c.1 ++ " stop " ++ numT n
def showRun (r : List Item) : Str := if r.isEmpty then "-" else Txt.join ", " (r.map showCh)
def allIn (w z : Str) : Bool := w.cps.toList.all fun c => decide (c ∈ z.cps.toList)
def spelled (w : Str) : Bool := decide (1 ≤ w.length) && decide (w.length ≤ 8) && allIn w letters
def number (w : Str) : Bool := if (w == ("" : Str)) || !allIn w digits then false else (w == ("0" : Str)) || !(w.cps.toList.head? == some 48)
def shortNum (w : Str) : Bool := decide (w.length ≤ 4) && number w
def valOf (w : Str) : Nat := NumText.digitsVal w.cps.toList
def areNames (ws : List Str) (n : Nat) : Bool := ws.length == n && ws.all spelled
def w0 (ws : List Str) : Str := ws.getD 0 ""
def wEnd (ws : List Str) : Str := ws.getD (ws.length - 1) ""
def wPre (ws : List Str) : Str := ws.getD (ws.length - 2) ""
def hasStop (ws : List Str) : Bool := decide (2 < ws.length) && (wPre ws == ("stop" : Str))
def single (ws : List Str) : Bool := ws == [("again" : Str)] || ws == [("back" : Str)] || ws == [("turn" : Str)]
def begOf (ws : List Str) : Option Ch :=
  let st := Txt.split (ws.getD 1 "") "."
  if st.length == 2 && spelled (st.getD 0 "") && stepWords.contains (st.getD 1 "") then some (.beg (st.getD 0 "") (st.getD 1 "")) else none
def choiceOf (ws : List Str) : Option Ch :=
  if single ws = true then some (.one (w0 ws))
  else if ((w0 ws == ("at" : Str)) && areNames (ws.drop 1) 1) = true then some (.at (ws.getD 1 ""))
  else if ((w0 ws == ("begin" : Str)) && ws.length == 2) = true then begOf ws
  else none
def cutStop (ws : List Str) : List Str × Option Nat :=
  if (hasStop ws && shortNum (wEnd ws)) = true then (ws.take (ws.length - 2), some (valOf (wEnd ws))) else (ws, none)
def readWs (ws : List Str) : Option Item := (choiceOf (cutStop ws).1).map fun c => (c, (cutStop ws).2)
def readCh (line : Str) : Option Item := readWs (Txt.split line " ")
def readRun (t : Str) : Option (List Item) :=
  if t == ("-" : Str) then some []
  else if ((Txt.split t ", ").map readCh).all Option.isSome then some ((Txt.split t ", ").filterMap readCh) else none
/-! ### the law's own reader -/
def lawTail (ws : List Str) (stop : Option Nat) : Option Item :=
  if (ws.length == 1 && [("again" : Str), "back", "turn"].contains (w0 ws)) = true then some (.one (w0 ws), stop)
  else if (ws.length == 2 && ((w0 ws == ("at" : Str)) && spelled (ws.getD 1 ""))) = true then some (.at (ws.getD 1 ""), stop)
  else
    let parts := Txt.split (wEnd ws) "."
    if (ws.length != 2 || (w0 ws != ("begin" : Str) || (parts.length != 2 || !spelled (parts.getD 0 "")))) = true then none
    else if stepWords.contains (parts.getD 1 "") then some (.beg (parts.getD 0 "") (parts.getD 1 ""), stop) else none
def lawDigits (d : Str) : Bool := (decide (1 ≤ d.length) && decide (d.length ≤ 4)) && allIn d digits
def lawWs (ws : List Str) : Option Item :=
  if hasStop ws = true then
    if lawDigits (wEnd ws) = true then (if (numT (valOf (wEnd ws)) == wEnd ws) = true then lawTail (ws.take (ws.length - 2)) (some (valOf (wEnd ws))) else none) else none
  else lawTail ws none
/-- numbers of at most four digits, written again -/
theorem tl_inj {x y : Str} (h : tl x = tl y) : x = y := ext_tl h
theorem beq_tl (x y : Str) : (x == y) = (tl x == tl y) := by
  by_cases h : x = y
  · subst h
    rw [beq_self_eq_true, beq_self_eq_true]
  · rw [beq_eq_false_iff_ne.mpr h, beq_eq_false_iff_ne.mpr fun z => h (ext_tl z)]
theorem all_digits {w : Str} (h : allIn w digits = true) : ∀ c ∈ tl w, 48 ≤ c ∧ c ≤ 57 := by
  intro c hc
  have h1 := List.all_eq_true.mp h c hc
  have h2 : c ∈ digits.cps.toList := of_decide_eq_true h1
  have e : digits.cps.toList = [48, 49, 50, 51, 52, 53, 54, 55, 56, 57] := by decide
  rw [e] at h2
  simp at h2
  omega
def okNum (l : List Nat) : Bool := (numL (NumText.digitsVal l) == l) == ((l == [48]) || !(l.head? == some 48))
theorem four1 : ∀ a : Nat, a < 10 → okNum [48 + a] = true := by decide +kernel
theorem four2 : ∀ a : Nat, a < 10 → ∀ b : Nat, b < 10 → okNum [48 + a, 48 + b] = true := by decide +kernel
theorem four3 : ∀ a : Nat, a < 10 → ∀ b : Nat, b < 10 → ∀ c : Nat, c < 10 → okNum [48 + a, 48 + b, 48 + c] = true := by decide +kernel
theorem four4 : ∀ a : Nat, a < 10 → ∀ b : Nat, b < 10 → ∀ c : Nat, c < 10 → ∀ d : Nat, d < 10 → okNum [48 + a, 48 + b, 48 + c, 48 + d] = true := by decide +kernel
theorem ok_num : ∀ l : List Nat, (∀ c ∈ l, 48 ≤ c ∧ c ≤ 57) → 1 ≤ l.length → l.length ≤ 4 → okNum l = true := by
  intro l h h1 h4
  have dig : ∀ c ∈ l, ∃ a, a < 10 ∧ c = 48 + a := fun c hc => ⟨c - 48, by have := h c hc; omega, by have := h c hc; omega⟩
  match l, h1, h4, dig with
  | [a], _, _, dig =>
    obtain ⟨a', ha, rfl⟩ := dig a (by simp)
    exact four1 a' ha
  | [a, b], _, _, dig =>
    obtain ⟨a', ha, rfl⟩ := dig a (by simp)
    obtain ⟨b', hb, rfl⟩ := dig b (by simp)
    exact four2 a' ha b' hb
  | [a, b, c], _, _, dig =>
    obtain ⟨a', ha, rfl⟩ := dig a (by simp)
    obtain ⟨b', hb, rfl⟩ := dig b (by simp)
    obtain ⟨c', hc, rfl⟩ := dig c (by simp)
    exact four3 a' ha b' hb c' hc
  | [a, b, c, d], _, _, dig =>
    obtain ⟨a', ha, rfl⟩ := dig a (by simp)
    obtain ⟨b', hb, rfl⟩ := dig b (by simp)
    obtain ⟨c', hc, rfl⟩ := dig c (by simp)
    obtain ⟨d', hd, rfl⟩ := dig d (by simp)
    exact four4 a' ha b' hb c' hc d' hd
  | [], h1, _, _ => exact absurd h1 (by decide)
  | _ :: _ :: _ :: _ :: _ :: _, _, h4, _ => exact absurd h4 (by simp)
theorem numT_eq {w : Str} (h : lawDigits w = true) : (numT (valOf w) == w) = number w := by
  unfold lawDigits at h
  rw [Bool.and_eq_true, Bool.and_eq_true, decide_eq_true_eq, decide_eq_true_eq] at h
  obtain ⟨⟨h1, h4⟩, hd⟩ := h
  have l1 : 1 ≤ (tl w).length := by rw [← len_tl]; exact h1
  have l4 : (tl w).length ≤ 4 := by rw [← len_tl]; exact h4
  have o := ok_num (tl w) (all_digits hd) l1 l4
  have e1 : (numT (valOf w) == w) = (numL (NumText.digitsVal (tl w)) == tl w) := by
    rw [beq_tl]
    unfold numT
    rw [tl_num]
    rfl
  have e0 : (w == ("" : Str)) = false := by
    refine beq_eq_false_iff_ne.mpr fun z => ?_
    subst z
    exact absurd h1 (by decide)
  have e2 : (w == ("0" : Str)) = (tl w == [48]) := by
    rw [beq_tl]
    rfl
  unfold number
  rw [e0, hd, e1, e2]
  unfold okNum at o
  rw [beq_iff_eq] at o
  rw [o]
  rfl
theorem short_law {w : Str} (h : lawDigits w = false) : shortNum w = false := by
  unfold lawDigits at h
  unfold shortNum number
  by_cases h4 : w.length ≤ 4
  · by_cases hd : allIn w digits = true
    · have z : ¬ 1 ≤ w.length := fun h1 => by
        rw [hd, decide_eq_true h1, decide_eq_true h4] at h
        exact absurd h (by decide)
      have e : w = ("" : Str) := by
        refine ext_tl ?_
        have e1 : (tl w).length = 0 := by rw [← len_tl]; omega
        rw [List.length_eq_zero_iff.mp e1]
        rfl
      rw [e]
      rfl
    · rw [show allIn w digits = false by simpa using hd]
      simp
  · rw [decide_eq_false h4]
    rfl
theorem short_yes {w : Str} (h : lawDigits w = true) : shortNum w = number w := by
  unfold lawDigits at h
  rw [Bool.and_eq_true, Bool.and_eq_true, decide_eq_true_eq, decide_eq_true_eq] at h
  unfold shortNum
  rw [decide_eq_true h.1.2]
  rfl
theorem choice_long {ws : List Str} (h : 2 < ws.length) : choiceOf ws = none := by
  unfold choiceOf
  have s : single ws = false := by
    match ws, h with
    | a :: b :: c :: r, _ =>
      unfold single
      simp
    | [], h => exact absurd h (by decide)
    | [_], h => exact absurd h (by simp)
    | [_, _], h => exact absurd h (by simp)
  have n : areNames (ws.drop 1) 1 = false := by
    unfold areNames
    rw [show ((ws.drop 1).length == 1) = false from beq_eq_false_iff_ne.mpr (by rw [List.length_drop]; omega)]
    rfl
  have l : (ws.length == 2) = false := beq_eq_false_iff_ne.mpr (by omega)
  rw [s, n, l]
  simp
theorem tail1 (a : Str) (stop : Option Nat) : lawTail [a] stop = if [("again" : Str), "back", "turn"].contains a = true then some (.one a, stop) else none := by
  show (if (true && [("again" : Str), "back", "turn"].contains a) = true then some (Ch.one a, stop) else (if (false && _) = true then _ else (if (true || _) = true then none else _))) = _
  rw [Bool.true_and, Bool.false_and, Bool.true_or, if_neg Bool.false_ne_true, if_pos rfl]
theorem choice1 (a : Str) : choiceOf [a] = if [("again" : Str), "back", "turn"].contains a = true then some (.one a) else none := by
  have e : single [a] = [("again" : Str), "back", "turn"].contains a := by
    unfold single
    simp [List.contains, List.elem, Bool.or_assoc]
    generalize (a == ("again" : Str)) = x
    generalize (a == ("back" : Str)) = y
    generalize (a == ("turn" : Str)) = z
    cases x <;> cases y <;> cases z <;> rfl
  show (if single [a] = true then some (Ch.one a) else (if ((a == ("at" : Str)) && (false && _)) = true then _ else (if ((a == ("begin" : Str)) && false) = true then _ else none))) = _
  rw [e, Bool.false_and, Bool.and_false, Bool.and_false, if_neg Bool.false_ne_true, if_neg Bool.false_ne_true]
theorem tail2 (a b : Str) (stop : Option Nat) : lawTail [a, b] stop = if ((a == ("at" : Str)) && spelled b) = true then some (.at b, stop) else
    if (a != ("begin" : Str) || ((Txt.split b ".").length != 2 || !spelled ((Txt.split b ".").getD 0 ""))) = true then none else if stepWords.contains ((Txt.split b ".").getD 1 "") = true then some (Ch.beg ((Txt.split b ".").getD 0 "") ((Txt.split b ".").getD 1 ""), stop) else none := by
  show (if (false && _) = true then _ else (if (true && ((a == ("at" : Str)) && spelled b)) = true then some (Ch.at b, stop) else (if (false || (a != ("begin" : Str) || ((Txt.split b ".").length != 2 || !spelled ((Txt.split b ".").getD 0 "")))) = true then none else _))) = _
  rw [Bool.true_and, Bool.false_and, Bool.false_or, if_neg Bool.false_ne_true]
  rfl
theorem choice2 (a b : Str) : choiceOf [a, b] = if ((a == ("at" : Str)) && spelled b) = true then some (.at b) else if (a == ("begin" : Str)) = true then begOf [a, b] else none := by
  have e : single [a, b] = false := by
    unfold single
    simp
  show (if single [a, b] = true then _ else (if ((a == ("at" : Str)) && (true && (spelled b && true))) = true then some (Ch.at b) else (if ((a == ("begin" : Str)) && true) = true then begOf [a, b] else none))) = _
  rw [e, Bool.true_and, Bool.and_true, Bool.and_true, if_neg Bool.false_ne_true]
theorem law_tail {ws : List Str} (h : 1 ≤ ws.length) (stop : Option Nat) : lawTail ws stop = (choiceOf ws).map fun c => (c, stop) := by
  match ws, h with
  | [a], _ =>
    rw [tail1, choice1]
    generalize [("again" : Str), "back", "turn"].contains a = x
    cases x <;> rfl
  | [a, b], _ =>
    rw [tail2, choice2]
    unfold begOf
    show _ = Option.map _ (if _ then _ else (if (a == ("begin" : Str)) = true then (if ((Txt.split b ".").length == 2 && spelled ((Txt.split b ".").getD 0 "") && stepWords.contains ((Txt.split b ".").getD 1 "")) = true then some (Ch.beg ((Txt.split b ".").getD 0 "") ((Txt.split b ".").getD 1 "")) else none) else none))
    rw [show (a != ("begin" : Str)) = !(a == ("begin" : Str)) from rfl, show ((Txt.split b ".").length != 2) = !((Txt.split b ".").length == 2) from rfl]
    generalize ((Txt.split b ".").length == 2) = x1
    generalize stepWords.contains ((Txt.split b ".").getD 1 "") = x3
    generalize spelled ((Txt.split b ".").getD 0 "") = x2
    generalize (a == ("begin" : Str)) = x0
    generalize ((a == ("at" : Str)) && spelled b) = x4
    cases x0 <;> cases x1 <;> cases x2 <;> cases x3 <;> cases x4 <;> rfl
  | a :: b :: c :: r, _ =>
    rw [choice_long (by simp)]
    show (if (false && _) = true then _ else (if (false && _) = true then _ else (if (true || _) = true then none else _))) = none
    rw [Bool.false_and, Bool.false_and, Bool.true_or, if_neg Bool.false_ne_true, if_neg Bool.false_ne_true, if_pos rfl]
  | [], h => exact absurd h (by decide)
theorem law_ws {ws : List Str} (h : 1 ≤ ws.length) : lawWs ws = readWs ws := by
  unfold lawWs readWs cutStop
  by_cases s : hasStop ws = true
  · rw [if_pos s, s, Bool.true_and]
    have l : 2 < ws.length := by
      unfold hasStop at s
      rw [Bool.and_eq_true, decide_eq_true_eq] at s
      exact s.1
    by_cases d : lawDigits (wEnd ws) = true
    · rw [if_pos d, numT_eq d, short_yes d]
      by_cases n : number (wEnd ws) = true
      · rw [if_pos n, if_pos n]
        exact law_tail (by rw [List.length_take]; omega) _
      · rw [if_neg n, if_neg n]
        show none = Option.map _ (choiceOf ws)
        rw [choice_long l]
        rfl
    · rw [if_neg d, short_law (by simpa using d), if_neg (by decide)]
      show none = Option.map _ (choiceOf ws)
      rw [choice_long l]
      rfl
  · rw [if_neg s, show hasStop ws = false by simpa using s, Bool.false_and, if_neg (by decide)]
    exact law_tail h none
end Sc

set_option maxRecDepth 100000
set_option maxHeartbeats 4000000
namespace Sc
open PySem L2 PySem.Spec PyProof.Rows TL
/-! ### what the law draws -/
def drawnNames : List Str := ["p", "web", "abcdefgh", "set", "z", "at"]
def drawnStops : List (Option Nat) := [none, some 0, some 7, some 10, some 9999]
def drawnCh : List Ch := (drawnNames.flatMap fun p => stepWords.map fun w => Ch.beg p w) ++ drawnNames.map Ch.at ++ [("again" : Str), "back", "turn"].map Ch.one
def drawnItems : List Item := drawnCh.flatMap fun c => drawnStops.map fun s => (c, s)
def chB : Ch → Ch → Bool
  | .beg p w, .beg q v => p == q && w == v
  | .at t, .at u => t == u
  | .one w, .one v => w == v
  | _, _ => false
theorem chB_eq {c d : Ch} (h : chB c d = true) : c = d := by
  cases c <;> cases d <;> unfold chB at h <;> simp at h
  · rw [h.1, h.2]
  · rw [h]
  · rw [h]
def readsBack (c : Item) : Bool := match readCh (showCh c) with
  | some d => chB d.1 c.1 && d.2 == c.2
  | none => false
def goodItem (c : Item) : Bool := readsBack c && (decide ((showCh c).length ≤ 40) && (!(tl (showCh c)).contains 44 && (!((tl (showCh c)).head? == some 45) && (!(tl (showCh c)).isEmpty && PyData.strOk (showCh c)))))
theorem all_good : drawnItems.all goodItem = true := by decide +kernel
theorem good_of {c : Item} (h : c ∈ drawnItems) : goodItem c = true := List.all_eq_true.mp all_good c h
theorem reads_back {c : Item} (h : goodItem c = true) : readCh (showCh c) = some c := by
  unfold goodItem at h
  rw [Bool.and_eq_true] at h
  have h := h.1
  unfold readsBack at h
  split at h
  · rename_i d e
    rw [Bool.and_eq_true, beq_iff_eq] at h
    rw [e]
    have h1 := chB_eq h.1
    obtain ⟨d1, d2⟩ := d
    obtain ⟨c1, c2⟩ := c
    rw [show d1 = c1 from h1, show d2 = c2 from h.2]
  · exact absurd h (by decide)
theorem show_short {c : Item} (h : goodItem c = true) : (showCh c).length ≤ 40 := by
  unfold goodItem at h
  simp only [Bool.and_eq_true, decide_eq_true_eq] at h
  exact h.2.1
theorem show_comma {c : Item} (h : goodItem c = true) : 44 ∉ tl (showCh c) := by
  unfold goodItem at h
  simp only [Bool.and_eq_true, Bool.not_eq_true'] at h
  intro z
  have := List.contains_iff_mem.mpr z
  rw [h.2.2.1] at this
  exact absurd this (by decide)
theorem show_head {c : Item} (h : goodItem c = true) : ∃ a r, tl (showCh c) = a :: r ∧ a ≠ 45 := by
  unfold goodItem at h
  simp only [Bool.and_eq_true, Bool.not_eq_true'] at h
  obtain ⟨_, _, _, h1, h2, _⟩ := h
  match e : tl (showCh c), h1, h2 with
  | [], _, h2 => exact absurd h2 (by decide)
  | a :: r, h1, _ => exact ⟨a, r, rfl, by simpa using h1⟩
theorem joinL_len (S : List Nat) : ∀ ps : List (List Nat), (joinL S ps).length ≤ (ps.map (·.length)).sum + ps.length * S.length
  | [] => Nat.zero_le _
  | [p] => by
    show p.length ≤ p.length + 0 + 1 * S.length
    omega
  | p :: q :: r => by
    have h := joinL_len S (q :: r)
    show (p ++ (S ++ joinL S (q :: r))).length ≤ p.length + ((q :: r).map (·.length)).sum + ((q :: r).length + 1) * S.length
    rw [List.length_append, List.length_append, Nat.add_mul]
    omega
theorem join_len (y : Str) (ps : List Str) : (Txt.join y ps).length ≤ (ps.map (·.length)).sum + ps.length * y.length := by
  rw [join_eq, len_tl, tl_join]
  have h := joinL_len (tl y) (ps.map tl)
  rw [List.map_map, List.length_map, ← len_tl] at h
  have e : ps.map ((fun x => x.length) ∘ tl) = ps.map (·.length) := List.map_congr_left fun x _ => (len_tl x).symm
  rw [e] at h
  exact h
theorem sum_le {n : Nat} : ∀ {ls : List Nat}, (∀ l ∈ ls, l ≤ n) → ls.sum ≤ ls.length * n
  | [], _ => by simp
  | l :: r, h => by
    have h1 := h l (by simp)
    have h2 := sum_le (ls := r) fun x hx => h x (List.mem_cons_of_mem _ hx)
    rw [List.sum_cons, List.length_cons, Nat.add_mul]
    omega
def comma : Str := ", "
theorem comma_tl : tl comma = 44 :: [32] := by rfl
theorem run_len {r : List Item} (h : ∀ c ∈ r, goodItem c = true) (hl : r.length ≤ 6) : (showRun r).length ≤ 260 := by
  unfold showRun
  split
  · exact (by decide : ("-" : Str).length ≤ 260)
  · have h1 := join_len comma (r.map showCh)
    have h2 := sum_le (n := 40) (ls := (r.map showCh).map (·.length)) (by
      intro l hl
      rw [List.map_map] at hl
      obtain ⟨c, hc, rfl⟩ := List.mem_map.mp hl
      exact show_short (h c hc))
    rw [List.length_map, List.length_map] at h2
    rw [List.length_map] at h1
    have e : comma.length = 2 := by decide
    rw [e] at h1
    show (Txt.join comma (r.map showCh)).length ≤ 260
    omega
theorem run_back {r : List Item} (h : ∀ c ∈ r, goodItem c = true) : readRun (showRun r) = some r := by
  unfold showRun
  match r, h with
  | [], _ => rfl
  | c :: r, h =>
    show readRun (if false = true then _ else _) = _
    rw [if_neg Bool.false_ne_true]
    show readRun (Txt.join comma ((c :: r).map showCh)) = _
    have sp : Txt.split (Txt.join comma ((c :: r).map showCh)) comma = (c :: r).map showCh := by
      refine split_join comma_tl (by decide +kernel) (by simp) fun p hp => ?_
      obtain ⟨d, hd, rfl⟩ := List.mem_map.mp hp
      exact show_comma (h d hd)
    have nd : (Txt.join comma ((c :: r).map showCh) == ("-" : Str)) = false := by
      refine beq_eq_false_iff_ne.mpr fun z => ?_
      obtain ⟨a, t, e, na⟩ := show_head (h c (by simp))
      have z2 := congrArg tl z
      rw [join_eq, tl_join] at z2
      have z3 : (joinL (tl comma) (((c :: r).map showCh).map tl)).head? = some a := by
        cases r with
        | nil =>
          show (tl (showCh c)).head? = some a
          rw [e]
          rfl
        | cons d r =>
          show (tl (showCh c) ++ _).head? = some a
          rw [e]
          rfl
      rw [z2] at z3
      have z4 : (tl ("-" : Str)).head? = some 45 := by rfl
      rw [z4] at z3
      exact na (Option.some.inj z3).symm
    unfold readRun
    rw [nd, if_neg (by decide), show (", " : Str) = comma from rfl, sp]
    have rb : ∀ l : List Item, (∀ c ∈ l, goodItem c = true) → ((l.map showCh).map readCh).all Option.isSome = true ∧ (l.map showCh).filterMap readCh = l := by
      intro l
      induction l with
      | nil => exact fun _ => ⟨rfl, rfl⟩
      | cons d l ih =>
        intro hl
        obtain ⟨i1, i2⟩ := ih fun c hc => hl c (List.mem_cons_of_mem _ hc)
        have e := reads_back (hl d (by simp))
        constructor
        · show ((readCh (showCh d)).isSome && _) = true
          rw [e]
          exact i1
        · rw [List.map_cons, List.filterMap_cons_some e, i2]
    obtain ⟨b1, b2⟩ := rb (c :: r) h
    rw [if_pos b1, b2]
end Sc

set_option maxRecDepth 100000
set_option maxHeartbeats 4000000
namespace Sc
open PySem L2 PySem.Spec PyProof.Rows
/-! ### an error that was caught and stays in a name -/
/-- at a stands what was once an exception of the class at C, its own dict at d -/
def exk (a C : Addr) (d : Option Addr) : HO :=
  .ext fun h => ∃ ob vs, h.get? a = some ob ∧ Zc (.ref C) d ob ∧ ob.data = .fields vs
theorem exk_tup {a C : Addr} {d : Option Addr} {xs : List V} : exk a C d ≠ .tup xs := fun z => by
  have z' : HO.ext _ = HO.tup xs := z
  cases z'
theorem exk_ok {P : Program} {w : World} {H : Hp} {h : Heap} {a C : Addr} {d : Option Addr} {ob : Obj} {vs : Array Value}
    (e : h.get? a = some ob) (z : Zc (.ref C) d ob) (f : ob.data = .fields vs) : ObjOk P w H h a (exk a C d) := by
  refine ⟨⟨ob, vs, e, z, f⟩, ⟨ob, e⟩, fun h1 h2 k1 k2 => ?_⟩
  obtain ⟨o1, v1, e1, z1, f1⟩ := k1
  exact ⟨o1, v1, k2 _ e1, z1, f1⟩
theorem exk_at {P : Program} {w : World} {H : Hp} {h : Heap} {a C : Addr} {d : Option Addr} (ok : HOk P w H h) (e : H a = some (exk a C d)) :
    ∃ ob vs, h.get? a = some ob ∧ Zc (.ref C) d ob ∧ ob.data = .fields vs := by
  have t : ObjOk P w H h a (.ext fun h => ∃ ob vs, h.get? a = some ob ∧ Zc (.ref C) d ob ∧ ob.data = .fields vs) := ok a _ e
  exact t.1
section
variable {X : Cx} {pins : List (Addr × Obj)} {σ : L2.St} {H : Hp} {s : Shared}
/-- a new thing that is there comes to be known -/
theorem seen {a C : Addr} {d : Option Addr} {ob : Obj} {vs : Array Value} (I : Inv X pins σ H s) (e : s.heap.get? a = some ob) (z : Zc (.ref C) d ob) (f : ob.data = .fields vs)
    (na : H a = none) (n0 : X.s_0.heap.get? a = none) (np : ∀ p ∈ X.pn ++ pins, p.1 ≠ a) : Inv X pins σ (upd H a (exk a C d)) s := by
  have nL : X.env.locals ≠ a := fun q => by
    obtain ⟨m, ⟨o, es, ep, h1, h2, _⟩, _⟩ := I.loc
    rw [q, e] at h1
    cases h1
    rw [f] at h2
    cases h2
  have nC : ∀ x c, X.env.cells.lookup x = some c → c ≠ a := fun x c hc q => by
    obtain ⟨v, o, h1, h2⟩ := I.cell x c hc
    rw [q, e] at h1
    cases h1
    rw [f] at h2
    cases h2
  have un : ∀ {b : Addr} {o : HO}, H b = some o → b ≠ a := fun {b o} h q => by
    rw [q, na] at h
    cases h
  refine ⟨I.ok, I.os, I.bare, ?_, I.loc, I.cell, ?_, fun x c hc => ?_, fun p hp => ?_, fun b o h => ?_, I.len⟩
  · refine ⟨I.base.keep, I.base.slot, fun b o h1 h2 h3 => ?_, I.base.there, fun b xs h1 => ?_, fun b o u h1 => ?_, fun b ps h1 => ?_⟩
    · have nb : b ≠ a := fun q => by
        rw [q, n0] at h1
        cases h1
      rw [upd_ne nb]
      exact I.base.free b o h1 h2 h3
    · have h2 := I.base.tups b xs h1
      rw [upd_ne (un h2)]
      exact h2
    · have h2 := I.base.frzs b o u h1
      rw [upd_ne (un h2)]
      exact h2
    · obtain ⟨more, h2⟩ := I.base.tbls b ps h1
      refine ⟨more, ?_⟩
      rw [upd_ne (un h2)]
      exact h2
  · rw [upd_ne nL]
    exact I.free
  · rw [upd_ne (nC x c hc)]
    exact I.freeC x c hc
  · obtain ⟨p1, p2, p3⟩ := I.pin p hp
    refine ⟨p1, ?_, p3⟩
    rw [upd_ne (np p hp)]
    exact p2
  · by_cases q : b = a
    · subst q
      rw [upd_same] at h
      cases h
      exact exk_ok e z f
    · rw [upd_ne q] at h
      refine (I.hok b o h).stay (fun _ _ _ k => k) (fun c hc => ?_) fun c xs hc => ?_
      · rw [upd_ne (un hc)]
        exact hc
      · rw [upd_ne (un hc)]
        exact hc
end
/-- what a clause 'except x as n' wishes that may keep the error: behind the suite it is known -/
def wKeep (K : PySem.W.Frag) (c : Value) (i : Nat) (ts : Addr → Value → Option Addr → TS) (Wout : WX) (D : Ends) : WX := fun cls d σ H =>
  ∃ b, PySem.W.exmOne K cls c = some b ∧ (b = false → Wout cls d σ H) ∧
    (b = true → ∃ C, cls = .ref C ∧ ∀ a, H a = none → ts a cls d
      { nx := fun σ1 H1 => D.nx (σ1.set i none) (upd H1 a (exk a C d)), rt := fun v H1 => D.rt v (upd H1 a (exk a C d)),
        bk := fun σ1 H1 => D.bk (σ1.set i none) (upd H1 a (exk a C d)), ct := fun σ1 H1 => D.ct (σ1.set i none) (upd H1 a (exk a C d)) } (σ.set i (some (.ref a))) H)
section
variable {X : Cx} {x n : Str} {c : Value} {i : Nat} {body rest : List Stmt} {st : Stmt} {np pos hpos : Pos} {tb : WX → TS}
  {ts : Addr → Value → Option Addr → TS} {Wout : WX}
/-- the frames hold no thing of fields -/
theorem no_frame {B h : Heap} {l : List Env} {a : Addr} {o : Obj} {vs : Array Value} (ff : h.FunFrames B l) (e : h.get? a = some o)
    (f : o.data = .fields vs) : a ∉ frs l := fun hm => by
  obtain ⟨_, o', e', nf⟩ := ff.mem hm
  rw [e] at e'
  cases e'
  exact nf _ f
theorem ps_try_keep (stk : X.stack = X.env :: X.outer) (frm : X.env.frame = some X.env.locals) (noex : X.ex = []) (nd : X.N.Nodup)
    (at_i : X.N[i]? = some n) (loc : X.env.kindOf n = some .local) (nm : Names X x c) (tk : Takes X Wout)
    (hb : ∀ (W : WX) (q : List (Addr × Obj)) (xe : Value → Shared → Prop), Takes (X.tr q xe) W →
      PassesOwn (model X.prog X.w) X.A X.env xe → PSs (X.tr q xe) body (tb W))
    (hu : ∀ (a : Addr) (ob : Obj) (cls : Value) (d : Option Addr) (q : List (Addr × Obj)), Zc cls d ob →
      (∃ vs, ob.data = .fields vs) → PSs (X.suite a ((a, ob) :: q)) (st :: rest) (ts a cls d)) :
    PS X (.Try body [.ExceptHandler (some (.Name x np)) (some n) (st :: rest) hpos] [] [] pos)
      (fun D σ H => tb (wKeep X.K c i ts Wout D) D σ H) := by
  constructor
  intro pins s σ H D I want
  have ok := I.ok
  have frames : X.A.frames = some (X.env :: X.outer) := ok.frames.trans (congrArg some stk)
  refine wpAny_Try_except ?_
  have takesIt : Takes (X.tr (X.pn ++ pins) (fun e s₁ => wpAny (model X.prog X.w) X.A (noteFrame e X.env)
      (fun _ s₂ => wpAny (model X.prog X.w) X.A (setFlight e none)
        (fun _ s₃ => wpAny (model X.prog X.w) X.A (handleBy e X.env [.ExceptHandler (some (.Name x np)) (some n) (st :: rest) hpos])
          (SP X pins D) X.xe s₃) X.xe s₂) X.xe s₁)) (wKeep X.K c i ts Wout D) := by
    intro u s1 air
    obtain ⟨a, B, sI, pins1, σ1, H1, cls, d, eu, J1, nb, up, sky, na, os, ag, b, hb1, hno, hyes⟩ := air
    subst eu
    have J : Inv X pins σ1 H1 sI := J1.ofTry ok
    rw [show (X.tr (X.pn ++ pins) _).stack = X.stack from rfl, stk] at sky
    show wpAny (model X.prog X.w) X.A (noteFrame (.ref a) X.env) _ _ _
    refine Sky.land Zc.steady frames frm sky fun h3 fl3 up3 => ?_
    have J3 : Inv X pins σ1 H1 { s1 with heap := h3 } := J.landed nb fl3.1 (up.trans up3) os ag
    obtain ⟨o3, v3, e3, z3, f3⟩ := fl3.there
    have nF : a ∉ frs (X.env :: X.outer) := no_frame fl3.2.2.1 e3 f3
    have nL : a ≠ X.env.locals := fun q => nF (List.mem_filterMap.mpr ⟨X.env, List.mem_cons_self, by rw [frm, q]⟩)
    have nO : a ∉ X.fs := fun q => by
      obtain ⟨v, m1, m2⟩ := List.mem_filterMap.mp q
      exact nF (List.mem_filterMap.mpr ⟨v, List.mem_cons_of_mem _ m1, m2⟩)
    -- ahead of the raise there was nothing at a
    have gone : sI.heap.get? a = none := by
      cases q : sI.heap.get? a with
      | none => rfl
      | some o =>
        have h1 := nb a o q (by
          show a ∉ frs X.stack
          rw [stk]
          exact nF)
        rw [fl3.2.1] at h1
        cases h1
    have n0 : X.s_0.heap.get? a = none := by
      cases q : X.s_0.heap.get? a with
      | none => rfl
      | some o =>
        obtain ⟨o', h1⟩ := J.base.there a o q (by rw [noex]; exact List.not_mem_nil)
        rw [gone] at h1
        cases h1
    have nPin : ∀ p ∈ X.pn ++ pins, p.1 ≠ a := fun p hp q => by
      have h1 := (J.pin p hp).1
      rw [q, gone] at h1
      cases h1
    have S3 := J3.suite e3 f3 na nL nO
    refine wpAny_handleBy_cons (codeAny_handlers_test ?_) (fun q => nomatch q)
    have LT : PySem.W.Looks (model X.prog X.w) h3 (typeOf (.ref a)) cls := fun A Q E s k q =>
      wpAny_typeOf_ref (k _ _ e3) (by rw [z3.1]; exact q)
    have LM := PySem.W.exm_one (M := model X.prog X.w) (J3.kIn) LT hb1
    have ask : ∀ {Q : Value → Shared → Prop} {E : Value → Shared → Prop}, Q c { s1 with heap := h3 } →
        wpAny (model X.prog X.w) (X.A.mark (some (.ref a))) (eval (.Name x np) X.env) Q E { s1 with heap := h3 } := by
      intro Q E q
      obtain ⟨g1, g2, g3 | ⟨g3, g4, g5⟩⟩ := nm
      · exact ld_glob (X := X.suite a ((a, o3) :: (X.pn ++ pins))) S3 g1 g3 q g2
      · exact ld_blt (X := X.suite a ((a, o3) :: (X.pn ++ pins))) S3 g1 g3 g4 q g5 g2
    refine ask (LM.here ?_)
    match b, hno, hyes with
    | true, _, hyes =>
      obtain ⟨C, ec, hyes⟩ := hyes rfl
      subst ec
      refine codeAny_handlers_suite_as ?_
      refine HandSPX.lands_againZ fl3 fun h4 fl4 up4 => ?_
      have J4 : Inv X pins σ1 H1 { s1 with heap := h4 } := J.landed nb fl4.1 ((up.trans up3).trans up4) os ag
      obtain ⟨o4, v4, e4, z4, f4⟩ := fl4.there
      have S4 := J4.suite e4 f4 na nL nO
      refine store_ok (X := X.suite a ((a, o4) :: (X.pn ++ pins))) (v := .ref a) S4 nd at_i (Or.inl loc) rfl (fun s5 S5 => ?_) (.inr loc)
      have run := (hu a o4 (.ref C) d (X.pn ++ pins) z4 ⟨_, f4⟩).run [] s5 _ H1 _ S5 (hyes a na)
      refine wpAny_mono run (fun f s6 sp => ?_) (fun _ _ q => q.elim)
      -- behind the suite: the name goes, the error stays
      have behind : ∀ {σ6 : L2.St} {H6 : Hp} {Q : Shared → Prop}, Inv (X.suite a ((a, o4) :: (X.pn ++ pins))) [] σ6 H6 s6 →
          (∀ s7, Inv X pins (σ6.set i none) (upd H6 a (exk a C d)) s7 → Q s7) →
          wpAny (model X.prog X.w) X.A (do bindName X.env n .none; unbindBehindTheSuite X.env n hpos) (fun _ s7 => Q s7) X.xe s6 := by
        intro σ6 H6 Q S6 hq
        have pinned : Inv X ((a, o4) :: pins) σ6 H6 s6 := (S6.unsuite ok : Inv X pins σ6 H6 s6).pins_of fun p hp => by
          rcases List.mem_cons.mp hp with q | q
          · have h1 := S6.pin (a, o4) (List.mem_append.mpr (.inl List.mem_cons_self))
            rw [q]
            exact h1
          · exact S6.pin p (List.mem_append.mpr (.inl (List.mem_cons_of_mem _ (List.mem_append.mpr (.inr q)))))
        refine gone_ok pinned nd at_i loc fun s7 J7 => hq s7 ?_
        obtain ⟨h1, h2, _⟩ := J7.pin (a, o4) (List.mem_append.mpr (.inr List.mem_cons_self))
        refine seen (J7.pins_of fun p hp => J7.pin p (List.mem_append.mpr (.inr (List.mem_cons_of_mem _ hp)))) h1 z4 f4 h2 n0 nPin
      match f, sp with
      | .next, ⟨_, _, S6, q6⟩ => exact behind S6 fun s7 J7 => ⟨_, _, J7, q6⟩
      | .brk, ⟨_, _, S6, q6⟩ => exact behind S6 fun s7 J7 => ⟨_, _, J7, q6⟩
      | .cont, ⟨_, _, S6, q6⟩ => exact behind S6 fun s7 J7 => ⟨_, _, J7, q6⟩
      | .ret _, ⟨_, _, _, S6, r6, q6⟩ => exact behind S6 fun s7 J7 => ⟨_, _, _, J7, r6, q6⟩
    | false, hno, _ =>
      show wpAny _ X.A (handleBy (.ref a) X.env []) _ _ _
      refine wpAny_handleBy_nil ?_
      obtain ⟨k1, k2, k3, oe, vs, T, oT, ts', he, hz, hd, h1, hr⟩ := fl3
      unfold PySem.passOn
      refine wpAny_bind (wpAny_field he hd h1 ?_)
      rw [if_neg (show ¬ ((Value.ref T == Value.none) = true) from by simp)]
      have on : wpAny (model X.prog X.w) X.A (setFlight (.ref a) X.env.frame)
          (fun _ s4 => wpAny (model X.prog X.w) X.A (throw (.ref a) : Sem Flow) (SP X pins D) X.xe s4) X.xe { s1 with heap := h3 } := by
        rw [frm]
        refine HandSPX.setFlight_upZ ⟨k1, k2, k3, oe, vs, T, oT, ts', he, hz, hd, h1, hr⟩ fun h4 hh4 up4 => wpAny_throw (tk _ _ ?_)
        refine ⟨a, B, sI, pins, σ1, H1, cls, d, rfl, J, nb, (up.trans up3).trans up4, .inr (.inr ?_), na, os, ag, hno rfl⟩
        rw [stk]
        exact hh4
      first
        | exact wpAny_bind (wpAny_pure (wpAny_bind on))
        | exact wpAny_bind on
  refine wpAny_mono ((hb (wKeep X.K c i ts Wout D) (X.pn ++ pins) _ takesIt PassesOwn.looking).run [] s σ H D (I.toTry _) want)
    (fun f s1 sp => ?_) (fun _ _ q => q)
  match f, sp with
  | .next, ⟨_, _, J, q⟩ => exact wpAny_execs_nil ⟨_, _, J.ofTry ok, q⟩
  | .brk, ⟨_, _, J, q⟩ => exact ⟨_, _, J.ofTry ok, q⟩
  | .cont, ⟨_, _, J, q⟩ => exact ⟨_, _, J.ofTry ok, q⟩
  | .ret _, ⟨_, _, _, J, r, q⟩ => exact ⟨_, _, _, J.ofTry ok, r, q⟩
end
end Sc

set_option maxRecDepth 100000
set_option maxHeartbeats 4000000
namespace Sc
open PySem L2 PySem.Spec PyProof.Rows
theorem SqL.same {K : PySem.W.Frag} {H H' : Hp} {a : Addr} {xs : List V} (h : SqL K H a xs) (s : Same H H') : SqL K H' a xs := s.seq h
theorem SqT.same {K : PySem.W.Frag} {H H' : Hp} {a : Addr} {xs : List V} (h : SqT K H a xs) (s : Same H H') : SqT K H' a xs := sqT_same h s
/-- an element's reading that comes to y and leaves what there is -/
def Elt (te : TE) (σ : L2.St) (H : Hp) (y : V) : Prop := ∀ Q : VK, (∀ H', Same H H' → Q y H') → te σ H Q
/-- [e for c in x], x a text -/
theorem lc_str {x : Str} {i : Nat} {te : TE} {vs : List Nat} {σ : L2.St} {H : Hp} {D : Addr} {Qd : Hp → Prop} (ys : List V) (hn : H D = none) (hl : ys.length = x.cps.size) (h1 : x.cps.size ≤ sizeLine)
    (hi : ∀ v, wipe ((wipe σ vs).set i (some v)) vs = wipe σ vs)
    (hs : ∀ (n : Nat) (c : Nat) (y : V) (H' : Hp), x.cps[n]? = some c → ys[n]? = some y → Same H H' → Elt te ((wipe σ vs).set i (some (.str ⟨#[c]⟩))) H' y) (hd : ∀ H', Same H H' → H' D = some (.lst ys) → Qd H') :
    ∃ W : Nat → Nat → Hp → Prop, (∃ m, W 0 m (upd H D (.lst []))) ∧ ∀ n m H1, W n m H1 →
      ((Its x).stop n H1 ∧ Qd H1) ∨ ((Its x).go n H1 ∧ ∃ Nx : Hp → Prop, (∀ H', Nx H' → ∃ m', m' < m ∧ W (n + 1) m' H') ∧ ∀ v H', (Its x).yld n H1 v H' → gName i v (wipe σ vs) H' fun σ2 H2 => wipe σ2 vs = wipe σ vs ∧ tYes σ2 H2 fun b H3 =>
        if b = true then te σ2 H3 fun y H4 => ∃ acc, H4 D = some (.lst acc) ∧ acc.length < sizeLine ∧ Nx (upd H4 D (.lst (acc ++ [y]))) else Nx H3) := by
  refine ⟨fun n m H1 => m = x.cps.size - n ∧ n ≤ x.cps.size ∧ Same H H1 ∧ H1 D = some (.lst (ys.take n)), ⟨_, rfl, Nat.zero_le _, same_new hn, by rw [upd_same, List.take_zero]⟩, ?_⟩
  rintro n m H1 ⟨rfl, hle, s1, hD⟩
  by_cases h : n < x.cps.size
  · refine .inr ⟨h, fun H' => Same H H' ∧ H' D = some (.lst (ys.take (n + 1))), fun H' ⟨a, b⟩ => ⟨x.cps.size - (n + 1), by omega, rfl, h, a, b⟩, ?_⟩
    rintro v H' ⟨rfl, c, hc, rfl⟩
    have hy : n < ys.length := by omega
    refine ⟨hi _, ?_⟩
    show te _ _ _
    refine hs n c ys[n] H' hc (List.getElem?_eq_getElem hy) s1 _ fun H4 s4 => ⟨ys.take n, s4 _ _ hD, ?_, same_fill hn (s1.trans s4), ?_⟩
    · rw [List.length_take]
      omega
    · rw [upd_same, List.take_succ_eq_append_getElem hy]
  · obtain rfl : n = x.cps.size := by omega
    refine .inl ⟨Nat.le_refl _, hd H1 s1 ?_⟩
    rw [hD, ← hl, List.take_length]
/-- the names that the program and the law use stand for the built-ins -/
structure NatR (mg : Str → Option Value) : Prop where
  len : mg "len" = none
  all : mg "all" = none
  int : mg "int" = none
  str : mg "str" = none
  tuple : mg "tuple" = none
  isi : mg "isinstance" = none
  repr : mg "repr" = none
  range : mg "range" = none
  max : mg "max" = none
  min : mg "min" = none
  abs : mg "abs" = none
/-- the module's texts and its row of texts -/
structure Kept (K : PySem.W.Frag) (mg : Str → Option Value) (sA : Addr) : Prop where
  letters : ∃ t, mg "LETTERS" = some (.str letters t)
  digits : ∃ t, mg "DIGITS" = some (.str digits t)
  sw : mg "STEP_WORDS" = some (.ref sA)
  swT : ∀ H, SqT K H sA (stepWords.map V.str)
abbrev sSpelled : Stmt := top 3
abbrev sNumber : Stmt := top 4
theorem scSpelled : FnScope ["word", "sign"] ["word"] (defScope sSpelled) := ⟨rfl, rfl, rfl, by decide +kernel, rfl, by decide +kernel, by decide +kernel⟩
theorem scNumber : FnScope ["word", "sign"] ["word"] (defScope sNumber) := ⟨rfl, rfl, rfl, by decide +kernel, rfl, by decide +kernel, by decide +kernel⟩
/-- a text's look: it answers b and leaves what there is -/
def spLook (b : Str → Bool) : Sp := fun vs H Q _ => ∃ x : Str, vs = [.str x] ∧ x.length ≤ 20000 ∧ ∀ H', Same H H' → Q (.bl (b x)) H'
theorem inV_str (w : Str) (xs : List Str) : inV (.str w) (xs.map V.str) = xs.contains w := by
  induction xs with
  | nil => rfl
  | cons x r ih =>
    show (x == w || inV (.str w) (r.map V.str)) = _
    rw [ih, List.contains_cons]
    congr 1
    by_cases h : x = w
    · subst h
      rw [beq_self_eq_true]
    · rw [beq_eq_false_iff_ne.mpr h, beq_eq_false_iff_ne.mpr (Ne.symm h)]
theorem all_map (x : Str) (p : Nat → Bool) : ((x.cps.toList.map p).all id) = x.cps.toList.all p := by
  rw [List.all_map]
  rfl
/-- [.. for sign in word], each answer that of a test of the sign -/
theorem signs_go {te : TE} {vs : List Nat} {i j : Nat} {σ : L2.St} {H : Hp} {Q : VK} {x : Str} (p : Nat → Bool) (hj : σ[j]? = some (some (.str x))) (h1 : x.length ≤ sizeLine) (hi : ∀ v, wipe ((wipe σ vs).set i (some v)) vs = wipe σ vs)
    (hs : ∀ (c : Nat) (H' : Hp), Elt te ((wipe σ vs).set i (some (.str ⟨#[c]⟩))) H' (.bl (p c))) (hd : ∀ D H', Same H H' → H' D = some (.lst ((x.cps.toList.map p).map V.bl)) → Q (.ref D) H') :
    tLc (iStr (tVar j)) (gName i) tYes te vs σ H Q := by
  refine ⟨_, hj, x, rfl, fun D hn => lc_str ((x.cps.toList.map p).map V.bl) hn (by simp) h1 hi (fun n c y H' hc hy s => ?_) (hd D)⟩
  have e : y = .bl (p c) := by
    have hc2 : x.cps.toList[n]? = some c := by
      rw [Array.getElem?_toList]
      exact hc
    rw [List.getElem?_map, List.getElem?_map, hc2] at hy
    exact (Option.some.inj hy).symm
  rw [e]
  exact hs c H'
/-- all(..) of a list of answers that was just made -/
theorem all_go {K : PySem.W.Frag} {t : TE} {σ : L2.St} {H : Hp} {Q : VK} (bs : List Bool) (h : ∀ R : VK, (∀ D H', Same H H' → H' D = some (.lst (bs.map V.bl)) → R (.ref D) H') → t σ H R) (q : ∀ H', Same H H' → Q (.bl (bs.all id)) H') :
    tCB (rAll K) (tCons t tNil) σ H Q :=
  h _ fun D H' s e => ⟨D, bs, rfl, .inl (.inl e), q H' s⟩
theorem tst_go {c : Bool} {F G : Prop} (h : if c = true then F else G) : ∃ k, V.bl c = V.bl k ∧ if k = true then F else G := ⟨c, rfl, h⟩
section
variable {P : Program} {w : World} {K : PySem.W.Frag} {mg : Str → Option Value} {base : Heap} {sA : Addr}
theorem sz {x : Str} (h : x.length ≤ 20000) : x.length ≤ sizeLine := Nat.le_trans h (by rw [sizeLine_eq]; decide)
theorem ok_spelled {f : Addr} {fd : FuncData} (F : Fun K "is_spelled" "is_spelled" sSpelled f fd) (T : NatR mg) (U : Kept K mg sA) : FnOk P w K mg base CX0 1 f fd ["word"] (spLook spelled) := by
  obtain ⟨tl, hL⟩ := U.letters
  refine F.ok scSpelled (fun vs H Q E h => ?_) (fun cdv A outer s H vs Q E hr h => ?_)
  · obtain ⟨x, rfl, _⟩ := h
    rfl
  · obtain ⟨x, rfl, hx, q⟩ := h
    refine ⟨_, pss_one (ps_ret (pe_and (pe_chain op_le op_le pe_int (pe_callB call_len_str (by rfl) T.len PySem.boot_len (pa_cons (pv 0) pa_nil)) pe_int)
      (pe_one (pe_callB (cr_all rfl) (by rfl) T.all (by decide +kernel) (pa_cons
        (pe_lc (own := [("sign", 1)]) (g := gName 1) (tt := tYes) rfl scSpelled.nd (pi_str (pv 0)) (blkOk_by (own := [("sign", 1)]) (N := ["word", "sign"]) (sc := defScope sSpelled) (by decide +kernel))
          (fun _ _ _ _ _ => pg_name (i := 1) scSpelled.nd rfl (Or.inl rfl)) (fun _ _ _ _ _ => pts_nil) (fun _ _ _ _ _ => pe_cmpR op_in_sign (pv 1) (pe_glob (v := .str letters) (by rfl) hL ⟨_, rfl⟩) (by rfl))) pa_nil))))), ?_⟩
    have h1 : x.cps.size ≤ sizeLine := sz hx
    have fin : ∀ H', Same H H' → ∀ b, b = spelled x → Q (.bl b) H' := fun H' s b e => e ▸ q H' s
    refine ⟨_, rfl, x, rfl, sz hx, _, _, rfl, rfl, _, rfl, ?_⟩
    refine ite2 (fun a1 => ?_) (fun a1 => ?_)
    · refine ⟨_, _, rfl, rfl, _, rfl, ite2 (fun a2 => ?_) (fun a2 => ?_)⟩
      · refine all_go (x.cps.toList.map fun c => decide (c ∈ letters.cps.toList)) (fun R k => signs_go (fun c => decide (c ∈ letters.cps.toList)) rfl h1 (fun v => rfl) (fun c H' R2 k2 => ⟨_, rfl, c, letters, rfl, rfl, k2 H' (Same.refl _)⟩) k) fun H' s => ?_
        refine fin H' s _ ?_
        rw [all_map]
        unfold spelled
        rw [show decide (1 ≤ x.length) = true from decide_eq_true (by have := of_decide_eq_true a1; omega), show decide (x.length ≤ 8) = true from decide_eq_true (by have := of_decide_eq_true a2; omega)]
        rfl
      · refine fin H (Same.refl H) _ ?_
        unfold spelled
        rw [show decide (x.length ≤ 8) = false from decide_eq_false (fun h => a2 (decide_eq_true (by omega)))]
        simp
    · refine ⟨false, rfl, ?_⟩
      refine fin H (Same.refl H) _ ?_
      unfold spelled
      rw [show decide (1 ≤ x.length) = false from decide_eq_false (fun h => a1 (decide_eq_true (by omega)))]
      simp
theorem sign_zero (c : Nat) : decide (V.str ⟨#[c]⟩ = V.str ("0" : Str)) = (c == 48) := by
  have e : ("0" : Str) = ⟨#[48]⟩ := by decide
  rw [e, dec_str]
  by_cases h : c = 48
  · subst h
    rfl
  · rw [beq_eq_false_iff_ne.mpr h]
    refine beq_eq_false_iff_ne.mpr fun z => h ?_
    have z1 := congrArg (fun s : Str => s.cps.toList) z
    simpa using z1
theorem ok_number {f : Addr} {fd : FuncData} (F : Fun K "is_number" "is_number" sNumber f fd) (T : NatR mg) (U : Kept K mg sA) : FnOk P w K mg base CX0 1 f fd ["word"] (spLook number) := by
  obtain ⟨tl, hL⟩ := U.digits
  refine F.ok scNumber (fun vs H Q E h => ?_) (fun cdv A outer s H vs Q E hr h => ?_)
  · obtain ⟨x, rfl, _⟩ := h
    rfl
  · obtain ⟨x, rfl, hx, q⟩ := h
    have h1 : x.cps.size ≤ sizeLine := sz hx
    have fin : ∀ H', Same H H' → ∀ b, b = number x → Q (.bl b) H' := fun H' s b e => e ▸ q H' s
    refine ⟨_, pss_cons (ps_if (PW.pt (pw_or (pt_cmpR op_eq (pv 0) pe_str (nomark _)) (pw_or1 (pt_not (pt_val (pe_callB (cr_all rfl) (by rfl) T.all (by decide +kernel) (pa_cons
        (pe_lc (own := [("sign", 1)]) (g := gName 1) (tt := tYes) rfl scNumber.nd (pi_str (pv 0)) (blkOk_by (own := [("sign", 1)]) (N := ["word", "sign"]) (sc := defScope sNumber) (by decide +kernel))
          (fun _ _ _ _ _ => pg_name (i := 1) scNumber.nd rfl (Or.inl rfl)) (fun _ _ _ _ _ => pts_nil) (fun _ _ _ _ _ => pe_cmpR op_in_sign (pv 1) (pe_glob (v := .str digits) (by rfl) hL ⟨_, rfl⟩) (by rfl))) pa_nil)))))))
        (pss_one (ps_ret pe_bl)) pss_nil)
      (pss_one (ps_ret (pe_or (pe_cmpR op_eq (pv 0) pe_str (nomark _)) (pe_one (pe_cmpR op_ne (pe_ix ix_str (pv 0) pe_int (fun _ _ => rfl)) pe_str (nomark _)))))), ?_⟩
    refine ⟨_, rfl, rfl, _, rfl, ite2 (fun a => ite2 (fun _ => ?_) fun n => absurd rfl n) fun a => ?_⟩
    · refine fin H (Same.refl H) _ ?_
      rw [dec_str] at a
      unfold number
      rw [a]
      rfl
    · have a2 : (x == ("" : Str)) = false := by
        rw [dec_str] at a
        simpa using a
      refine all_go (x.cps.toList.map fun c => decide (c ∈ digits.cps.toList)) (fun R k => signs_go (fun c => decide (c ∈ digits.cps.toList)) rfl h1 (fun v => rfl) (fun c H' R2 k2 => ⟨_, rfl, c, digits, rfl, rfl, k2 H' (Same.refl _)⟩) k) fun H' s => ?_
      rw [all_map]
      refine ⟨_, rfl, ite2 (fun b => ?_) fun b => ?_⟩
      · refine fin H' s _ ?_
        have b2 : allIn x digits = false := by
          unfold allIn
          simpa using b
        unfold number
        rw [a2, b2]
        rfl
      · have b2 : allIn x digits = true := by
          unfold allIn
          simpa using b
        have nonempty : x.cps.toList ≠ [] := fun z => by
          have e : x = ("" : Str) := by
            have e2 : x.cps = #[] := by
              rw [← Array.toArray_toList (xs := x.cps), z]
            cases x with
            | mk c =>
              have e2 : c = #[] := e2
              subst e2
              rfl
          rw [e] at a2
          exact absurd a2 (by decide)
        obtain ⟨c, r, hc⟩ := List.exists_cons_of_ne_nil nonempty
        refine ⟨_, rfl, rfl, _, rfl, ite2 (fun d => ?_) fun d => ?_⟩
        · refine fin H' s _ ?_
          rw [dec_str] at d
          unfold number
          rw [a2, b2, d]
          rfl
        · refine ⟨_, rfl, x, 0, c, rfl, rfl, h1, ?_, rfl, ?_⟩
          · rw [hc]
            exact atI_nat (j := 0) rfl
          · refine fin H' s _ ?_
            rw [dec_str] at d
            have d2 : (x == ("0" : Str)) = false := by simpa using d
            rw [sign_zero]
            unfold number
            rw [a2, b2, d2, hc]
            show (!(c == 48)) = (!(some c == some 48))
            rfl
end

/-- a text of fair length, of Python's signs -/
def TxtOk (x : Str) : Prop := x.length ≤ 20000 ∧ PyData.strOk x = true
/-- a list of texts stands at a -/
def Words (K : PySem.W.Frag) (H : Hp) (a : Addr) (ws : List Str) : Prop := SqL K H a (ws.map V.str) ∧ ws.length ≤ 20002 ∧ ∀ x ∈ ws, TxtOk x
theorem map_get {xs : List Str} {n : Nat} {x : V} (h : (xs.map V.str)[n]? = some x) : ∃ u, xs[n]? = some u ∧ x = .str u := by
  rw [List.getElem?_map] at h
  cases e : xs[n]? with
  | none =>
    rw [e] at h
    cases h
  | some u =>
    rw [e] at h
    exact ⟨u, rfl, (Option.some.inj h).symm⟩
/-- [e for x in xs], the items of a list or tuple that stands still -/
theorem items_go {J : It} {te : TE} {vs : List Nat} {i : Nat} {σ : L2.St} {H : Hp} {Q : VK} {xs : List V} (rs : List V) (hr : rs.length = xs.length) (hz : xs.length ≤ sizeLine) (hi : ∀ u, wipe ((wipe σ vs).set i (some u)) vs = wipe σ vs)
    (go : ∀ n H', Same H H' → n < xs.length → J.go n H') (yld : ∀ n H' v H2, Same H H' → J.yld n H' v H2 → H2 = H' ∧ xs[n]? = some v) (stop : ∀ H', Same H H' → J.stop xs.length H')
    (hs : ∀ (n : Nat) (x r : V) (H' : Hp), xs[n]? = some x → rs[n]? = some r → Same H H' → Elt te ((wipe σ vs).set i (some x)) H' r)
    (hd : ∀ D H', Same H H' → H' D = some (.lst rs) → Q (.ref D) H') (D : Addr) (hn : H D = none) :
    ∃ W : Nat → Nat → Hp → Prop, (∃ m, W 0 m (upd H D (.lst []))) ∧ ∀ n m H1, W n m H1 →
      (J.stop n H1 ∧ Q (.ref D) H1) ∨ (J.go n H1 ∧ ∃ Nx : Hp → Prop, (∀ H', Nx H' → ∃ m', m' < m ∧ W (n + 1) m' H') ∧ ∀ v H', J.yld n H1 v H' → gName i v (wipe σ vs) H' fun σ2 H2 => wipe σ2 vs = wipe σ vs ∧ tYes σ2 H2 fun b H3 =>
        if b = true then te σ2 H3 fun y H4 => ∃ acc, H4 D = some (.lst acc) ∧ acc.length < sizeLine ∧ Nx (upd H4 D (.lst (acc ++ [y]))) else Nx H3) := by
  refine ⟨fun n m H1 => m = xs.length - n ∧ n ≤ xs.length ∧ Same H H1 ∧ H1 D = some (.lst (rs.take n)), ⟨_, rfl, Nat.zero_le _, same_new hn, by rw [upd_same, List.take_zero]⟩, ?_⟩
  rintro n m H1 ⟨rfl, hle, s1, hD⟩
  by_cases h : n < xs.length
  · have h3 : n < rs.length := by omega
    refine .inr ⟨go n H1 s1 h, fun H' => Same H H' ∧ H' D = some (.lst (rs.take (n + 1))), fun H' ⟨c, d⟩ => ⟨xs.length - (n + 1), by omega, rfl, h, c, d⟩, fun v H' y => ?_⟩
    obtain ⟨rfl, hx⟩ := yld n H1 v H' s1 y
    refine ⟨hi _, ?_⟩
    show te _ _ _
    refine hs n v rs[n] H' hx (List.getElem?_eq_getElem h3) s1 _ fun H4 s4 => ⟨rs.take n, s4 _ _ hD, ?_, same_fill hn (s1.trans s4), ?_⟩
    · rw [List.length_take]
      omega
    · rw [upd_same, List.take_succ_eq_append_getElem h3]
  · obtain rfl : n = xs.length := by omega
    refine .inl ⟨stop H1 s1, hd D H1 s1 ?_⟩
    rw [hD, ← hr, List.take_length]
theorem look_get {ws : List Str} {p : Str → Bool} {n : Nat} {x r : V} (hx : (ws.map V.str)[n]? = some x) (hr : ((ws.map p).map V.bl)[n]? = some r) : ∃ u, u ∈ ws ∧ x = .str u ∧ r = .bl (p u) := by
  obtain ⟨u, hu, rfl⟩ := map_get hx
  refine ⟨u, List.mem_of_getElem? hu, rfl, ?_⟩
  rw [List.getElem?_map, List.getElem?_map, hu] at hr
  exact (Option.some.inj hr).symm
/-- [look(word) for word in words], a list of texts -/
theorem words_go {K : PySem.W.Frag} {te tl : TE} {vs : List Nat} {i : Nat} {σ : L2.St} {H : Hp} {Q : VK} {a : Addr} {ws : List Str} (p : Str → Bool) (hl : ∀ R : VK, (∀ b H', Same H H' → SqL K H' b (ws.map V.str) → R (.ref b) H') → tl σ H R) (hz : ws.length ≤ sizeLine)
    (hi : ∀ u, wipe ((wipe σ vs).set i (some u)) vs = wipe σ vs) (hs : ∀ u H', u ∈ ws → Elt te ((wipe σ vs).set i (some (.str u))) H' (.bl (p u)))
    (hd : ∀ D H', Same H H' → H' D = some (.lst ((ws.map p).map V.bl)) → Q (.ref D) H') : tLc (iList K tl) (gName i) tYes te vs σ H Q := by
  refine hl _ fun b H1 s1 hb => ⟨b, rfl, ⟨_, hb⟩, fun D hn => items_go (J := Itl K b) (xs := ws.map V.str) ((ws.map p).map V.bl) (by simp) (by rw [List.length_map]; exact hz) hi
    (fun n H' s h => ⟨_, _, SqL.same hb s, List.getElem?_eq_getElem h⟩) (fun n H' v H2 s y => ⟨y.1, y.2 _ (SqL.same hb s)⟩) (fun H' s => ⟨_, SqL.same hb s, Nat.le_refl _⟩) (fun n x r H' hx hr s => ?_) (fun D H' s => hd D H' (s1.trans s)) D hn⟩
  obtain ⟨u, hu, rfl, rfl⟩ := look_get hx hr
  exact hs u H' hu
theorem Words.same {K : PySem.W.Frag} {H H' : Hp} {a : Addr} {ws : List Str} (h : Words K H a ws) (s : Same H H') : Words K H' a ws := ⟨SqL.same h.1 s, h.2⟩
/-- a row's piece -/
def cutW (ws : List Str) (lo hi : Option Int) : List Str := (ws.drop (HT.sIx ws.length 0 lo)).take (HT.sIx ws.length ws.length hi - HT.sIx ws.length 0 lo)
theorem cutV_map (ws : List Str) (lo hi : Option Int) : cutV (ws.map V.str) lo hi = (cutW ws lo hi).map V.str := by
  unfold cutV cutW
  rw [List.length_map, List.map_take, List.map_drop]
theorem cutW_sub (ws : List Str) (lo hi : Option Int) : (cutW ws lo hi).length ≤ ws.length ∧ ∀ x ∈ cutW ws lo hi, x ∈ ws := by
  constructor
  · unfold cutW
    rw [List.length_take, List.length_drop]
    omega
  · intro x h
    exact List.mem_of_mem_drop (List.mem_of_mem_take h)
theorem Words.cut {K : PySem.W.Frag} {H : Hp} {a p : Addr} {ws : List Str} (h : Words K H a ws) (hp : H p = none) (lo hi : Option Int) : Words K (upd H p (.lst (cutV (ws.map V.str) lo hi))) p (cutW ws lo hi) := by
  refine ⟨.inl (.inl ?_), Nat.le_trans (cutW_sub ws lo hi).1 h.2.1, fun x hx => h.2.2 x ((cutW_sub ws lo hi).2 x hx)⟩
  rw [upd_same, cutV_map]
/-- the data of a row of texts -/
theorem dpAll_strs {K : PySem.W.Frag} {H : Hp} : ∀ ws : List Str, DpAll K H (ws.map V.str) (ws.map PyData.str)
  | [] => .nil
  | x :: r => .cons (.str x) (dpAll_strs r)
theorem dp_words {K : PySem.W.Frag} {H : Hp} {a : Addr} {ws : List Str} (h : SqL K H a (ws.map V.str)) : Dp K H (.ref a) (.list (ws.map PyData.str)) := .lst h (dpAll_strs ws)
theorem eqvAll_strs : ∀ xs ys : List Str, PyData.eqvAll (xs.map PyData.str) (ys.map PyData.str) = (xs == ys)
  | [], [] => rfl
  | [], _ :: _ => rfl
  | _ :: _, [] => rfl
  | x :: xs, y :: ys => by
    show ((x == y) && PyData.eqvAll (xs.map PyData.str) (ys.map PyData.str)) = _
    rw [eqvAll_strs xs ys]
    rfl
theorem eqv_strs (xs ys : List Str) : PyData.eqv (.list (xs.map PyData.str)) (.list (ys.map PyData.str)) = (xs == ys) := eqvAll_strs xs ys
theorem canLay_strs : ∀ ws : List Str, (∀ x ∈ ws, PyData.strOk x = true) → PyData.canLayAll0 (ws.map PyData.str) = true
  | [], _ => rfl
  | x :: r, h => by
    show (PyData.strOk x && PyData.canLayAll0 (r.map PyData.str)) = true
    rw [h x List.mem_cons_self, canLay_strs r fun y hy => h y (List.mem_cons_of_mem _ hy)]
    rfl
theorem depth_strs : ∀ ws : List Str, PyData.depthAll (ws.map PyData.str) = 0
  | [] => rfl
  | x :: r => by
    show max 0 (PyData.depthAll (r.map PyData.str)) = 0
    rw [depth_strs r]
    rfl
theorem shaped_strs (ws : List Str) (h : ∀ x ∈ ws, PyData.strOk x = true) : SeqAt.shaped (.list (ws.map PyData.str)) = true := by
  show (PyData.canLayAll0 (ws.map PyData.str) && decide (PyData.depthAll (ws.map PyData.str) + 1 ≤ 64)) = true
  rw [canLay_strs ws h, depth_strs]
  rfl
theorem last_get {ws : List Str} (h : ws ≠ []) : ∃ x, ws.getLast? = some x ∧ x ∈ ws ∧ atI (ws.map V.str) (-1) = some (.str x) := by
  refine ⟨ws.getLast h, List.getLast?_eq_some_getLast h, List.getLast_mem h, ?_⟩
  have e : ws.dropLast.map V.str ++ [V.str (ws.getLast h)] = ws.map V.str := by
    have e2 := congrArg (List.map V.str) (List.dropLast_concat_getLast h)
    rw [List.map_append] at e2
    exact e2
  rw [← e]
  exact atI_last _ _
/-! parts of a text -/
theorem strOk_iff {x : Str} : PyData.strOk x = true ↔ ∀ c ∈ x.cps.toList, c < 0x110000 := by
  unfold PyData.strOk
  rw [← Array.all_toList, List.all_eq_true]
  constructor
  · intro h c hc
    exact of_decide_eq_true (h c hc)
  · intro h c hc
    exact decide_eq_true (h c hc)
theorem TxtOk.sub {x : Str} (h : TxtOk x) (i j : Nat) : TxtOk (Builtin.Str.strSub x i j) := by
  obtain ⟨h1, h2⟩ := h
  rw [strOk_iff] at h2
  have h1 : x.cps.size ≤ 20000 := h1
  refine ⟨?_, strOk_iff.mpr fun c hc => h2 c ?_⟩
  · show (x.cps.extract i j).size ≤ 20000
    rw [Array.size_extract]
    omega
  · have hc : c ∈ (x.cps.extract i j).toList := hc
    rw [Array.toList_extract] at hc
    exact List.mem_of_mem_drop (List.mem_of_mem_take (by simpa [List.extract] using hc))
theorem TxtOk.cut {x : Str} (h : TxtOk x) (lo hi : Option Int) : TxtOk (cutS x lo hi) := by
  obtain ⟨h1, h2⟩ := h
  rw [strOk_iff] at h2
  have h1 : x.cps.toList.length ≤ 20000 := by
    rw [Array.length_toList]
    exact h1
  refine ⟨?_, strOk_iff.mpr fun c hc => h2 c ?_⟩
  · show (List.toArray _).size ≤ 20000
    rw [List.size_toArray, List.length_take, List.length_drop]
    omega
  · unfold cutS at hc
    exact List.mem_of_mem_drop (List.mem_of_mem_take hc)
theorem split_ok {x : Str} (h : TxtOk x) (sep : Str) : (Txt.split x sep).length ≤ 20002 ∧ ∀ y ∈ Txt.split x sep, TxtOk y := by
  constructor
  · have := PyProof.Rows.split_le x sep
    have := h.1
    omega
  · intro y hy
    unfold Txt.split at hy
    split at hy
    · rw [List.mem_singleton.mp hy]
      exact h
    · split at hy
      · rw [List.mem_singleton.mp hy]
        exact h
      · unfold Builtin.Str.partsBetween at hy
        obtain ⟨p, _, rfl⟩ := List.mem_map.mp hy
        exact h.sub _ _
section
variable {D : Ends} {σ : L2.St} {H : Hp} {Q : VK} {R : Bool → Hp → Prop} {t u v : TS} {a b : TT} {e e2 : TE} {l : TA} {r : R2} {c : List V → Hp → VK → Prop}
theorem seq_go (h : t { D with nx := u D } σ H) : tSeq t u D σ H := h
theorem ifs_go (h : a σ H fun k H1 => if k = true then t D σ H1 else u D σ H1) : tIfS a t u D σ H := h
theorem or_go (h : a σ H fun k H1 => if k = true then R true H1 else b σ H1 R) : tOr a b σ H R := h
theorem and_go (h : a σ H fun k H1 => if k = true then b σ H1 R else R false H1) : tAnd a b σ H R := h
theorem test_go (h : e σ H fun x H1 => ∃ k, x = .bl k ∧ R k H1) : tTest e σ H R := h
theorem val_go (h : e σ H fun x H1 => ∃ k, x = .bl k ∧ R k H1) : tB e σ H R := h
theorem not_go (h : a σ H fun k H1 => R (!k) H1) : tNot a σ H R := h
theorem op_go (h : e σ H fun x H1 => e2 σ H1 fun y H2 => r x y H2 Q) : tOp r e e2 σ H Q := h
theorem cb_go (h : l σ H fun xs H1 => c xs H1 Q) : tCB c l σ H Q := h
theorem drop_go (h : e σ H fun _ H1 => D.nx σ H1) : tDrop e D σ H := h
theorem bm_go {K : PySem.W.Frag} {T : String} {m : V → List V → Hp → VK → Prop} (h : e σ H fun x H1 => tyV K T x H1 ∧ l σ H1 fun xs H2 => m x xs H2 Q) : tBM K T m e l σ H Q := h
theorem next_go (h : D.nx σ H) : tNext D σ H := h
theorem ret_go (h : e σ H D.rt) : tRet e D σ H := h
end

end Sc

set_option maxRecDepth 100000
set_option maxHeartbeats 4000000
namespace Sc
open PySem L2 PySem.Spec PyProof.Rows
/-! ### tuples of tuples, texts, numbers and None -/
mutual
def TD (H : Hp) : V → PyData → Prop
  | v, .none => v = .non
  | v, .bool b => v = .bl b
  | v, .int i => v = .int i
  | v, .str x => v = .str x
  | v, .tuple ds => ∃ a xs, v = .ref a ∧ H a = some (.tup xs) ∧ TDs H xs ds
  | _, .list _ => False
  | _, .dict _ => False
def TDs (H : Hp) : List V → List PyData → Prop
  | [], [] => True
  | v :: vs, d :: ds => TD H v d ∧ TDs H vs ds
  | [], _ :: _ => False
  | _ :: _, [] => False
end
/-- tuples stay -/
def TupK (H H' : Hp) : Prop := ∀ a xs, H a = some (.tup xs) → H' a = some (.tup xs)
theorem Same.tk {H H' : Hp} (s : Same H H') : TupK H H' := fun a xs h => s a _ h
theorem SameBut.tk {H H' : Hp} {p : Addr} (t : Three H p) (s : SameBut p H H') : TupK H H' := fun a xs h => by
  obtain ⟨x, y, z, e⟩ := t
  exact s a _ h (ne_of h e (by intro z; cases z))
theorem TupK.trans {H H1 H2 : Hp} (a : TupK H H1) (b : TupK H1 H2) : TupK H H2 := fun x y h => b x y (a x y h)
mutual
theorem TD.keep {H H' : Hp} (s : TupK H H') : ∀ {v : V} {d : PyData}, TD H v d → TD H' v d
  | v, .none, h => by unfold TD at h ⊢; exact h
  | v, .bool _, h => by unfold TD at h ⊢; exact h
  | v, .int _, h => by unfold TD at h ⊢; exact h
  | v, .str _, h => by unfold TD at h ⊢; exact h
  | v, .tuple ds, h => by
    unfold TD at h ⊢
    obtain ⟨a, xs, e, h1, h2⟩ := h
    exact ⟨a, xs, e, s _ _ h1, TDs.keep s h2⟩
  | v, .list _, h => by unfold TD at h; exact h.elim
  | v, .dict _, h => by unfold TD at h; exact h.elim
theorem TDs.keep {H H' : Hp} (s : TupK H H') : ∀ {vs : List V} {ds : List PyData}, TDs H vs ds → TDs H' vs ds
  | [], [], _ => by unfold TDs; exact True.intro
  | v :: vs, d :: ds, h => by
    unfold TDs at h ⊢
    exact ⟨TD.keep s h.1, TDs.keep s h.2⟩
  | [], _ :: _, h => by unfold TDs at h; exact h.elim
  | _ :: _, [], h => by unfold TDs at h; exact h.elim
end
mutual
theorem TD.dp {K : PySem.W.Frag} {H : Hp} : ∀ {v : V} {d : PyData}, TD H v d → Dp K H v d
  | v, .none, h => by unfold TD at h; subst h; exact .non
  | v, .bool x, h => by unfold TD at h; subst h; exact .bl x
  | v, .int x, h => by unfold TD at h; subst h; exact .int x
  | v, .str x, h => by unfold TD at h; subst h; exact .str x
  | v, .tuple ds, h => by
    unfold TD at h
    obtain ⟨a, xs, rfl, h1, h2⟩ := h
    exact .tup (.inl (.inl h1)) (TDs.dp h2)
  | v, .list _, h => by unfold TD at h; exact h.elim
  | v, .dict _, h => by unfold TD at h; exact h.elim
theorem TDs.dp {K : PySem.W.Frag} {H : Hp} : ∀ {vs : List V} {ds : List PyData}, TDs H vs ds → DpAll K H vs ds
  | [], [], _ => .nil
  | v :: vs, d :: ds, h => by
    unfold TDs at h
    exact .cons (TD.dp h.1) (TDs.dp h.2)
  | [], _ :: _, h => by unfold TDs at h; exact h.elim
  | _ :: _, [], h => by unfold TDs at h; exact h.elim
end
theorem TDs.len {H : Hp} : ∀ {vs : List V} {ds : List PyData}, TDs H vs ds → vs.length = ds.length
  | [], [], _ => rfl
  | v :: vs, d :: ds, h => by
    unfold TDs at h
    rw [List.length_cons, List.length_cons, TDs.len h.2]
  | [], _ :: _, h => by unfold TDs at h; exact h.elim
  | _ :: _, [], h => by unfold TDs at h; exact h.elim
theorem TDs.app {H : Hp} : ∀ {vs us : List V} {ds es : List PyData}, TDs H vs ds → TDs H us es → TDs H (vs ++ us) (ds ++ es)
  | [], us, [], es, _, b => b
  | v :: vs, us, d :: ds, es, h, b => by
    unfold TDs at h
    show TDs H (v :: (vs ++ us)) (d :: (ds ++ es))
    unfold TDs
    exact ⟨h.1, TDs.app h.2 b⟩
  | [], _, _ :: _, _, h, _ => by unfold TDs at h; exact h.elim
  | _ :: _, _, [], _, h, _ => by unfold TDs at h; exact h.elim
theorem TDs.get {H : Hp} : ∀ {vs : List V} {ds : List PyData} {i : Nat} {v : V}, TDs H vs ds → vs[i]? = some v → ∃ d, ds[i]? = some d ∧ TD H v d
  | [], [], i, v, _, h => by simp at h
  | u :: vs, d :: ds, 0, v, h, e => by
    unfold TDs at h
    have e2 : u = v := by simpa using e
    subst e2
    exact ⟨d, rfl, h.1⟩
  | u :: vs, d :: ds, i + 1, v, h, e => by
    unfold TDs at h
    obtain ⟨d2, h1, h2⟩ := TDs.get (i := i) h.2 (by simpa using e)
    exact ⟨d2, by simpa using h1, h2⟩
  | [], _ :: _, _, _, h, _ => by unfold TDs at h; exact h.elim
  | _ :: _, [], _, _, h, _ => by unfold TDs at h; exact h.elim
theorem td_str {H : Hp} {v : V} {x : Str} (h : TD H v (.str x)) : v = .str x := by
  unfold TD at h
  exact h
theorem td_nil {H : Hp} {v : V} (h : TD H v (.tuple [])) : ∃ a, v = .ref a ∧ H a = some (.tup []) := by
  unfold TD at h
  obtain ⟨a, xs, e, h1, h2⟩ := h
  cases xs with
  | nil => exact ⟨a, e, h1⟩
  | cons _ _ => unfold TDs at h2; exact h2.elim
theorem td_one {H : Hp} {v : V} {d : PyData} (h : TD H v (.tuple [d])) : ∃ a x, v = .ref a ∧ H a = some (.tup [x]) ∧ TD H x d := by
  unfold TD at h
  obtain ⟨a, xs, e, h1, h2⟩ := h
  match xs, h2 with
  | [x], h2 =>
    unfold TDs at h2
    exact ⟨a, x, e, h1, h2.1⟩
  | [], h2 => unfold TDs at h2; exact h2.elim
  | _ :: _ :: _, h2 => unfold TDs TDs at h2; exact h2.2.elim
theorem td_two {H : Hp} {v : V} {d f : PyData} (h : TD H v (.tuple [d, f])) : ∃ a x y, v = .ref a ∧ H a = some (.tup [x, y]) ∧ TD H x d ∧ TD H y f := by
  unfold TD at h
  obtain ⟨a, xs, e, h1, h2⟩ := h
  match xs, h2 with
  | [x, y], h2 =>
    unfold TDs TDs at h2
    exact ⟨a, x, y, e, h1, h2.1, h2.2.1⟩
  | [], h2 => unfold TDs at h2; exact h2.elim
  | [_], h2 => unfold TDs TDs at h2; exact h2.2.elim
  | _ :: _ :: _ :: _, h2 => unfold TDs TDs TDs at h2; exact h2.2.2.elim
theorem td_of {H : Hp} {a : Addr} {xs : List V} {ds : List PyData} (h : H a = some (.tup xs)) (t : TDs H xs ds) : TD H (.ref a) (.tuple ds) := by
  unfold TD
  exact ⟨a, xs, rfl, h, t⟩
theorem tds_one {H : Hp} {x : V} {d : PyData} (h : TD H x d) : TDs H [x] [d] := by
  unfold TDs TDs
  exact ⟨h, True.intro⟩
theorem tds_two {H : Hp} {x y : V} {d f : PyData} (h : TD H x d) (k : TD H y f) : TDs H [x, y] [d, f] := by
  unfold TDs TDs TDs
  exact ⟨h, k, True.intro⟩
theorem td_s {H : Hp} {x : Str} : TD H (.str x) (.str x) := by
  unfold TD
  rfl
theorem td_i {H : Hp} {x : Int} : TD H (.int x) (.int x) := by
  unfold TD
  rfl
theorem td_n {H : Hp} : TD H .non .none := by
  unfold TD
  rfl
/-! ### repr of what is known as data -/
def Rep (K : PySem.W.Frag) (H : Hp) (v : V) (d : PyData) : Prop := (Dp K H v d ∧ d.hasDict = false) ∨ DatAt H v d
structure Fits (d : PyData) : Prop where
  sh : d.showable = true
  dp : d.depth ≤ 34
  sz : d.shown.length ≤ sizeLine
section
variable {X : Cx}
theorem call_reprP {k : Nat} (hr : Room k X.A) (hg : X.A.guards = some []) : CallR X (.builtin "repr") (fun xs H Q => ∃ v d, xs = [v] ∧ Rep X.K H v d ∧ Fits d ∧ Q (.str d.shown) H) := by
  intro pins s σ H xs us Q I r h
  obtain ⟨v, d, rfl, rep, G, q⟩ := h
  obtain ⟨u, rfl, ru⟩ := vals_one r
  have fin : ∀ (h' : Heap) (u : Tok) (tk : Nat), (∀ b o, s.heap.get? b = some o → h'.get? b = some o) → EP X pins σ Q (.str d.shown u) { s with heap := h', toks := tk } :=
    fun h' u tk k => ⟨.str d.shown, H, I.kept (t' := tk) k, ⟨_, rfl⟩, q⟩
  have rd : ∃ as, Reads s.heap u d as ∧ (d.hasDict = true → sysModules ∉ as) := by
    rcases rep with ⟨D, nd⟩ | D
    · obtain ⟨as, R⟩ := Dp.reads I d v u D ru
      exact ⟨as, R, fun z => by rw [nd] at z; cases z⟩
    · obtain ⟨as, R, hsm⟩ := reads_of I.hok D u ru
      exact ⟨as, R, fun _ => hsm⟩
  obtain ⟨as, R, hsm⟩ := rd
  have hu := hr.units
  have hd := G.dp
  have hsz := G.sz
  cases R with
  | none => exact PySem.P.repr_of_none (fin s.heap _ _ fun _ _ e => e)
  | bool b => exact PySem.P.repr_of_bool (fin s.heap _ _ fun _ _ e => e)
  | int i t => exact PySem.P.repr_of_int (of_decide_eq_true G.sh) (fin s.heap _ _ fun _ _ e => e)
  | str x t => exact PySem.P.repr_of_str (fin s.heap _ _ fun _ _ e => e) hsz
  | list h1 h2 h3 h4 => exact repr_of_reads' (.list h1 h2 h3 h4) G.sh hsm hg (by omega) (fun _ _ e => e) fin hsz
  | tuple h1 h2 h3 h4 => exact repr_of_reads' (.tuple h1 h2 h3 h4) G.sh hsm hg (by omega) (fun _ _ e => e) fin hsz
  | dict h1 h2 h3 h4 h5 => exact repr_of_reads' (.dict h1 h2 h3 h4 h5) G.sh hsm hg (by omega) (fun _ _ e => e) fin hsz
end
/-! ### an error that is kept: its class, its value -/
/-- at a stands an error that was caught, of the class at C, with the value v -/
def Caught (H : Hp) (C a : Addr) (v : V) : Prop := ∃ d, H a = some (exk a C (some d)) ∧ H d = some (.xd [(vName, v)])
theorem Caught.same {H H' : Hp} {C a : Addr} {v : V} (e : Caught H C a v) (k : Same H H') : Caught H' C a v := by
  obtain ⟨d, h1, h2⟩ := e
  exact ⟨d, k _ _ h1, k _ _ h2⟩
section
variable {X : Cx} {S C fI : Addr} {x : Str} {e : Expr} {te : TE} {p pos : Pos}
theorem call_isK (T : ErrK X.K X.mg S C fI x) (D : ClsD X.K) : CallR X (.builtin "isinstance")
    (fun xs H Q => ∃ (a : Addr) (v c : V) (cv : Value) (b : Bool), xs = [.ref a, c] ∧ Caught H C a v ∧ (∀ u, RelV c u → u = cv) ∧ PySem.W.kitOne X.K (.ref C) cv = some b ∧ Q (.bl b) H) := by
  intro pins s σ H xs us Q I r h
  obtain ⟨a, v, c, cv, b, rfl, ⟨d, ea, ed⟩, hc, e, q⟩ := h
  obtain ⟨u1, u2, rfl, r1, r2⟩ := vals2 r
  cases (show u1 = Value.ref a from r1)
  cases hc _ r2
  obtain ⟨ob, vs, ho, hz, hf⟩ := exk_at I.hok ea
  obtain ⟨mA, ⟨od, es, ep, hd, hrest⟩, _⟩ := (show ObjOk X.prog X.w H s.heap d (.xd [(vName, v)]) from I.hok d _ ed)
  have J : PySem.W.InstAt s.heap a ob C (some od) := ⟨ho, hz.1, by unfold PySem.W.notCls; rw [hf] <;> rfl, by rw [hz.2]; exact hd⟩
  obtain ⟨cd, hcd, _⟩ := T.clsIn
  exact PySem.W.kia_one (PySem.W.kitx_exc (by rw [hcd]; rfl) T.ga T.gg (T.sub _) T.ha D.hn D.ht (T.mro _)) I.kIn J e (fun z => nomatch z) fun tk => ⟨.bl b, H, I.kept (t' := tk) fun _ _ z => z, rfl, q⟩
/-- e.value -/
theorem pe_keptV (T : ErrK X.K X.mg S C fI x) (ha : PE X e te) (hb : attributeBase e vName X.env (eval e X.env) = eval e X.env := by rfl) :
    PE X (.Attribute e vName pos) (fun σ H Q => te σ H fun y H1 => ∃ (a : Addr) (v : V), y = .ref a ∧ Caught H1 C a v ∧ Q v H1) := by
  constructor
  intro pins s σ H Q I h
  refine attr_of hb (thn (ha.run pins s σ H _ I h) ?_)
  intro u s1 hh
  obtain ⟨y, H1, I1, ry, a, v, rfl, ⟨d, ea, ed⟩, q⟩ := hh
  cases ry
  obtain ⟨ob, vs, ho, hz, hf⟩ := exk_at I1.hok ea
  obtain ⟨mA, hns, hr⟩ := (show ObjOk X.prog X.w H1 s1.heap d (.xd [(vName, v)]) from I1.hok d _ ed)
  obtain ⟨od, hod, hl⟩ := lookIn_ns hns
  have l : List.lookup vName [(vName, v)] = some v := by
    simp [List.lookup]
  obtain ⟨u, hu, ru⟩ := RelO.some_of (v := v) (o := mA vName) (by rw [← l]; exact hr vName)
  have J : PySem.W.InstAt s1.heap a ob C (some od) := ⟨ho, hz.1, by unfold PySem.W.notCls; rw [hf] <;> rfl, by rw [hz.2]; exact hod⟩
  exact PySem.HandSPX.exc_get I1.kIn J T.ga T.gg (T.sub _) (PySem.W.findObj_own T.hd T.noV rfl (by rw [hl, hu])) (handed_of ru) ⟨v, H1, I1.tok _, ru, q⟩
end
end Sc

set_option maxRecDepth 100000
set_option maxHeartbeats 4000000
namespace Sc
open PySem L2 PySem.Spec PyProof.Rows TL
abbrev sChText : Stmt := top 7
abbrev sStepText : Stmt := top 8
abbrev sAreNames : Stmt := top 11
abbrev sShort : Stmt := top 12
theorem scChText : FnScope ["choice", "stop", "text"] ["choice", "stop"] (defScope sChText) := ⟨rfl, rfl, rfl, by decide +kernel, rfl, by decide +kernel, by decide +kernel⟩
theorem scStepText : FnScope ["step"] ["step"] (defScope sStepText) := ⟨rfl, rfl, rfl, by decide +kernel, rfl, by decide +kernel, by decide +kernel⟩
theorem scAreNames : FnScope ["words", "many", "word"] ["words", "many"] (defScope sAreNames) := ⟨rfl, rfl, rfl, by decide +kernel, rfl, by decide +kernel, by decide +kernel⟩
theorem scShort : FnScope ["word"] ["word"] (defScope sShort) := ⟨rfl, rfl, rfl, by decide +kernel, rfl, by decide +kernel, by decide +kernel⟩
/-- items of short texts whose single word is neither begin nor at -/
def plainItem (c : Item) : Bool := (match c.1 with
  | .beg p w => decide (p.length ≤ 40) && decide (w.length ≤ 40)
  | .at t => decide (t.length ≤ 40)
  | .one w => decide (w.length ≤ 40) && (!(w == ("begin" : Str)) && !(w == ("at" : Str)))) && (match c.2 with
  | none => true
  | some n => decide (n ≤ 9999))
theorem all_plain : drawnItems.all plainItem = true := by decide +kernel
theorem plain_of {c : Item} (h : c ∈ drawnItems) : plainItem c = true := List.all_eq_true.mp all_plain c h
theorem emp_app (x : Str) : Str.empty ++ x = x := ext_tl (by rw [tl_append]; rfl)
theorem app_len (x y : Str) : (x ++ y).length = x.length + y.length := len_app x y
theorem nine_log {n : Nat} (h : n ≤ 9999) : ((n : Nat) : Int).natAbs.log2 < 1920 := by
  rw [Int.natAbs_natCast]
  by_cases z : n = 0
  · subst z
    decide
  · have h1 : n.log2 < 14 := (Nat.log2_lt z).mpr (Nat.lt_of_le_of_lt h (by decide))
    omega
theorem num_len {n : Nat} (h : n ≤ 9999) : (numT n).length ≤ 4 := by
  unfold numT
  rw [len_tl, tl_num]
  exact numL_len (by decide) (Nat.lt_of_le_of_lt h (by decide))
theorem szI {n : Nat} (h : n ≤ 100000) : n ≤ sizeLine := by
  rw [sizeLine_eq]
  omega
def spStep : Sp := fun vs H Q _ => ∃ (v : V) (p w : Str), vs = [v] ∧ TD H v (.tuple [.str p, .str w]) ∧ p.length ≤ 1000 ∧ w.length ≤ 1000 ∧ Q (.str (Txt.join "." [p, w])) H
def spChText : Sp := fun vs H Q _ => ∃ (v u : V) (c : Item), vs = [v, u] ∧ TD H v (chD c.1) ∧ TD H u (stD c.2) ∧ plainItem c = true ∧ Q (.str (showCh c)) H
section
variable {P : Program} {w : World} {K : PySem.W.Frag} {mg : Str → Option Value} {base : Heap} {sA : Addr}
theorem ok_step {f : Addr} {fd : FuncData} (F : Fun K "step_text" "step_text" sStepText f fd) : FnOk P w K mg base CX0 1 f fd ["step"] spStep := by
  refine F.ok scStepText (fun vs H Q E h => ?_) (fun cdv A outer s H vs Q E hr h => ?_)
  · obtain ⟨v, p, w, rfl, _⟩ := h
    rfl
  · obtain ⟨v, p, w, rfl, hv, lp, lw, q⟩ := h
    refine ⟨_, pss_one (ps_ret (pe_join pe_str (pv 0))), ?_⟩
    obtain ⟨a, x, y, rfl, ha, hx, hy⟩ := td_two hv
    obtain rfl := td_str hx
    obtain rfl := td_str hy
    refine ⟨⟨_, rfl⟩, _, rfl, _, a, [p, w], rfl, rfl, .inr (SqT.of ha), ?_, q⟩
    show p.length + (w.length + 0) + 2 * (("." : Str)).length ≤ 16777216
    have : (("." : Str)).length = 1 := by decide
    omega
theorem ok_chText {f fS : Addr} {fd fdS : FuncData} (F : Fun K "choice_text" "choice_text" sChText f fd) (GS : FnOk P w K mg base CX0 1 fS fdS ["step"] spStep) (gS : mg "step_text" = some (.ref fS)) (kS : PySem.W.keepIn K (.ref fS) = true) (bS : Binds K fdS ["step"] []) :
    FnOk P w K mg base CX0 2 f fd ["choice", "stop"] spChText := by
  refine F.ok scChText (fun vs H Q E h => ?_) (fun cdv A outer s H vs Q E hr h => ?_)
  · obtain ⟨v, u, c, rfl, _⟩ := h
    rfl
  · obtain ⟨v, u, c, rfl, hv, hu, hp, q⟩ := h
    refine ⟨_, pss_cons (ps_set (i := 2) scChText.nd rfl (Or.inl rfl) (pe_ix ix_tup (pv 0) pe_int (fun _ _ => rfl)))
      (pss_cons (ps_if (pt_cmpR op_eq (pv 2) pe_str (nomark _)) (pss_one (ps_set (i := 2) scChText.nd rfl (Or.inl rfl) (pe_joined (PJ.cons pe_str (PJ.cons (pe_fmt (pe_call GS hr (by rfl) gS kS bS .nil pass0 (pa_cons (pe_ix ix_tup (pv 0) pe_int (fun _ _ => rfl)) pa_nil))) PJ.nil)))))
        (pss_one (ps_if (pt_cmpR op_eq (pv 2) pe_str (nomark _)) (pss_one (ps_set (i := 2) scChText.nd rfl (Or.inl rfl) (pe_joined (PJ.cons pe_str (PJ.cons (pe_fmt (pe_ix ix_tup (pv 0) pe_int (fun _ _ => rfl))) PJ.nil))))) pss_nil)))
      (pss_one (ps_ret (pe_ifExp (pt_cmpR op_isN (pv 1) pe_non (nomark _)) (pv 2) (pe_joined (PJ.cons (pe_fmt (pv 2)) (PJ.cons pe_str (PJ.cons (pe_fmt (pv 1)) PJ.nil)))))))), ?_⟩
    obtain ⟨c1, c2⟩ := c
    have k1 : ("begin" : Str).length = 5 ∧ ("begin " : Str).length = 6 ∧ ("at " : Str).length = 3 ∧ (" stop " : Str).length = 6 ∧ Str.empty.length = 0 ∧ ("." : Str).length = 1 := by decide
    -- the last statement
    have tail : ∀ (b : Str), b.length ≤ 200 → showCh (c1, c2) = (match c2 with | none => b | some n => b ++ " stop " ++ numT n) →
        (tRet (tIf (tTest (tOp (fun x y H Q => y = V.non ∧ Q (V.bl (decide (x = V.non))) H) (tVar 1) (tC V.non))) (tVar 2) fun σ H Q => tJs [tFmt (tVar 2), tC (.str " stop "), tFmt (tVar 1)] Str.empty σ H fun out H1 => Q (V.str out) H1)) { nx := fun _ H' => Q .non H', rt := Q } [some v, some u, some (.str b)] H := by
      intro b hb e
      cases c2 with
      | none =>
        unfold stD TD at hu
        subst hu
        refine ⟨_, rfl, rfl, _, rfl, ite2 (fun _ => ⟨_, rfl, ?_⟩) fun z => absurd rfl z⟩
        rw [e] at q
        exact q
      | some n =>
        unfold stD TD at hu
        subst hu
        have n9 : n ≤ 9999 := by
          unfold plainItem at hp
          rw [Bool.and_eq_true] at hp
          exact of_decide_eq_true hp.2
        have nl := num_len n9
        refine ⟨_, rfl, rfl, _, rfl, ite2 (fun z => nomatch (of_decide_eq_true z)) fun _ => ?_⟩
        refine ⟨_, rfl, .inl ⟨_, rfl, szI (by omega), _, rfl, szI ?_, _, rfl, szI ?_, _, rfl, .inr ⟨_, rfl, nine_log n9, _, rfl, szI ?_, ?_⟩⟩⟩
        · rw [emp_app]
          omega
        · rw [emp_app, app_len]
          omega
        · rw [emp_app, app_len, app_len]
          have : (numT n).length = (Str.ofString (toString ((n : Nat) : Int))).length := rfl
          omega
        · rw [emp_app]
          rw [e] at q
          exact q
    refine seq_go ?_
    cases c1 with
    | beg p w' =>
      have hl : p.length ≤ 40 ∧ w'.length ≤ 40 := by
        unfold plainItem at hp
        rw [Bool.and_eq_true, Bool.and_eq_true] at hp
        exact ⟨of_decide_eq_true hp.1.1, of_decide_eq_true hp.1.2⟩
      unfold chD at hv
      obtain ⟨a, x, y, rfl, ha, hx, hy⟩ := td_two hv
      obtain rfl := td_str hx
      have jl : (Txt.join "." [p, w']).length ≤ 90 := by
        have h1 := join_len "." [p, w']
        have h2 : ([p, w'].map (fun x => x.length)).sum = p.length + (w'.length + 0) := rfl
        rw [h2] at h1
        have h3 : [p, w'].length = 2 := rfl
        rw [h3] at h1
        omega
      refine ⟨_, rfl, a, _, _, _, rfl, rfl, SqT.of ha, rfl, ?_⟩
      dsimp only
      refine seq_go (ifs_go (test_go (op_go ⟨_, rfl, rfl, _, rfl, ite2 (fun _ => ?_) fun z => absurd rfl z⟩)))
      refine ⟨_, rfl, szI (by rw [emp_app]; omega), _, rfl, a, _, _, _, rfl, rfl, SqT.of ha, rfl, y, p, w', rfl, hy, by omega, by omega, .inl ⟨_, rfl, szI (by omega), _, rfl, szI ?_, ?_⟩⟩
      · rw [emp_app, app_len]
        omega
      · rw [emp_app]
        exact tail ("begin " ++ Txt.join "." [p, w']) (by rw [app_len]; omega) (by cases c2 <;> rfl)
    | «at» t =>
      have hl : t.length ≤ 40 := by
        unfold plainItem at hp
        rw [Bool.and_eq_true] at hp
        exact of_decide_eq_true hp.1
      unfold chD at hv
      obtain ⟨a, x, y, rfl, ha, hx, hy⟩ := td_two hv
      obtain rfl := td_str hx
      obtain rfl := td_str hy
      refine ⟨_, rfl, a, _, _, _, rfl, rfl, SqT.of ha, rfl, ?_⟩
      dsimp only
      refine seq_go (ifs_go (test_go (op_go ⟨_, rfl, rfl, _, rfl, ite2 (fun z => absurd z (by decide)) fun _ => ?_⟩)))
      refine ifs_go (test_go (op_go ⟨_, rfl, rfl, _, rfl, ite2 (fun _ => ?_) fun z => absurd rfl z⟩))
      refine ⟨_, rfl, szI (by rw [emp_app]; omega), _, rfl, a, _, _, _, rfl, rfl, SqT.of ha, rfl, .inl ⟨_, rfl, szI (by omega), _, rfl, szI ?_, ?_⟩⟩
      · rw [emp_app, app_len]
        omega
      · rw [emp_app]
        exact tail ("at " ++ t) (by rw [app_len]; omega) (by cases c2 <;> rfl)
    | one w' =>
      have hl : w'.length ≤ 40 ∧ (w' == ("begin" : Str)) = false ∧ (w' == ("at" : Str)) = false := by
        unfold plainItem at hp
        rw [Bool.and_eq_true, Bool.and_eq_true, Bool.and_eq_true] at hp
        exact ⟨of_decide_eq_true hp.1.1, by simpa using hp.1.2.1, by simpa using hp.1.2.2⟩
      unfold chD at hv
      obtain ⟨a, x, rfl, ha, hx⟩ := td_one hv
      obtain rfl := td_str hx
      refine ⟨_, rfl, a, _, _, _, rfl, rfl, SqT.of ha, rfl, ?_⟩
      dsimp only
      refine seq_go (ifs_go (test_go (op_go ⟨_, rfl, rfl, _, rfl, ite2 (fun z => ?_) fun _ => ?_⟩)))
      · rw [dec_str, hl.2.1] at z
        cases z
      refine ifs_go (test_go (op_go ⟨_, rfl, rfl, _, rfl, ite2 (fun z => ?_) fun _ => ?_⟩))
      · rw [dec_str, hl.2.2] at z
        cases z
      exact tail w' (by omega) (by cases c2 <;> rfl)
end
end Sc

set_option maxRecDepth 100000
set_option maxHeartbeats 1000000
namespace Sc
open PySem L2 PySem.Spec PyProof.Rows TL
def rInT (K : PySem.W.Frag) : R2 := fun x y H Q => ∃ d ds, Dp K H x d ∧ Dp K H y (.tuple ds) ∧ SeqAt.shaped d = true ∧ SeqAt.shaped (.tuple ds) = true ∧ Q (.bl (ds.any fun z => PyData.eqv z d)) H
theorem op_inT {X : Cx} (hu : X.A.units + 65 < cLine) : OpR X (compareOp .In) (rInT X.K) := by
  intro pins s σ H x y v u Q I rx ry h
  obtain ⟨d, ds, hd, he, sd, se, q⟩ := h
  obtain ⟨as, r1⟩ := Dp.reads I d x v hd rx
  obtain ⟨bs, r2⟩ := Dp.reads I (.tuple ds) y u he ry
  have d1 := SeqAt.depth_of_shaped sd
  exact SeqAt.in_tuple_reads r2 r1 (SeqAt.canLay_of_shaped se) (SeqAt.canLay_of_shaped sd) (by
    have h1 := Nat.min_le_right (PyData.depthAll ds) d.depth
    omega) ⟨.bl _, H, I, rfl, q⟩
def spNames (K : PySem.W.Frag) : Sp := fun vs H Q _ => ∃ (a : Addr) (ws : List Str) (n : Nat), vs = [.ref a, .int (n : Nat)] ∧ Words K H a ws ∧ ∀ H', Same H H' → Q (.bl (areNames ws n)) H'
abbrev sChoiceOf : Stmt := top 10
theorem scChoiceOf : FnScope ["words", "step"] ["words"] (defScope sChoiceOf) := ⟨rfl, rfl, rfl, by decide +kernel, rfl, by decide +kernel, by decide +kernel⟩
def spChoice (K : PySem.W.Frag) : Sp := fun vs H Q _ => ∃ (a : Addr) (ws : List Str), vs = [.ref a] ∧ Words K H a ws ∧ 1 ≤ ws.length ∧
  (choiceOf ws = none → ∀ H', Same H H' → Q .non H') ∧ ∀ c, choiceOf ws = some c → ∀ v H', Same H H' → TD H' v (chD c) → Q v H'
theorem getD_at {ws : List Str} {i : Nat} (h : i < ws.length) : atI (ws.map V.str) ((i : Nat) : Int) = some (.str (ws.getD i "")) := by
  refine atI_nat ?_
  rw [List.getElem?_map, List.getD_eq_getElem?_getD, List.getElem?_eq_getElem h]
  rfl
theorem cut1 (ws : List Str) : cutW ws (some 1) none = ws.drop 1 := by
  unfold cutW
  rw [HT.sIx_none, show HT.sIx ws.length 0 (some (1 : Int)) = min 1 ws.length from HT.sIx_nat _ _ 1]
  have e : ws.drop (min 1 ws.length) = ws.drop 1 := by
    cases ws with
    | nil => rfl
    | cons a r => rw [show min 1 (a :: r).length = 1 by simp]
  rw [e]
  refine List.take_of_length_le ?_
  rw [List.length_drop]
  omega
theorem any_single (ws : List Str) : ([PyData.list ([("again" : Str)].map .str), .list ([("back" : Str)].map .str), .list ([("turn" : Str)].map .str)].any fun z => PyData.eqv z (.list (ws.map .str))) = single ws := by
  show (PyData.eqv _ _ || (PyData.eqv _ _ || (PyData.eqv _ _ || false))) = _
  rw [eqv_strs, eqv_strs, eqv_strs]
  unfold single
  have c : ∀ x : List Str, (x == ws) = (ws == x) := fun x => by
    by_cases h : x = ws
    · rw [h]
    · rw [beq_eq_false_iff_ne.mpr h, beq_eq_false_iff_ne.mpr (Ne.symm h)]
  rw [c, c, c, Bool.or_false, Bool.or_assoc]
theorem u65 {k : Nat} {A : Around} (r : Room k A) : A.units + 65 < cLine := by
  have := r.un
  omega
theorem and_all {a b : TT} {σ : L2.St} {H : Hp} {R : Bool → Hp → Prop} (x y : Bool) (ha : ∀ R, (∀ H', Same H H' → R x H') → a σ H R) (hb : x = true → ∀ H' R, Same H H' → (∀ H2, Same H' H2 → R y H2) → b σ H' R)
    (q : ∀ H', Same H H' → R (x && y) H') : tAnd a b σ H R :=
  and_go (ha _ fun H' s => by
    cases x with
    | false => exact iteF (q H' s)
    | true => exact iteT (hb rfl H' _ s fun H2 s2 => q H2 (s.trans s2)))
theorem or_all {a b : TT} {σ : L2.St} {H : Hp} {R : Bool → Hp → Prop} (x y : Bool) (ha : ∀ R, (∀ H', Same H H' → R x H') → a σ H R) (hb : x = false → ∀ H' R, Same H H' → (∀ H2, Same H' H2 → R y H2) → b σ H' R)
    (q : ∀ H', Same H H' → R (x || y) H') : tOr a b σ H R :=
  or_go (ha _ fun H' s => by
    cases x with
    | true => exact iteT (q H' s)
    | false => exact iteF (hb rfl H' _ s fun H2 s2 => q H2 (s.trans s2)))
theorem name_go {i : Nat} {v : V} {σ : L2.St} {H : Hp} {Q : L2.St → Hp → Prop} (h : Q (σ.set i (some v)) H) : gName i v σ H Q := h
theorem len_eq {n m : Nat} : decide (V.int (n : Nat) = V.int (m : Nat)) = (n == m) := by
  rw [dec_int]
  by_cases h : n = m
  · rw [h, beq_self_eq_true, beq_self_eq_true]
  · rw [beq_eq_false_iff_ne.mpr h]
    exact beq_eq_false_iff_ne.mpr fun z => h (Int.ofNat.inj z)
theorem strOk_of {x : Str} (h : TxtOk x) : PyData.strOk x = true := h.2
section
variable {P : Program} {w : World} {K : PySem.W.Frag} {mg : Str → Option Value} {base : Heap} {sA : Addr}
theorem ok_names {f fS : Addr} {fd fdS : FuncData} (F : Fun K "are_names" "are_names" sAreNames f fd) (T : NatR mg) (GS : FnOk P w K mg base CX0 1 fS fdS ["word"] (spLook spelled)) (gS : mg "is_spelled" = some (.ref fS)) (kS : PySem.W.keepIn K (.ref fS) = true) (bS : Binds K fdS ["word"] []) :
    FnOk P w K mg base CX0 2 f fd ["words", "many"] (spNames K) := by
  refine F.ok scAreNames (fun vs H Q E h => ?_) (fun cdv A outer s H vs Q E hr h => ?_)
  · obtain ⟨a, ws, n, rfl, _⟩ := h
    rfl
  · obtain ⟨a, ws, n, rfl, hw, q⟩ := h
    refine ⟨_, pss_one (ps_ret (pe_and (pe_cmpR op_eq (pe_callB call_len_seq (by rfl) T.len PySem.boot_len (pa_cons (pv 0) pa_nil)) (pv 1) (nomark _))
      (pe_one (pe_callB (cr_all rfl) (by rfl) T.all (by decide +kernel) (pa_cons
          (pe_lc (own := [("word", 2)]) (g := gName 2) (tt := tYes) rfl scAreNames.nd (pi_list (pv 0)) (blkOk_by (own := [("word", 2)]) (N := ["words", "many", "word"]) (sc := defScope sAreNames) (by decide +kernel))
            (fun _ _ _ _ _ => pg_name (i := 2) scAreNames.nd rfl (Or.inl rfl)) (fun _ _ _ _ _ => pts_nil) (fun _ _ _ _ _ => pe_call GS hr (by rfl) gS kS bS .nil pass0 (pa_cons (pv 2) pa_nil))) pa_nil))))), ?_⟩
    have nl : ws.length ≤ sizeLine := szI (by have := hw.2.1; omega)
    refine ⟨_, rfl, a, _, rfl, .inl hw.1, _, rfl, rfl, tst_go (ite2 (fun c => ?_) fun c => ?_)⟩
    · rw [dec_int, List.length_map] at c
      have c2 : (ws.length == n) = true := by
        have : (ws.length : Int) = n := by simpa using c
        rw [beq_iff_eq]
        omega
      refine all_go (ws.map spelled) (fun R k => words_go (a := a) spelled (fun R2 k2 => ⟨_, rfl, k2 a H (Same.refl H) hw.1⟩) nl (fun u => rfl) (fun u H' hu R3 k3 => ⟨_, rfl, u, rfl, (hw.2.2 u hu).1, fun H4 s5 => k3 H4 s5⟩) k) fun H' s => ?_
      have e : areNames ws n = (ws.map spelled).all id := by
        unfold areNames
        rw [c2, Bool.true_and, List.all_map]
        rfl
      rw [← e]
      exact q H' s
    · rw [dec_int, List.length_map] at c
      have c2 : (ws.length == n) = false := by
        rw [beq_eq_false_iff_ne]
        intro z
        exact c (by rw [z]; exact beq_self_eq_true _)
      have e : areNames ws n = false := by
        unfold areNames
        rw [c2]
        rfl
      have q1 := q H (Same.refl H)
      rw [e] at q1
      exact q1
theorem ok_short {f fN : Addr} {fd fdN : FuncData} (F : Fun K "is_short_number" "is_short_number" sShort f fd) (T : NatR mg) (GN : FnOk P w K mg base CX0 1 fN fdN ["word"] (spLook number)) (gN : mg "is_number" = some (.ref fN)) (kN : PySem.W.keepIn K (.ref fN) = true) (bN : Binds K fdN ["word"] []) :
    FnOk P w K mg base CX0 2 f fd ["word"] (spLook shortNum) := by
  refine F.ok scShort (fun vs H Q E h => ?_) (fun cdv A outer s H vs Q E hr h => ?_)
  · obtain ⟨x, rfl, _⟩ := h
    rfl
  · obtain ⟨x, rfl, hx, q⟩ := h
    refine ⟨_, pss_one (ps_ret (pe_and (pe_cmpR op_le (pe_callB call_len_str (by rfl) T.len PySem.boot_len (pa_cons (pv 0) pa_nil)) pe_int (nomark _))
      (pe_one (pe_call GN hr (by rfl) gN kN bN .nil pass0 (pa_cons (pv 0) pa_nil))))), ?_⟩
    refine ⟨_, rfl, x, rfl, sz hx, _, _, rfl, rfl, tst_go (ite2 (fun c => ?_) fun c => ?_)⟩
    · have c2 := of_decide_eq_true c
      refine ⟨_, rfl, x, rfl, hx, fun H' s => ?_⟩
      have q1 := q H' s
      unfold shortNum at q1
      rw [decide_eq_true (show x.length ≤ 4 by omega), Bool.true_and] at q1
      exact q1
    · have q1 := q H (Same.refl H)
      unfold shortNum at q1
      rw [decide_eq_false (show ¬ x.length ≤ 4 from fun h => c (decide_eq_true (by omega))), Bool.false_and] at q1
      exact q1
theorem ok_choice {f fA fS : Addr} {fd fdA fdS : FuncData} (F : Fun K "choice_of" "choice_of" sChoiceOf f fd) (T : NatR mg) (U : Kept K mg sA)
    (GA : FnOk P w K mg base CX0 2 fA fdA ["words", "many"] (spNames K)) (gA : mg "are_names" = some (.ref fA)) (kA : PySem.W.keepIn K (.ref fA) = true) (bA : Binds K fdA ["words", "many"] [])
    (GS : FnOk P w K mg base CX0 1 fS fdS ["word"] (spLook spelled)) (gS : mg "is_spelled" = some (.ref fS)) (kS : PySem.W.keepIn K (.ref fS) = true) (bS : Binds K fdS ["word"] []) :
    FnOk P w K mg base CX0 3 f fd ["words"] (spChoice K) := by
  refine F.ok scChoiceOf (fun vs H Q E h => ?_) (fun cdv A outer s H vs Q E hr h => ?_)
  · obtain ⟨a, ws, rfl, _⟩ := h
    rfl
  · obtain ⟨a, ws, rfl, hw, h1, qn, qs⟩ := h
    have hr1 : Room 1 _ := hr.mono (by decide)
    refine ⟨_, pss_cons (ps_if (pt_cmpR (op_inT (u65 hr)) (pv 0) (pe_tup (pa_cons (pe_lst (pa_cons pe_str pa_nil)) (pa_cons (pe_lst (pa_cons pe_str pa_nil)) (pa_cons (pe_lst (pa_cons pe_str pa_nil)) pa_nil)))) (by rfl))
        (pss_one (ps_ret (pe_tup (pa_cons (pe_ix ix_list (pv 0) pe_int (fun _ _ => rfl)) pa_nil)))) pss_nil)
      (pss_cons (ps_if (PW.pt (pw_and (pt_cmpR op_eq (pe_ix ix_list (pv 0) pe_int (fun _ _ => rfl)) pe_str (nomark _)) (pw_and1 (pt_val (pe_call GA hr (by rfl) gA kA bA .nil pass0 (pa_cons (pe_slice sl_list (pv 0) (po_some pe_int) po_none) (pa_cons pe_int pa_nil)))))))
        (pss_one (ps_ret (pe_tup (pa_cons pe_str (pa_cons (pe_ix ix_list (pv 0) pe_int (fun _ _ => rfl)) pa_nil))))) pss_nil)
      (pss_cons (ps_if (PW.pt (pw_and (pt_cmpR op_eq (pe_ix ix_list (pv 0) pe_int (fun _ _ => rfl)) pe_str (nomark _)) (pw_and1 (pt_cmpR op_eq (pe_callB call_len_seq (by rfl) T.len PySem.boot_len (pa_cons (pv 0) pa_nil)) pe_int (nomark _)))))
        (pss_cons (ps_set (i := 1) scChoiceOf.nd rfl (Or.inl rfl) (pe_split (pe_ix ix_list (pv 0) pe_int (fun _ _ => rfl)) pe_str))
        (pss_one (ps_if (PW.pt (pw_and (pt_cmpR op_eq (pe_callB call_len_seq (by rfl) T.len PySem.boot_len (pa_cons (pv 1) pa_nil)) pe_int (nomark _))
            (pw_and (pt_val (pe_call GS hr1 (by rfl) gS kS bS .nil pass0 (pa_cons (pe_ix ix_list (pv 1) pe_int (fun _ _ => rfl)) pa_nil)))
            (pw_and1 (pt_cmpR op_in_seq (pe_ix ix_list (pv 1) pe_int (fun _ _ => rfl)) (pe_glob (v := .ref sA) (by rfl) U.sw rfl) (by rfl))))))
          (pss_one (ps_ret (pe_tup (pa_cons pe_str (pa_cons (pe_callTy call_tuple_of (by rfl) T.tuple (by decide +kernel) (pa_cons (pv 1) pa_nil)) pa_nil))))) pss_nil))) pss_nil)
      (pss_one (ps_ret pe_non)))), ?_⟩
    have hw0 : atI (ws.map V.str) (0 : Int) = some (.str (w0 ws)) := getD_at (i := 0) h1
    have nl : ws.length ≤ sizeLine := szI (by have := hw.2.1; omega)
    unfold choiceOf at qn qs
    refine seq_go (ifs_go (test_go (op_go ⟨_, rfl, ?_⟩)))
    refine ⟨by decide, fun p1 n1 => ⟨by decide, fun p2 n2 => ⟨by decide, fun p3 n3 => ⟨(by show 3 ≤ sizeLine; decide), fun t nt => ?_⟩⟩⟩⟩
    have s1 := same_new (o := .lst [V.str ("again" : Str)]) n1
    have s2 := same_new (o := .lst [V.str ("back" : Str)]) n2
    have s3 := same_new (o := .lst [V.str ("turn" : Str)]) n3
    have s4 := same_new (o := .tup [V.ref p1, V.ref p2, V.ref p3]) nt
    have w3 := hw.same (((s1.trans s2).trans s3).trans s4)
    have sA' := ((s1.trans s2).trans s3).trans s4
    have d1 : SqL K _ p1 ([("again" : Str)].map V.str) := .inl (.inl (((s2.trans s3).trans s4) _ _ upd_same))
    have d2 : SqL K _ p2 ([("back" : Str)].map V.str) := .inl (.inl ((s3.trans s4) _ _ upd_same))
    have d3 : SqL K _ p3 ([("turn" : Str)].map V.str) := .inl (.inl (s4 _ _ upd_same))
    have dt := upd_same (H := (upd (upd (upd H p1 (.lst [V.str ("again" : Str)])) p2 (.lst [V.str ("back" : Str)])) p3 (.lst [V.str ("turn" : Str)]))) (a := t) (o := .tup [V.ref p1, V.ref p2, V.ref p3])
    refine ⟨_, _, dp_words w3.1, .tup (.inl (.inl dt)) (.cons (dp_words d1) (.cons (dp_words d2) (.cons (dp_words d3) .nil))), shaped_strs _ fun x hx => (w3.2.2 x hx).2, by decide +kernel, ?_⟩
    rw [any_single]
    generalize upd (upd (upd (upd H p1 (.lst [V.str ("again" : Str)])) p2 (.lst [V.str ("back" : Str)])) p3 (.lst [V.str ("turn" : Str)])) t (.tup [V.ref p1, V.ref p2, V.ref p3]) = H1 at w3 sA' ⊢
    refine ⟨_, rfl, ite2 (fun c => ?_) fun c => ?_⟩
    · rw [if_pos c] at qs
      refine ⟨_, rfl, a, _, _, _, rfl, rfl, w3.1, hw0, (by show 1 ≤ sizeLine; decide), fun t2 nt2 => ?_⟩
      exact qs _ rfl _ _ (sA'.trans (same_new nt2)) (td_of upd_same (tds_one td_s))
    rw [if_neg c] at qn qs
    refine next_go ?_
    dsimp only
    refine seq_go (ifs_go (and_all (w0 ws == ("at" : Str)) (areNames (ws.drop 1) 1) (fun R k => test_go (op_go ⟨_, rfl, a, _, _, _, rfl, rfl, w3.1, hw0, rfl, _, rfl, ?_⟩)) (fun e H2 R s k => val_go ⟨_, rfl, 1, rfl, a, _, rfl, (w3.same s).1, fun n hn => ?_⟩) fun H2 s => ite2 (fun c2 => ?_) fun c2 => ?_))
    · rw [dec_str]
      exact k H1 (Same.refl H1)
    · have w4 := (w3.same s).cut hn (some 1) none
      rw [cut1] at w4
      have s5 := same_new (o := .lst (cutV (ws.map V.str) (some 1) none)) hn
      exact ⟨n, _, 1, rfl, w4, fun H3 s6 => ⟨_, rfl, k H3 (s5.trans s6)⟩⟩
    · rw [if_pos c2] at qs
      have l2 : 1 < ws.length := by
        have c3 := (Bool.and_eq_true_iff.mp c2).2
        unfold areNames at c3
        rw [Bool.and_eq_true, beq_iff_eq, List.length_drop] at c3
        omega
      refine ⟨_, rfl, a, _, _, _, rfl, rfl, (w3.same s).1, getD_at (i := 1) l2, (by show 2 ≤ sizeLine; decide), fun t2 nt2 => ?_⟩
      exact qs _ rfl _ _ (sA'.trans (s.trans (same_new nt2))) (td_of upd_same (tds_two td_s td_s))
    rw [if_neg c2] at qn qs
    have wB := w3.same s
    have sB := sA'.trans s
    refine next_go ?_
    dsimp only
    refine seq_go (ifs_go (and_all (w0 ws == ("begin" : Str)) (ws.length == 2) (fun R k => test_go (op_go ⟨_, rfl, a, _, _, _, rfl, rfl, wB.1, hw0, rfl, _, rfl, ?_⟩)) (fun e H3 R s3 k => test_go (op_go ⟨_, rfl, a, _, rfl, .inl (wB.same s3).1, rfl, _, rfl, ?_⟩)) fun H3 s3 => ite2 (fun c3 => ?_) fun c3 => ?_))
    · rw [dec_str]
      exact k H2 (Same.refl H2)
    · rw [show ((ws.map V.str).length : Int) = ((ws.map V.str).length : Nat) from rfl, List.length_map]
      have e2 : decide (V.int (ws.length : Nat) = V.int (2 : Nat)) = (ws.length == 2) := len_eq
      have k2 := k H3 (Same.refl H3)
      rw [← e2] at k2
      exact k2
    rotate_left
    · rw [if_neg c3] at qn
      exact qn rfl H3 (sB.trans s3)
    rw [if_pos c3] at qn qs
    have l2 : ws.length = 2 := by
      have c4 := (Bool.and_eq_true_iff.mp c3).2
      rw [beq_iff_eq] at c4
      exact c4
    have wC := wB.same s3
    have sC := sB.trans s3
    have hw1 : atI (ws.map V.str) (1 : Int) = some (.str (ws.getD 1 "")) := getD_at (i := 1) (by omega)
    have ok1 : TxtOk (ws.getD 1 "") := wC.2.2 _ (by
      rw [List.getD_eq_getElem?_getD, List.getElem?_eq_getElem (show 1 < ws.length by omega)]
      exact List.getElem_mem _)
    unfold begOf at qn qs
    have ok2 := split_ok ok1 "."
    have sp1 := split_pos (ws.getD 1 "") "."
    generalize hst : Txt.split (ws.getD 1 "") "." = st at qn qs ok2 sp1
    refine seq_go ⟨_, rfl, a, _, _, _, rfl, rfl, wC.1, hw1, ⟨_, rfl⟩, _, _, rfl, rfl, by decide, szI (by have := ok1.1; omega), fun p np => ?_⟩
    have s5 := same_new (o := .lst (st.map V.str)) np
    rw [hst]
    have wst : Words K (upd H3 p (.lst (st.map V.str))) p st := ⟨.inl (.inl upd_same), ok2.1, ok2.2⟩
    generalize upd H3 p (.lst (st.map V.str)) = H4 at s5 wst ⊢
    have hs0 : atI (st.map V.str) (0 : Int) = some (.str (st.getD 0 "")) := getD_at (i := 0) sp1
    refine name_go ?_
    dsimp only
    refine ifs_go (and_all (st.length == 2) (spelled (st.getD 0 "") && stepWords.contains (st.getD 1 "")) (fun R k => test_go (op_go ⟨_, rfl, p, _, rfl, .inl wst.1, rfl, _, rfl, ?_⟩)) (fun e H5 R s6 k => and_all (spelled (st.getD 0 "")) (stepWords.contains (st.getD 1 "")) (fun R2 k2 => val_go ⟨_, rfl, p, _, _, _, rfl, rfl, (wst.same s6).1, hs0, ?_⟩) (fun e2 H6 R2 s7 k2 => test_go (op_go ⟨_, rfl, p, _, _, .str (st.getD 1 ""), rfl, rfl, ((wst.same s6).same s7).1, ?_⟩)) fun H6 s7 => k H6 s7) fun H5 s6 => ite2 (fun c5 => ?_) fun c5 => ?_)
    · have e2 : decide (V.int ((st.map V.str).length : Nat) = V.int (2 : Nat)) = (st.length == 2) := by rw [List.length_map]; exact len_eq
      have k2 := k H4 (Same.refl H4)
      rw [← e2] at k2
      exact k2
    · refine ⟨_, rfl, (ok2.2 _ (by
        rw [List.getD_eq_getElem?_getD, List.getElem?_eq_getElem (show 0 < st.length by omega)]
        exact List.getElem_mem _)).1, fun H6 s7 => ⟨_, rfl, k2 H6 s7⟩⟩
    · have hs1 : atI (st.map V.str) (1 : Int) = some (.str (st.getD 1 "")) := getD_at (i := 1) (by rw [beq_iff_eq] at e; omega)
      refine ⟨hs1, sA, _, rfl, .inr (U.swT H6), rfl, rfl, _, rfl, ?_⟩
      show R2 (inV (.str _) (stepWords.map V.str)) H6
      rw [inV_str]
      exact k2 H6 (Same.refl H6)
    · have l2 : st.length = 2 := by
        have c6 := (Bool.and_eq_true_iff.mp c5).1
        rw [beq_iff_eq] at c6
        exact c6
      have c7 : (st.length == 2 && spelled (st.getD 0 "") && stepWords.contains (st.getD 1 "")) = true := by
        rw [Bool.and_assoc]
        exact c5
      dsimp only at qs
      rw [if_pos c7] at qs
      refine ⟨_, rfl, p, _, rfl, .inl ⟨(wst.same s6).1, fun t1 nt1 => ?_⟩⟩
      have s8 := same_new (o := .tup (st.map V.str)) nt1
      refine ⟨(by show 2 ≤ sizeLine; decide), fun t2 nt2 => ?_⟩
      have s9 := same_new (o := .tup [V.str ("begin" : Str), V.ref t1]) nt2
      refine qs _ rfl _ _ (sC.trans (s5.trans ((s6.trans s8).trans s9))) ?_
      match st, l2, s8, s9 with
      | [x, y], _, s8, s9 => exact td_of upd_same (tds_two td_s (td_of (s9 _ _ upd_same) (tds_two td_s td_s)))
    · have c7 : ¬ (st.length == 2 && spelled (st.getD 0 "") && stepWords.contains (st.getD 1 "")) = true := by
        rw [Bool.and_assoc]
        exact c5
      dsimp only at qn
      rw [if_neg c7] at qn
      exact qn rfl H5 (sC.trans (s5.trans s6))
end
end Sc

set_option maxRecDepth 100000
set_option maxHeartbeats 1000000
namespace Sc
open PySem L2 PySem.Spec PyProof.Rows TL
abbrev sReadCh : Stmt := top 9
theorem scReadCh : FnScope ["line", "words", "stop", "choice"] ["line"] (defScope sReadCh) := ⟨rfl, rfl, rfl, by decide +kernel, rfl, by decide +kernel, by decide +kernel⟩
theorem atI_neg {α : Type} {xs : List α} {k : Nat} (h0 : 0 < k) (h : k ≤ xs.length) : atI xs (-(k : Int)) = xs[xs.length - k]? := by
  unfold atI ixN
  rw [if_neg (by omega), if_pos (by omega)]
  show xs[(-(k : Int) + (xs.length : Int)).toNat]? = _
  congr 1
  omega
theorem get_end {ws : List Str} {k : Nat} (h0 : 0 < k) (h : k ≤ ws.length) : atI (ws.map V.str) (-(k : Int)) = some (.str (ws.getD (ws.length - k) "")) := by
  rw [atI_neg h0 (by rw [List.length_map]; exact h), List.length_map, List.getElem?_map, List.getD_eq_getElem?_getD, List.getElem?_eq_getElem (show ws.length - k < ws.length by omega)]
  rfl
theorem getD_mem' {ws : List Str} {i : Nat} (h : i < ws.length) : ws.getD i "" ∈ ws := by
  rw [List.getD_eq_getElem?_getD, List.getElem?_eq_getElem h]
  exact List.getElem_mem _
theorem cut_end {ws : List Str} (h : 2 < ws.length) : cutW ws none (some (-2)) = ws.take (ws.length - 2) := by
  unfold cutW
  rw [HT.sIx_none, List.drop_zero]
  congr 1
  show (if (-2 : Int) < 0 then ((-2 : Int) + (ws.length : Int)).toNat else min (-2 : Int).toNat ws.length) - 0 = _
  rw [if_pos (by decide)]
  omega
theorem short_dig {x : Str} (h : shortNum x = true) : lawDigits x = true := by
  by_cases c : lawDigits x = true
  · exact c
  · have := short_law (show lawDigits x = false by simpa using c)
    rw [this] at h
    cases h
theorem int_of {x : Str} (h : lawDigits x = true) : intText? x = some ((valOf x : Nat) : Int) ∧ x.length ≤ 4 := by
  unfold lawDigits at h
  rw [Bool.and_eq_true, Bool.and_eq_true, decide_eq_true_eq, decide_eq_true_eq] at h
  refine ⟨intText_digits (all_digits h.2) (fun z => ?_) (by omega), h.1.2⟩
  have h1 : 1 ≤ (tl x).length := by rw [← len_tl]; exact h.1.1
  have z2 : tl x = [] := z
  rw [z2] at h1
  exact absurd h1 (by decide)
def spReadCh : Sp := fun vs H Q _ => ∃ x : Str, vs = [.str x] ∧ TxtOk x ∧ (readCh x = none → ∀ H', Same H H' → Q .non H') ∧
  ∀ c, readCh x = some c → ∀ v H', Same H H' → TD H' v (.tuple [.str "do", chD c.1, stD c.2]) → Q v H'
section
variable {P : Program} {w : World} {K : PySem.W.Frag} {mg : Str → Option Value} {base : Heap} {sA : Addr}
theorem ok_readCh {f fC fS : Addr} {fd fdC fdS : FuncData} (F : Fun K "read_choice" "read_choice" sReadCh f fd) (T : NatR mg)
    (GC : FnOk P w K mg base CX0 3 fC fdC ["words"] (spChoice K)) (gC : mg "choice_of" = some (.ref fC)) (kC : PySem.W.keepIn K (.ref fC) = true) (bC : Binds K fdC ["words"] [])
    (GS : FnOk P w K mg base CX0 2 fS fdS ["word"] (spLook shortNum)) (gS : mg "is_short_number" = some (.ref fS)) (kS : PySem.W.keepIn K (.ref fS) = true) (bS : Binds K fdS ["word"] []) :
    FnOk P w K mg base CX0 4 f fd ["line"] spReadCh := by
  refine F.ok scReadCh (fun vs H Q E h => ?_) (fun cdv A outer s H vs Q E hr h => ?_)
  · obtain ⟨x, rfl, _⟩ := h
    rfl
  · obtain ⟨x, rfl, hx, qn, qs⟩ := h
    have hr1 : Room 2 _ := hr.mono (by decide)
    refine ⟨_, pss_cons (ps_set (i := 1) scReadCh.nd rfl (Or.inl rfl) (pe_split (pv 0) pe_str))
      (pss_cons (ps_set (i := 2) scReadCh.nd rfl (Or.inl rfl) pe_non)
      (pss_cons (ps_if (PW.pt (pw_and (pt_cmpR op_gt (pe_callB call_len_seq (by rfl) T.len PySem.boot_len (pa_cons (pv 1) pa_nil)) pe_int (nomark _))
          (pw_and (pt_cmpR op_eq (pe_ix ix_list (pv 1) (pe_un un_neg pe_int) (fun _ _ => rfl)) pe_str (nomark _))
          (pw_and1 (pt_val (pe_call GS hr1 (by rfl) gS kS bS .nil pass0 (pa_cons (pe_ix ix_list (pv 1) (pe_un un_neg pe_int) (fun _ _ => rfl)) pa_nil)))))))
        (pss_cons (ps_set (i := 2) scReadCh.nd rfl (Or.inl rfl) (pe_callTy call_int_str (by rfl) T.int (by decide +kernel) (pa_cons (pe_ix ix_list (pv 1) (pe_un un_neg pe_int) (fun _ _ => rfl)) pa_nil)))
        (pss_one (ps_set (i := 1) scReadCh.nd rfl (Or.inl rfl) (pe_slice sl_list (pv 1) po_none (po_some (pe_un un_neg pe_int)))))) pss_nil)
      (pss_cons (ps_set (i := 3) scReadCh.nd rfl (Or.inl rfl) (pe_call GC hr (by rfl) gC kC bC .nil pass0 (pa_cons (pv 1) pa_nil)))
      (pss_one (ps_ret (pe_ifExp (pt_cmpR op_isN (pv 3) pe_non (nomark _)) pe_non (pe_tup (pa_cons pe_str (pa_cons (pv 3) (pa_cons (pv 2) pa_nil)))))))))), ?_⟩
    unfold readCh readWs at qn qs
    have ok2 := split_ok hx " "
    have sp1 := split_pos x " "
    generalize hws : Txt.split x " " = ws at qn qs ok2 sp1
    refine seq_go ⟨_, rfl, ⟨_, rfl⟩, _, _, rfl, rfl, by decide, szI (by have := hx.1; omega), fun p np => ?_⟩
    have s1 := same_new (o := .lst (ws.map V.str)) np
    rw [hws]
    have hw : Words K (upd H p (.lst (ws.map V.str))) p ws := ⟨.inl (.inl upd_same), ok2.1, ok2.2⟩
    generalize upd H p (.lst (ws.map V.str)) = H1 at s1 hw ⊢
    refine name_go ?_
    dsimp only
    refine seq_go ?_
    refine name_go ?_
    dsimp only
    -- the last two statements
    have last : ∀ (a : Addr) (us : List Str) (st : Option Nat) (u : V) (H2 : Hp), cutStop ws = (us, st) → Same H1 H2 → Words K H2 a us → 1 ≤ us.length → TD H2 u (stD st) →
        tSeq (tAsg (tCall (spChoice K) [] E0 (tCons (tVar 1) tNil)) (gName 3)) (tRet (tIf (tTest (tOp (fun x y H Q => y = V.non ∧ Q (V.bl (decide (x = V.non))) H) (tVar 3) (tC V.non))) (tC .non) (tTup (tCons (tC (.str "do")) (tCons (tVar 3) (tCons (tVar 2) tNil))))))
          { nx := fun _ H' => Q .non H', rt := Q } [some (.str x), some (.ref a), some u, none] H2 := by
      intro a us st u H2 e s2 w2 l1 tu
      rw [e] at qn qs
      refine seq_go ⟨_, rfl, a, us, rfl, w2, l1, fun en H3 s3 => ?_, fun c ec v H3 s3 tv => ?_⟩
      · refine name_go ?_
        dsimp only
        refine ⟨_, rfl, rfl, _, rfl, ite2 (fun _ => ?_) fun z => absurd rfl z⟩
        refine qn ?_ H3 (s1.trans (s2.trans s3))
        rw [en]
        rfl
      · refine name_go ?_
        dsimp only
        have nn : v ≠ .non := by
          cases c <;> unfold chD at tv
          · obtain ⟨_, _, _, e, _⟩ := td_two tv
            rw [e]
            exact fun z => nomatch z
          · obtain ⟨_, _, _, e, _⟩ := td_two tv
            rw [e]
            exact fun z => nomatch z
          · obtain ⟨_, _, e, _⟩ := td_one tv
            rw [e]
            exact fun z => nomatch z
        refine ⟨_, rfl, rfl, _, rfl, ite2 (fun z => absurd (of_decide_eq_true z) nn) fun _ => ?_⟩
        refine ⟨_, rfl, _, rfl, (by show 3 ≤ sizeLine; decide), fun t nt => ?_⟩
        have s4 := same_new (o := .tup [V.str ("do" : Str), v, u]) nt
        refine qs (c, st) (by rw [ec]; rfl) _ _ (s1.trans (s2.trans (s3.trans s4))) (td_of upd_same ?_)
        unfold TDs
        exact ⟨td_s, tds_two (tv.keep (Same.tk s4)) ((tu.keep (Same.tk s3)).keep (Same.tk s4))⟩
    have nl : ws.length ≤ 20002 := hw.2.1
    refine seq_go (ifs_go (and_all (decide (2 < ws.length)) ((wPre ws == ("stop" : Str)) && shortNum (wEnd ws)) (fun R k => test_go (op_go ⟨_, rfl, p, _, rfl, .inl hw.1, _, _, rfl, rfl, _, rfl, ?_⟩))
      (fun e H2 R s2 k => and_all (wPre ws == ("stop" : Str)) (shortNum (wEnd ws)) (fun R2 k2 => test_go (op_go ⟨_, rfl, _, rfl, p, _, _, .str (wPre ws), rfl, rfl, (hw.same s2).1, ?_⟩)) (fun e2 H3 R2 s3 k2 => val_go ⟨_, rfl, _, rfl, p, _, _, .str (wEnd ws), rfl, rfl, ((hw.same s2).same s3).1, ?_⟩) fun H3 s3 => k H3 s3) fun H2 s2 => ite2 (fun c => ?_) fun c => ?_))
    · rw [List.length_map]
      have e2 : decide ((ws.length : Int) > 2) = decide (2 < ws.length) := by
        by_cases h : 2 < ws.length
        · rw [decide_eq_true h]
          exact decide_eq_true (by omega)
        · rw [decide_eq_false h]
          exact decide_eq_false (by omega)
      have k2 := k H1 (Same.refl H1)
      rw [← e2] at k2
      exact k2
    · have l := of_decide_eq_true e
      refine ⟨get_end (k := 2) (by decide) (by omega), rfl, _, rfl, ?_⟩
      rw [dec_str]
      exact k2 H2 (Same.refl H2)
    · have l := of_decide_eq_true e
      refine ⟨get_end (k := 1) (by decide) (by omega), _, rfl, (hw.2.2 _ (getD_mem' (by omega))).1, fun H4 s4 => ⟨_, rfl, k2 H4 s4⟩⟩
    · rw [Bool.and_eq_true, Bool.and_eq_true] at c
      have l := of_decide_eq_true c.1
      have w2 := hw.same s2
      obtain ⟨i1, i2⟩ := int_of (short_dig c.2.2)
      have ce : cutStop ws = (ws.take (ws.length - 2), some (valOf (wEnd ws))) := by
        unfold cutStop hasStop
        rw [c.1, c.2.1, c.2.2]
        rfl
      refine seq_go ?_
      refine ⟨_, rfl, _, rfl, p, _, _, .str (wEnd ws), rfl, rfl, w2.1, get_end (k := 1) (by decide) (by omega), _, _, rfl, i1, by omega, ?_⟩
      refine name_go ?_
      dsimp only
      refine ⟨_, rfl, _, rfl, _, rfl, p, _, rfl, w2.1, fun n hn => ?_⟩
      have w3 := w2.cut hn none (some (-2))
      rw [cut_end l] at w3
      refine last n _ (some (valOf (wEnd ws))) _ _ ce (s2.trans (same_new hn)) w3 (by rw [List.length_take]; omega) td_i
    · have ce : cutStop ws = (ws, none) := by
        unfold cutStop hasStop
        rw [if_neg]
        rw [Bool.and_assoc]
        exact c
      exact last p ws none _ _ ce s2 (hw.same s2) sp1 td_n
end
end Sc

set_option maxRecDepth 100000
set_option maxHeartbeats 1000000
namespace Sc
open PySem L2 PySem.Spec PyProof.Rows TL
/-! ### what was read is small -/
def okS (x : Str) : Bool := decide (x.length ≤ 8) && PyData.strOk x
def fineCh : Ch → Bool
  | .beg p w => okS p && okS w
  | .at t => okS t
  | .one w => okS w
def fineSt : Option Nat → Bool
  | none => true
  | some n => decide (n ≤ 9999)
def fineItem (c : Item) : Bool := fineCh c.1 && fineSt c.2
theorem spelled_ok {x : Str} (h : spelled x = true) : okS x = true := by
  unfold spelled at h
  rw [Bool.and_eq_true, Bool.and_eq_true, decide_eq_true_eq, decide_eq_true_eq] at h
  unfold okS
  rw [Bool.and_eq_true, decide_eq_true_eq]
  refine ⟨by omega, strOk_iff.mpr fun c hc => ?_⟩
  have h1 : c ∈ letters.cps.toList := of_decide_eq_true (List.all_eq_true.mp h.2 c hc)
  have e : letters.cps.toList.all (fun c => decide (c < 0x110000)) = true := by decide
  exact of_decide_eq_true (List.all_eq_true.mp e c h1)
theorem steps_ok : stepWords.all okS = true := by decide +kernel
theorem step_ok {x : Str} (h : stepWords.contains x = true) : okS x = true := List.all_eq_true.mp steps_ok x (List.contains_iff_mem.mp h)
theorem single_ok {ws : List Str} (h : single ws = true) : okS (w0 ws) = true := by
  unfold single at h
  rw [Bool.or_eq_true, Bool.or_eq_true, beq_iff_eq, beq_iff_eq, beq_iff_eq] at h
  rcases h with (h | h) | h <;> rw [h] <;> decide +kernel
theorem choice_fine {ws : List Str} {c : Ch} (h : choiceOf ws = some c) : fineCh c = true := by
  unfold choiceOf at h
  by_cases h1 : single ws = true
  · rw [if_pos h1] at h
    cases h
    exact single_ok h1
  rw [if_neg h1] at h
  by_cases h2 : ((w0 ws == ("at" : Str)) && areNames (ws.drop 1) 1) = true
  · rw [if_pos h2] at h
    cases h
    have h3 := (Bool.and_eq_true_iff.mp h2).2
    unfold areNames at h3
    rw [Bool.and_eq_true, beq_iff_eq] at h3
    match ws, h3 with
    | [a, b], h3 =>
      have h4 : (spelled b && true) = true := h3.2
      exact spelled_ok (Bool.and_eq_true_iff.mp h4).1
    | [], h3 => exact absurd h3.1 (by decide)
    | [_], h3 => exact absurd h3.1 (by simp)
    | _ :: _ :: _ :: _, h3 => exact absurd h3.1 (by simp)
  rw [if_neg h2] at h
  by_cases h3 : ((w0 ws == ("begin" : Str)) && ws.length == 2) = true
  · rw [if_pos h3] at h
    unfold begOf at h
    dsimp only at h
    split at h
    · rename_i h4
      cases h
      rw [Bool.and_eq_true, Bool.and_eq_true] at h4
      show (okS _ && okS _) = true
      rw [spelled_ok h4.1.2, step_ok h4.2]
      rfl
    · cases h
  · rw [if_neg h3] at h
    cases h
theorem digits_lt : ∀ (l : List Nat) (a : Nat), (∀ c ∈ l, 48 ≤ c ∧ c ≤ 57) → l.foldl (fun acc c => acc * 10 + (c - 48)) a < (a + 1) * 10 ^ l.length
  | [], a, _ => by simp
  | c :: r, a, h => by
    have h1 := h c (by simp)
    have h2 := digits_lt r (a * 10 + (c - 48)) fun x hx => h x (List.mem_cons_of_mem _ hx)
    rw [List.foldl_cons, List.length_cons, Nat.pow_succ]
    refine Nat.lt_of_lt_of_le h2 ?_
    have h3 : a * 10 + (c - 48) + 1 ≤ (a + 1) * 10 := by omega
    have h4 := Nat.mul_le_mul_right (10 ^ r.length) h3
    rw [Nat.mul_assoc, Nat.mul_comm 10] at h4
    exact h4
theorem val_le {x : Str} (h : lawDigits x = true) : valOf x ≤ 9999 := by
  unfold lawDigits at h
  rw [Bool.and_eq_true, Bool.and_eq_true, decide_eq_true_eq, decide_eq_true_eq] at h
  have h1 := digits_lt (tl x) 0 (all_digits h.2)
  have h2 : (tl x).length ≤ 4 := by rw [← len_tl]; exact h.1.2
  have h3 : 10 ^ (tl x).length ≤ 10 ^ 4 := Nat.pow_le_pow_right (by decide) h2
  have h4 : valOf x = (tl x).foldl (fun acc c => acc * 10 + (c - 48)) 0 := rfl
  have h5 : (10 : Nat) ^ 4 = 10000 := by decide
  omega
theorem read_fine {x : Str} {c : Item} (h : readCh x = some c) : fineItem c = true := by
  unfold readCh readWs at h
  generalize Txt.split x " " = ws at h
  obtain ⟨d, h1, h2⟩ := Option.map_eq_some_iff.mp h
  subst h2
  show (fineCh d && fineSt (cutStop ws).2) = true
  rw [choice_fine h1, Bool.true_and]
  unfold cutStop
  by_cases h3 : (hasStop ws && shortNum (wEnd ws)) = true
  · rw [if_pos h3]
    exact decide_eq_true (val_le (short_dig (Bool.and_eq_true_iff.mp h3).2))
  · rw [if_neg h3]
    rfl
theorem run_fine {x : Str} {r : List Item} (h : readRun x = some r) : ∀ c ∈ r, fineItem c = true := by
  unfold readRun at h
  split at h
  · cases h
    exact fun c hc => nomatch hc
  · split at h
    · cases h
      intro c hc
      obtain ⟨p, _, hp⟩ := List.mem_filterMap.mp hc
      exact read_fine hp
    · cases h
theorem run_len' {x : Str} (hx : TxtOk x) {r : List Item} (h : readRun x = some r) : r.length ≤ 20002 := by
  unfold readRun at h
  split at h
  · cases h
    exact Nat.zero_le _
  · split at h
    · cases h
      exact Nat.le_trans (List.length_filterMap_le _ _) (split_ok hx _).1
    · cases h
/-! ### the data of what was read -/
theorem okS_lay {x : Str} (h : okS x = true) : PyData.canLay0 (.str x) = true := (Bool.and_eq_true_iff.mp h).2
theorem ch_lay {c : Ch} (h : fineCh c = true) : PyData.canLay0 (chD c) = true ∧ (chD c).depth ≤ 2 ∧ (chD c).showable = true := by
  cases c with
  | beg p w =>
    have h := Bool.and_eq_true_iff.mp h
    refine ⟨?_, by simp [chD, PyData.depth, PyData.depthAll], by simp [chD, PyData.showable, PyData.showableAll]⟩
    show (PyData.canLay0 (.str "begin") && (((PyData.canLay0 (.str p) && (PyData.canLay0 (.str w) && true))) && true)) = true
    rw [okS_lay h.1, okS_lay h.2]
    decide +kernel
  | «at» t =>
    refine ⟨?_, by simp [chD, PyData.depth, PyData.depthAll], by simp [chD, PyData.showable, PyData.showableAll]⟩
    show (PyData.canLay0 (.str "at") && (PyData.canLay0 (.str t) && true)) = true
    rw [okS_lay h]
    decide +kernel
  | one w =>
    refine ⟨?_, by simp [chD, PyData.depth, PyData.depthAll], by simp [chD, PyData.showable, PyData.showableAll]⟩
    show (PyData.canLay0 (.str w) && true) = true
    rw [okS_lay h]
    rfl
theorem st_lay {s : Option Nat} (h : fineSt s = true) : PyData.canLay0 (stD s) = true ∧ (stD s).depth = 0 ∧ (stD s).showable = true := by
  cases s with
  | none => exact ⟨rfl, rfl, rfl⟩
  | some n => exact ⟨rfl, rfl, decide_eq_true (nine_log (of_decide_eq_true h))⟩
theorem it_lay {c : Item} (h : fineItem c = true) : PyData.canLay0 (itD c) = true ∧ (itD c).depth ≤ 3 ∧ (itD c).showable = true := by
  have h := Bool.and_eq_true_iff.mp h
  obtain ⟨a1, a2, a3⟩ := ch_lay h.1
  obtain ⟨b1, b2, b3⟩ := st_lay h.2
  refine ⟨?_, ?_, ?_⟩
  · show (PyData.canLay0 (chD c.1) && (PyData.canLay0 (stD c.2) && true)) = true
    rw [a1, b1]
    rfl
  · unfold itD
    simp only [PyData.depth, PyData.depthAll]
    omega
  · show (PyData.showable (chD c.1) && (PyData.showable (stD c.2) && true)) = true
    rw [a3, b3]
    rfl
def optD : Option Item → PyData
  | none => .none
  | some c => .tuple [.str "do", chD c.1, stD c.2]
def fineOpt : Option Item → Bool
  | none => true
  | some c => fineItem c
theorem opt_lay {o : Option Item} (h : fineOpt o = true) : PyData.canLay0 (optD o) = true ∧ (optD o).depth ≤ 3 := by
  cases o with
  | none => exact ⟨rfl, by simp [optD, PyData.depth]⟩
  | some c =>
    have h : fineItem c = true := h
    have h := Bool.and_eq_true_iff.mp h
    obtain ⟨a1, a2, a3⟩ := ch_lay h.1
    obtain ⟨b1, b2, b3⟩ := st_lay h.2
    refine ⟨?_, ?_⟩
    · show (PyData.canLay0 (.str "do") && (PyData.canLay0 (chD c.1) && (PyData.canLay0 (stD c.2) && true))) = true
      rw [a1, b1]
      decide +kernel
    · unfold optD
      simp only [PyData.depth, PyData.depthAll]
      omega
theorem all_lay {α : Type} (f : α → PyData) : ∀ l : List α, (∀ x ∈ l, PyData.canLay0 (f x) = true ∧ (f x).depth ≤ 3) → PyData.canLayAll0 (l.map f) = true ∧ PyData.depthAll (l.map f) ≤ 3
  | [], _ => ⟨rfl, by simp [PyData.depthAll]⟩
  | x :: r, h => by
    obtain ⟨h1, h2⟩ := h x (by simp)
    obtain ⟨h3, h4⟩ := all_lay f r fun y hy => h y (List.mem_cons_of_mem _ hy)
    refine ⟨?_, ?_⟩
    · show (PyData.canLay0 (f x) && PyData.canLayAll0 (r.map f)) = true
      rw [h1, h3]
      rfl
    · rw [List.map_cons]
      simp only [PyData.depthAll]
      omega
theorem deeds_shaped {l : List (Option Item)} (h : ∀ o ∈ l, fineOpt o = true) : SeqAt.shaped (.list (l.map optD)) = true := by
  obtain ⟨h1, h2⟩ := all_lay optD l fun o ho => opt_lay (h o ho)
  show (PyData.canLay0 (.list (l.map optD)) && decide ((PyData.list (l.map optD)).depth ≤ 64)) = true
  rw [show PyData.canLay0 (.list (l.map optD)) = true from h1, decide_eq_true (by simp only [PyData.depth]; omega)]
  rfl
theorem run_shaped {r : List Item} (h : ∀ c ∈ r, fineItem c = true) : SeqAt.shaped (runD r) = true := by
  obtain ⟨h1, h2⟩ := all_lay itD r fun c hc => ⟨(it_lay (h c hc)).1, (it_lay (h c hc)).2.1⟩
  show (PyData.canLay0 (.tuple (r.map itD)) && decide ((PyData.tuple (r.map itD)).depth ≤ 64)) = true
  rw [show PyData.canLay0 (.tuple (r.map itD)) = true from h1, decide_eq_true (by simp only [PyData.depth]; omega)]
  rfl
/-! ### how long their repr is -/
theorem tuple_shown (B : Nat) (ds : List PyData) (h : ∀ d ∈ ds, d.shown.length ≤ B) : (PyData.tuple ds).shown.length ≤ 3 + ds.length * (B + 2) := by
  rw [PyData.shown_tuple, shownAll_eq_map, len_app, len_app, ← join_eq]
  have h1 := join_len ", " (ds.map PyData.shown)
  have h2 := sum_le (n := B) (ls := (ds.map PyData.shown).map (·.length)) (by
    intro l hl
    rw [List.map_map] at hl
    obtain ⟨d, hd, rfl⟩ := List.mem_map.mp hl
    exact h d hd)
  rw [List.length_map, List.length_map] at h2
  rw [List.length_map] at h1
  have e1 : (", " : Str).length = 2 := by decide
  have e2 : (Str.ofString "(").length = 1 := by decide
  have e3 : (Str.ofString (if (ds.length == 1) = true then ",)" else ")")).length ≤ 2 := by
    split <;> decide
  rw [e1] at h1
  rw [Nat.mul_add]
  have e4 : (", " : Str) = Str.ofString ", " := rfl
  rw [e4] at h1
  omega
theorem str_shown {x : Str} (h : okS x = true) : (PyData.str x).shown.length ≤ 82 := by
  have h := Bool.and_eq_true_iff.mp h
  have h1 := of_decide_eq_true h.1
  have h2 := StrLaws.reprText_len x fun c hc => Nat.lt_trans (strOk_iff.mp h.2 c hc) (by decide)
  have e : (PyData.str x).shown = reprText x := by simp only [PyData.shown]
  rw [e]
  omega
theorem ch_shown {c : Ch} (h : fineCh c = true) : (chD c).shown.length ≤ 349 := by
  have sm : ∀ x : Str, okS x = true → (PyData.str x).shown.length ≤ 82 := fun x hx => str_shown hx
  cases c with
  | beg p w =>
    have h := Bool.and_eq_true_iff.mp h
    have h1 := tuple_shown 82 [.str p, .str w] (by
      intro d hd
      simp at hd
      rcases hd with rfl | rfl
      · exact sm _ h.1
      · exact sm _ h.2)
    have h2 := tuple_shown 171 [.str "begin", .tuple [.str p, .str w]] (by
      intro d hd
      simp at hd
      rcases hd with rfl | rfl
      · exact Nat.le_trans (sm _ (by decide +kernel)) (by decide)
      · simp at h1
        omega)
    simp at h2
    show (PyData.tuple [.str "begin", .tuple [.str p, .str w]]).shown.length ≤ 349
    omega
  | «at» t =>
    have h2 := tuple_shown 82 [.str "at", .str t] (by
      intro d hd
      simp at hd
      rcases hd with rfl | rfl
      · exact sm _ (by decide +kernel)
      · exact sm _ h)
    simp at h2
    show (PyData.tuple [.str "at", .str t]).shown.length ≤ 349
    omega
  | one w =>
    have h2 := tuple_shown 82 [.str w] (by
      intro d hd
      simp at hd
      subst hd
      exact sm _ h)
    simp at h2
    show (PyData.tuple [.str w]).shown.length ≤ 349
    omega
theorem st_shown {s : Option Nat} (h : fineSt s = true) : (stD s).shown.length ≤ 10 := by
  cases s with
  | none => exact (by decide : (PyData.none).shown.length ≤ 10)
  | some n =>
    have h1 := num_len (of_decide_eq_true h)
    show (PyData.int (n : Nat)).shown.length ≤ 10
    have e : (PyData.int (n : Nat)).shown = numT n := by
      simp only [PyData.shown]
      rfl
    rw [e]
    omega
theorem run_fits {r : List Item} (h : ∀ c ∈ r, fineItem c = true) (hl : r.length ≤ 20002) : Fits (runD r) := by
  have sh : ∀ l : List Item, (∀ c ∈ l, fineItem c = true) → PyData.showableAll (l.map itD) = true := by
    intro l
    induction l with
    | nil => exact fun _ => rfl
    | cons c l ih =>
      intro hc
      show (PyData.showable (itD c) && PyData.showableAll (l.map itD)) = true
      rw [(it_lay (hc c (by simp))).2.2, ih fun x hx => hc x (List.mem_cons_of_mem _ hx)]
      rfl
  refine ⟨sh r h, ?_, ?_⟩
  · have h2 := (all_lay itD r fun c hc => ⟨(it_lay (h c hc)).1, (it_lay (h c hc)).2.1⟩).2
    show (PyData.tuple (r.map itD)).depth ≤ 34
    simp only [PyData.depth]
    omega
  · have h1 := tuple_shown 705 (r.map itD) (by
      intro d hd
      obtain ⟨c, hc, rfl⟩ := List.mem_map.mp hd
      have hc := Bool.and_eq_true_iff.mp (h c hc)
      have h2 := tuple_shown 349 [chD c.1, stD c.2] (by
        intro d hd
        simp at hd
        rcases hd with rfl | rfl
        · exact ch_shown hc.1
        · exact Nat.le_trans (st_shown hc.2) (by decide))
      simp at h2
      show (PyData.tuple [chD c.1, stD c.2]).shown.length ≤ 705
      omega)
    rw [List.length_map] at h1
    show (PyData.tuple (r.map itD)).shown.length ≤ sizeLine
    rw [sizeLine_eq]
    omega
theorem run_depth {r : List Item} (h : ∀ c ∈ r, fineItem c = true) : (runD r).depth ≤ 4 := by
  have h2 := (all_lay itD r fun c hc => ⟨(it_lay (h c hc)).1, (it_lay (h c hc)).2.1⟩).2
  show (PyData.tuple (r.map itD)).depth ≤ 4
  simp only [PyData.depth]
  omega
theorem run_nodict {r : List Item} (h : ∀ c ∈ r, fineItem c = true) : (runD r).hasDict = false := PyData.hasDict_of_canLay _ (SeqAt.canLay_of_shaped (run_shaped h))
end Sc

set_option maxRecDepth 100000
set_option maxHeartbeats 1000000
namespace Sc
open PySem L2 PySem.Spec PyProof.Rows TL
abbrev sShowWords : Stmt := top 17
abbrev sShowRun : Stmt := top 18
abbrev sReadRun : Stmt := top 19
theorem scShowWords : FnScope ["words"] ["words"] (defScope sShowWords) := ⟨rfl, rfl, rfl, by decide +kernel, rfl, by decide +kernel, by decide +kernel⟩
theorem scShowRun : FnScope ["run", "choice", "stop"] ["run"] (defScope sShowRun) := ⟨rfl, rfl, rfl, by decide +kernel, rfl, by decide +kernel, by decide +kernel⟩
theorem scReadRun : FnScope ["text", "deeds", "part", "_", "choice", "stop"] ["text"] (defScope sReadRun) := ⟨rfl, rfl, rfl, by decide +kernel, rfl, by decide +kernel, by decide +kernel⟩
def spShowWords : Sp := fun vs H Q _ => ∃ (v : V) (ws : List Str), vs = [v] ∧ TD H v (.tuple (ws.map .str)) ∧ (ws.map (·.length)).sum + ws.length ≤ 10000 ∧ Q (.str (Txt.join " " ws)) H
theorem tds_strs {H : Hp} : ∀ {vs : List V} {ws : List Str}, TDs H vs (ws.map .str) → vs = ws.map V.str
  | [], [], _ => rfl
  | v :: vs, w :: ws, h => by
    rw [List.map_cons] at h
    unfold TDs at h
    rw [List.map_cons, td_str h.1, tds_strs h.2]
  | [], _ :: _, h => by rw [List.map_cons] at h; unfold TDs at h; exact h.elim
  | _ :: _, [], h => by rw [List.map_nil] at h; unfold TDs at h; exact h.elim
theorem map_at {α : Type} {f : α → PyData} {l : List α} {i : Nat} {d : PyData} (h : (l.map f)[i]? = some d) : ∃ x, l[i]? = some x ∧ x ∈ l ∧ d = f x := by
  rw [List.getElem?_map] at h
  obtain ⟨x, h1, h2⟩ := Option.map_eq_some_iff.mp h
  exact ⟨x, h1, List.mem_of_getElem? h1, h2.symm⟩
/-- [text of (choice, stop) for choice, stop in run] -/
theorem texts_go {K : PySem.W.Frag} {te : TE} {vs : List Nat} {k i j : Nat} {σ : L2.St} {H : Hp} {Q : VK} {v : V} {r : List Item} (hv : TD H v (runD r)) (hk : σ[k]? = some (some v)) (hz : r.length ≤ 100000)
    (hi : ∀ u x, wipe (((wipe σ vs).set i (some u)).set j (some x)) vs = wipe σ vs)
    (hs : ∀ (c : Item) (u x : V) (H' : Hp), c ∈ r → TD H' u (chD c.1) → TD H' x (stD c.2) → Elt te (((wipe σ vs).set i (some u)).set j (some x)) H' (.str (showCh c)))
    (hd : ∀ D H', Same H H' → H' D = some (.lst ((r.map showCh).map V.str)) → Q (.ref D) H') :
    tLc (iTup K (tVar k)) (gTup K 2 (gCons (gName i) (gCons (gName j) gNil))) tYes te vs σ H Q := by
  unfold runD TD at hv
  obtain ⟨a, xs, rfl, ha, hx⟩ := hv
  have hl := hx.len
  rw [List.length_map] at hl
  refine ⟨_, hk, a, rfl, ⟨_, SqT.of ha⟩, fun D hn => lc_tup (xs := xs) (fun n H' => Same H H' ∧ H' D = some (.lst (((r.take n).map showCh).map V.str))) ⟨same_new hn, by rw [upd_same, List.take_zero]; rfl⟩ (fun n H' _ p => SqT.of (p.1 _ _ ha)) (fun n x H' hxn p => ?_) fun H' p => ?_⟩
  · obtain ⟨s1, hD⟩ := p
    obtain ⟨d, hd1, hd2⟩ := hx.get hxn
    obtain ⟨c, hc, hm, rfl⟩ := map_at hd1
    have hd3 := hd2.keep (Same.tk s1)
    unfold itD at hd3
    obtain ⟨b, u, y, rfl, hb, hu, hy⟩ := td_two hd3
    have hn' := (List.getElem?_eq_some_iff.mp hc).1
    refine ⟨b, [u, y], rfl, SqT.of hb, rfl, u, [y], rfl, y, [], rfl, rfl, hi _ _, ?_⟩
    refine hs c u y H' hm hu hy _ fun H4 s4 => ⟨_, s4 _ _ hD, ?_, same_fill hn (s1.trans s4), ?_⟩
    · rw [List.length_map, List.length_map, List.length_take, sizeLine_eq]
      omega
    · rw [upd_same, List.take_succ_eq_append_getElem hn', List.map_append, List.map_append, (List.getElem?_eq_some_iff.mp hc).2]
      rfl
  · obtain ⟨s1, hD⟩ := p
    refine hd D H' s1 ?_
    rw [hD, hl, List.take_length]
def spShowRun : Sp := fun vs H Q _ => ∃ (v : V) (r : List Item), vs = [v] ∧ TD H v (runD r) ∧ r.length ≤ 6 ∧ (∀ c ∈ r, plainItem c = true ∧ goodItem c = true) ∧ ∀ H', Same H H' → Q (.str (showRun r)) H'
theorem joined_ok {r : List Item} (h : ∀ c ∈ r, goodItem c = true) (hl : r.length ≤ 6) : ((r.map showCh).map (·.length)).sum + (r.map showCh).length * (", " : Str).length ≤ 16777216 := by
  have h2 := sum_le (n := 40) (ls := (r.map showCh).map (·.length)) (by
    intro l hl
    rw [List.map_map] at hl
    obtain ⟨c, hc, rfl⟩ := List.mem_map.mp hl
    exact show_short (h c hc))
  rw [List.length_map, List.length_map] at h2
  have e : (", " : Str).length = 2 := by decide
  rw [List.length_map, e]
  omega
section
variable {P : Program} {w : World} {K : PySem.W.Frag} {mg : Str → Option Value} {base : Heap} {sA : Addr}
theorem ok_showWords {f : Addr} {fd : FuncData} (F : Fun K "show_words" "show_words" sShowWords f fd) : FnOk P w K mg base CX0 1 f fd ["words"] spShowWords := by
  refine F.ok scShowWords (fun vs H Q E h => ?_) (fun cdv A outer s H vs Q E hr h => ?_)
  · obtain ⟨v, ws, rfl, _⟩ := h
    rfl
  · obtain ⟨v, ws, rfl, hv, hs, q⟩ := h
    refine ⟨_, pss_one (ps_ret (pe_join pe_str (pv 0))), ?_⟩
    unfold TD at hv
    obtain ⟨a, xs, rfl, ha, hx⟩ := hv
    rw [tds_strs hx] at ha
    refine ⟨⟨_, rfl⟩, _, rfl, _, a, ws, rfl, rfl, .inr (SqT.of ha), ?_, q⟩
    have e : (" " : Str).length = 1 := by decide
    rw [e]
    omega
theorem ok_showRun {f fC : Addr} {fd fdC : FuncData} (F : Fun K "show_run" "show_run" sShowRun f fd) (GC : FnOk P w K mg base CX0 2 fC fdC ["choice", "stop"] spChText) (gC : mg "choice_text" = some (.ref fC)) (kC : PySem.W.keepIn K (.ref fC) = true) (bC : Binds K fdC ["choice", "stop"] []) :
    FnOk P w K mg base CX0 3 f fd ["run"] spShowRun := by
  refine F.ok scShowRun (fun vs H Q E h => ?_) (fun cdv A outer s H vs Q E hr h => ?_)
  · obtain ⟨v, r, rfl, _⟩ := h
    rfl
  · obtain ⟨v, r, rfl, hv, hl, hg, q⟩ := h
    refine ⟨_, pss_cons (ps_if (pt_not (pt_truth (pv 0) (by intro _; rfl))) (pss_one (ps_ret pe_str)) pss_nil)
      (pss_one (ps_ret (pe_join pe_str (pe_lc (own := [("choice", 1), ("stop", 2)]) (g := gTup K 2 (gCons (gName 1) (gCons (gName 2) gNil))) (tt := tYes) rfl scShowRun.nd (pi_tup (pv 0)) (blkOk_by (own := [("choice", 1), ("stop", 2)]) (N := ["run", "choice", "stop"]) (sc := defScope sShowRun) (by decide +kernel))
        (fun _ _ _ _ _ => pg_tup rfl (pgs_cons (pg_name (i := 1) scShowRun.nd rfl (Or.inl rfl)) (pgs_cons (pg_name (i := 2) scShowRun.nd rfl (Or.inl rfl)) pgs_nil))) (fun _ _ _ _ _ => pts_nil) (fun _ _ _ _ _ => pe_call GC hr (by rfl) gC kC bC .nil pass0 (pa_cons (pv 1) (pa_cons (pv 2) pa_nil))))))), ?_⟩
    have hv0 := hv
    unfold runD TD at hv0
    obtain ⟨a, xs, rfl, ha, hx⟩ := hv0
    have hlen := hx.len
    rw [List.length_map] at hlen
    have em : xs.isEmpty = r.isEmpty := by
      cases xs <;> cases r <;> simp at hlen ⊢
    refine seq_go (ifs_go (not_go ⟨_, rfl, !xs.isEmpty, .inr (.inl ⟨xs, SqT.of ha, rfl⟩), ?_⟩))
    dsimp only
    rw [em, Bool.not_not]
    refine ite2 (fun c => ?_) fun c => ?_
    · have q1 := q H (Same.refl H)
      unfold showRun at q1
      rw [if_pos c] at q1
      exact q1
    · have q1 := q
      unfold showRun at q1
      simp only [if_neg c] at q1
      refine ⟨⟨_, rfl⟩, texts_go hv rfl (by omega) (fun u x => rfl) (fun c u x H' hc hu hx R k => ⟨_, rfl, _, rfl, u, x, c, rfl, hu, hx, (hg c hc).1, k H' (Same.refl H')⟩) fun D H' s hD => ?_⟩
      exact ⟨_, D, r.map showCh, rfl, rfl, .inl (SqL.of hD), joined_ok (fun c hc => (hg c hc).2) hl, q1 H' s⟩
end
end Sc

set_option maxRecDepth 100000
set_option maxHeartbeats 1000000
namespace Sc
open PySem L2 PySem.Spec PyProof.Rows TL
theorem tk_lst {H : Hp} {D : Addr} {us : List V} {o : HO} (h : H D = some (.lst us)) : TupK H (upd H D o) := fun a xs e => by
  rw [upd_ne (ne_of e h (by intro z; cases z))]
  exact e
theorem td_three {H : Hp} {v : V} {d f g : PyData} (h : TD H v (.tuple [d, f, g])) : ∃ a x y z, v = .ref a ∧ H a = some (.tup [x, y, z]) ∧ TD H x d ∧ TD H y f ∧ TD H z g := by
  unfold TD at h
  obtain ⟨a, xs, e, h1, h2⟩ := h
  match xs, h2 with
  | [x, y, z], h2 =>
    unfold TDs TDs TDs at h2
    exact ⟨a, x, y, z, e, h1, h2.1, h2.2.1, h2.2.2.1⟩
  | [], h2 => unfold TDs at h2; exact h2.elim
  | [_], h2 => unfold TDs TDs at h2; exact h2.2.elim
  | [_, _], h2 => unfold TDs TDs TDs at h2; exact h2.2.2.elim
  | _ :: _ :: _ :: _ :: _, h2 => unfold TDs TDs TDs TDs at h2; exact h2.2.2.2.elim
theorem any_none : ∀ l : List (Option Item), ((l.map optD).any fun z => PyData.eqv z .none) = !(l.all Option.isSome)
  | [] => rfl
  | none :: r => rfl
  | some c :: r => by
    show (PyData.eqv (optD (some c)) .none || ((r.map optD).any fun z => PyData.eqv z .none)) = !(true && r.all Option.isSome)
    rw [any_none r, Bool.true_and]
    rfl
theorem all_some : ∀ {l : List (Option Item)}, l.all Option.isSome = true → l = (l.filterMap id).map some
  | [], _ => rfl
  | none :: r, h => absurd h (by simp)
  | some c :: r, h => by
    have h1 : r.all Option.isSome = true := by simpa using h
    have h2 := all_some h1
    show some c :: r = some c :: (r.filterMap id).map some
    rw [← h2]
/-- a value of another type than str -/
def NoText (K : PySem.W.Frag) (H : Hp) (v : V) : Prop := ∃ t, TyX K H v t ∧ PySem.W.kitOne K t (.type "str") = some false
/-- what is raised: the class's error with the very value -/
def Raised (C : Addr) (v : V) (H : Hp) (E : XK) : Prop := ∀ d H', Same H H' → H' d = some (.xd [(vName, v)]) → E (.ref C) (some d) H'
def spReadRun (K : PySem.W.Frag) (C : Addr) : Sp := fun vs H Q E => ∃ v : V, vs = [v] ∧
  ((∃ x, v = .str x ∧ TxtOk x ∧ (∀ r, readRun x = some r → ∀ u H', Same H H' → TD H' u (runD r) → Q u H') ∧ (readRun x = none → Raised C v H E)) ∨ (NoText K H v ∧ Raised C v H E))
/-- an error's class, with the promise of its creation, for a raise -/
structure ErrR (P : Program) (w : World) (K : PySem.W.Frag) (mg : Str → Option Value) (base : Heap) (S C fI : Addr) (fd : FuncData) (x : Str) : Prop where
  e : ErrK K mg S C fI x
  ok : FnOk P w K mg base CX0 1 fI fd ["self", "value"] (spErr K C)
  b : Binds K fd ["self", "value"] []
section
variable {X : Cx} {S C fI : Addr} {x : Str} {fd : FuncData} {e : Expr} {i : Nat} {p pos : Pos} {W : WX}
/-- raise C(e) -/
theorem ps_raiseE {rpos : Pos} (T : ErrR X.prog X.w X.K X.mg X.base S C fI fd x) (hc : X.calm = true) (hr : Room 2 X.A) (tk : Takes X W) (ha : PE X e (tVar i)) (hg : Gl X x := by rfl) (hdb : (x == ("__debug__" : Str)) = false := by decide)
    (he : starEach [e] X.env = (false, eval e X.env) :: starEach [] X.env := by rfl) (hpl : (backTo pos (starEach [] X.env)).any (·.1) = false := by rfl) :
    PS X (.Raise (some (.Call (.Name x p) [e] [] pos)) none rpos) (fun _ σ H => ∃ v, σ[i]? = some (some v) ∧ ∀ d H', Same H H' → H' d = some (.xd [(vName, v)]) → W (.ref C) (some d) σ H') := by
  have base := ps_raise (pos := rpos) hc tk (pmk_oex (p := p) (pos := pos) (CX := CX0) (dvs := []) (ds := []) T.e.oex T.e.iC T.e.tI T.ok hr T.b .nil (fun _ _ _ _ _ _ _ h => h.elim) hg T.e.gC (pa_cons ha pa_nil he) hdb he hpl)
  refine ⟨fun pins s σ H D I h => base.run pins s σ H D I ?_⟩
  obtain ⟨v, hv, q⟩ := h
  refine ⟨v, hv, (by show 1 ≤ 1000; decide), fun a ha => ?_⟩
  refine ⟨a, v, rfl, upd_same, fun dx h1 h2 => ?_⟩
  rw [upd_ne h2] at h1
  refine ⟨rfl, dx, [(vName, v)], upd_same, ?_, h1, q dx _ (fun b o hb => ?_) upd_same⟩
  · rw [upd_ne h2, upd_same]
  · have nb := ne_of_none hb ha
    have nd := ne_of_none hb h1
    rw [upd_ne nd]
    unfold del
    rw [if_neg nb, upd_ne nb, upd_ne nd, upd_ne nb]
    exact hb
theorem u65' {k : Nat} {A : Around} (r : Room k A) : A.units + 65 < cLine := u65 r
end
section
variable {P : Program} {w : World} {K : PySem.W.Frag} {mg : Str → Option Value} {base : Heap} {S C fI : Addr} {fdI : FuncData}
theorem ok_readRun {f fC : Addr} {fd fdC : FuncData} (F : Fun K "read_run" "read_run" sReadRun f fd) (T : NatR mg) (B : ErrR P w K mg base S C fI fdI "BadText")
    (GC : FnOk P w K mg base CX0 4 fC fdC ["line"] spReadCh) (gC : mg "read_choice" = some (.ref fC)) (kC : PySem.W.keepIn K (.ref fC) = true) (bC : Binds K fdC ["line"] []) :
    FnOk P w K mg base (L2.CX P w) 5 f fd ["text"] (spReadRun K C) := by
  refine F.okX scReadRun (fun vs H Q E h => ?_) (fun cdv A outer s H vs Q E hr h => ?_)
  · obtain ⟨v, rfl, _⟩ := h
    rfl
  · obtain ⟨v, rfl, h⟩ := h
    have hr2 : Room 2 _ := hr.mono (by decide)
    refine ⟨_, pss_cons (ps_if (pt_not (pt_val (pe_callB call_isi (by rfl) T.isi PyProof.Rows.boot_isinstance (pa_cons (pv 0) (pa_cons (pe_bltn (v := .ty "str") (by rfl) T.str (by decide +kernel) rfl) pa_nil)))))
        (pss_one (ps_raiseE (i := 0) B rfl hr2 (takes_of rfl rfl rfl rfl) (pv 0))) pss_nil)
      (pss_cons (ps_if (pt_cmpR op_eq (pv 0) pe_str (nomark _)) (pss_one (ps_ret (pe_tup pa_nil))) pss_nil)
      (pss_cons (ps_setLc (own := [("part", 2)]) (g := gName 2) (i := 1) (te := tCall spReadCh [] E0 (tCons (tVar 2) tNil)) rfl scReadRun.nd rfl rfl (sw_true rfl rfl rfl (by decide +kernel)) (pi_list (pe_split (pv 0) pe_str)) (blkOk_by (own := [("part", 2)]) (N := ["text", "deeds", "part", "_", "choice", "stop"]) (sc := defScope sReadRun) (by decide +kernel))
        (fun _ _ _ _ _ => pg_name (i := 2) scReadRun.nd rfl (Or.inl rfl)) (fun _ _ _ _ _ => pts_nil) (fun _ _ _ _ _ => pe_call GC hr (by rfl) gC kC bC .nil pass0 (pa_cons (pv 2) pa_nil)))
      (pss_cons (ps_if (pt_cmpR (op_inD (u65 hr)) pe_non (pv 1) (by rfl)) (pss_one (ps_raiseE (i := 0) B rfl hr2 (takes_of rfl rfl rfl rfl) (pv 0))) pss_nil)
      (pss_one (ps_ret (pe_callTy call_tuple_of (by rfl) T.tuple (by decide +kernel) (pa_cons
        (pe_lc (own := [("_", 3), ("choice", 4), ("stop", 5)]) (g := gTup K 3 (gCons (gName 3) (gCons (gName 4) (gCons (gName 5) gNil)))) (tt := tYes) rfl scReadRun.nd (pi_list (pv 1)) (blkOk_by (own := [("_", 3), ("choice", 4), ("stop", 5)]) (N := ["text", "deeds", "part", "_", "choice", "stop"]) (sc := defScope sReadRun) (by decide +kernel))
          (fun _ _ _ _ _ => pg_tup rfl (pgs_cons (pg_name (i := 3) scReadRun.nd rfl (Or.inl rfl)) (pgs_cons (pg_name (i := 4) scReadRun.nd rfl (Or.inl rfl)) (pgs_cons (pg_name (i := 5) scReadRun.nd rfl (Or.inl rfl)) pgs_nil)))) (fun _ _ _ _ _ => pts_nil) (fun _ _ _ _ _ => pe_tup (pa_cons (pv 4) (pa_cons (pv 5) pa_nil)))) pa_nil))))))), ?_⟩
    rcases h with ⟨x, rfl, hx, qs, qn⟩ | ⟨⟨t, ty, kit⟩, qn⟩
    rotate_left
    · refine seq_go (ifs_go (not_go (val_go ⟨_, rfl, v, .ty "str", t, .type "str", false, rfl, .ty _, ty, kit, _, rfl, ite2 (fun _ => ?_) fun z => absurd rfl z⟩)))
      exact ⟨_, rfl, fun d H' s e => qn d H' s e⟩
    refine seq_go (ifs_go (not_go (val_go ⟨_, rfl, .str x, .ty "str", .type "str", .type "str", true, rfl, .ty _, .base (.str _), kit_ty (by decide +kernel), _, rfl, ite2 (fun z => absurd z (by decide)) fun _ => ?_⟩)))
    refine next_go ?_
    dsimp only
    refine seq_go (ifs_go (test_go (op_go ⟨_, rfl, rfl, _, rfl, ?_⟩)))
    rw [dec_str]
    unfold readRun at qs qn
    refine ite2 (fun c => ?_) fun c => ?_
    · rw [if_pos c] at qs
      refine ⟨Nat.zero_le _, fun p hp => ?_⟩
      exact qs [] rfl _ _ (same_new hp) (td_of upd_same (by unfold TDs; exact True.intro))
    rw [if_neg c] at qs qn
    refine next_go ?_
    dsimp only
    have ok2 := split_ok hx ", "
    have fine : ∀ o ∈ (Txt.split x ", ").map readCh, fineOpt o = true := fun o ho => by
      obtain ⟨p, _, rfl⟩ := List.mem_map.mp ho
      cases e : readCh p with
      | none => rfl
      | some c => exact read_fine e
    have ef : (Txt.split x ", ").filterMap readCh = ((Txt.split x ", ").map readCh).filterMap id := by
      rw [List.filterMap_map]
      rfl
    rw [ef] at qs
    generalize hps : Txt.split x ", " = ps at qs qn ok2 fine
    refine seq_go ⟨_, rfl, ⟨_, rfl⟩, _, _, rfl, rfl, by decide, szI (by have := hx.1; omega), fun p np => ?_⟩
    have s1 := same_new (o := .lst (ps.map V.str)) np
    rw [hps]
    have hp : (upd H p (.lst (ps.map V.str))) p = some (.lst (ps.map V.str)) := upd_same
    generalize upd H p (.lst (ps.map V.str)) = H1 at s1 hp ⊢
    refine ⟨p, rfl, ⟨_, SqL.of hp⟩, fun D hD => lc_list (xs := ps.map V.str) (fun n H' => Same H1 H' ∧ ∃ us, H' D = some (.lst us) ∧ TDs H' us (((ps.take n).map readCh).map optD)) ⟨same_new hD, [], upd_same, by rw [List.take_zero]; unfold TDs; exact True.intro⟩
      (fun n H' _ q => SqL.of (q.1 _ _ hp)) (fun n y H' hy q => ?_) fun H' q => ?_⟩
    · obtain ⟨sq, us, hu, tu⟩ := q
      obtain ⟨part, hpt, rfl⟩ := map_get hy
      have hn' := (List.getElem?_eq_some_iff.mp hpt).1
      have et : ps.take (n + 1) = ps.take n ++ [part] := by
        rw [List.take_succ_eq_append_getElem hn', (List.getElem?_eq_some_iff.mp hpt).2]
      have lu := tu.len
      rw [List.length_map, List.length_map, List.length_take] at lu
      have go : ∀ (v : V) (H3 : Hp), Same H' H3 → TD H3 v (optD (readCh part)) → ∃ acc, H3 D = some (.lst acc) ∧ acc.length < sizeLine ∧ (Same H1 (upd H3 D (.lst (acc ++ [v]))) ∧ ∃ us, (upd H3 D (.lst (acc ++ [v]))) D = some (.lst us) ∧ TDs (upd H3 D (.lst (acc ++ [v]))) us (((ps.take (n + 1)).map readCh).map optD)) := by
        intro v H3 s3 tv
        have h3 := s3 _ _ hu
        refine ⟨us, h3, ?_, same_fill hD (sq.trans s3), us ++ [v], upd_same, ?_⟩
        · rw [sizeLine_eq]
          have := ok2.1
          omega
        · rw [et, List.map_append, List.map_append]
          exact ((tu.keep (Same.tk s3)).app (tds_one tv)).keep (tk_lst h3)
      refine ⟨rfl, ?_⟩
      refine ⟨_, rfl, part, rfl, ok2.2 _ (List.mem_of_getElem? hpt), fun en H3 s3 => go _ _ s3 ?_, fun c ec v H3 s3 tv => go _ _ s3 ?_⟩
      · rw [en]
        exact td_n
      · rw [ec]
        exact tv
    · obtain ⟨sq, us, hu, tu⟩ := q
      rw [List.length_map, List.take_length] at tu
      refine name_go ?_
      dsimp only
      refine seq_go (ifs_go (test_go (op_go ⟨_, rfl, .none, _, .non, .lst (SqL.of hu) tu.dp, by decide, deeds_shaped fine, _, rfl, ?_⟩)))
      rw [any_none]
      have sH := s1.trans sq
      refine ite2 (fun c2 => ?_) fun c2 => ?_
      · have c3 : ¬ (ps.map readCh).all Option.isSome = true := by simpa using c2
        rw [if_neg c3] at qn
        exact ⟨_, rfl, fun d H2 s e => qn rfl d H2 (sH.trans s) e⟩
      have c3 : (ps.map readCh).all Option.isSome = true := by
        cases e : (ps.map readCh).all Option.isSome with
        | true => rfl
        | false =>
          rw [e] at c2
          exact absurd rfl c2
      rw [if_pos c3] at qs
      have qs := qs _ rfl
      have lr := ok2.1
      rw [all_some c3] at tu
      have lr2 : ((ps.map readCh).filterMap id).length ≤ ps.length := Nat.le_trans (List.length_filterMap_le _ _) (by rw [List.length_map]; exact Nat.le_refl _)
      generalize (ps.map readCh).filterMap id = r at qs tu lr2
      have lu := tu.len
      rw [List.length_map, List.length_map] at lu
      refine next_go ?_
      dsimp only
      refine ⟨_, rfl, D, rfl, ⟨_, SqL.of hu⟩, fun L hL => lc_list (xs := us) (fun n H2 => Same H' H2 ∧ ∃ ws, H2 L = some (.lst ws) ∧ TDs H2 ws ((r.take n).map itD)) ⟨same_new hL, [], upd_same, by rw [List.take_zero]; unfold TDs; exact True.intro⟩
        (fun n H2 _ q => SqL.of (q.1 _ _ hu)) (fun n y H2 hy q => ?_) fun H2 q => ?_⟩
      · obtain ⟨sq2, ws, hw, tw⟩ := q
        obtain ⟨d, hd1, hd2⟩ := tu.get hy
        rw [List.map_map] at hd1
        obtain ⟨c, hc, hm, rfl⟩ := map_at hd1
        have hn' := (List.getElem?_eq_some_iff.mp hc).1
        have hd3 : TD H2 y (.tuple [.str "do", chD c.1, stD c.2]) := hd2.keep (Same.tk sq2)
        obtain ⟨b, x0, u, z, rfl, hb, h0, hu2, hz⟩ := td_three hd3
        refine ⟨b, [x0, u, z], rfl, SqT.of hb, rfl, x0, [u, z], rfl, u, [z], rfl, z, [], rfl, rfl, rfl, ?_⟩
        refine ⟨_, rfl, _, rfl, (by show 2 ≤ sizeLine; decide), fun t nt => ?_⟩
        have s3 := same_new (o := .tup [u, z]) nt
        have h3 := s3 _ _ hw
        have lw := tw.len
        rw [List.length_map, List.length_take] at lw
        refine ⟨ws, h3, ?_, same_fill hL (sq2.trans s3), ws ++ [.ref t], upd_same, ?_⟩
        · rw [sizeLine_eq]
          omega
        · rw [List.take_succ_eq_append_getElem hn', List.map_append, (List.getElem?_eq_some_iff.mp hc).2]
          refine ((tw.keep (Same.tk s3)).app (tds_one (td_of (ds := [chD c.1, stD c.2]) upd_same ?_))).keep (tk_lst h3)
          exact tds_two (hu2.keep (Same.tk s3)) (hz.keep (Same.tk s3))
      · obtain ⟨sq2, ws, hw, tw⟩ := q
        rw [lu, List.take_length] at tw
        refine ⟨L, ws, rfl, .inl ⟨SqL.of hw, fun l hl => ?_⟩⟩
        exact qs _ _ (sH.trans (sq2.trans (same_new hl))) (td_of upd_same (tw.keep (Same.tk (same_new hl))))
end
end Sc

set_option maxRecDepth 100000
set_option maxHeartbeats 1000000
namespace Sc
open PySem L2 PySem.Spec PyProof.Rows TL
abbrev sLText : Stmt := top 24
abbrev sLName : Stmt := top 25
abbrev sLDrawn : Stmt := top 26
abbrev sLIsName : Stmt := top 27
theorem scLText : FnScope ["_law_choice", "_law_stop", "_law_text"] ["_law_choice", "_law_stop"] (defScope sLText) := ⟨rfl, rfl, rfl, by decide +kernel, rfl, by decide +kernel, by decide +kernel⟩
theorem scLName : FnScope ["_law_pot"] ["_law_pot"] (defScope sLName) := ⟨rfl, rfl, rfl, by decide +kernel, rfl, by decide +kernel, by decide +kernel⟩
theorem scLDrawn : FnScope ["_law_pot", "_law_road", "_law_stop"] ["_law_pot"] (defScope sLDrawn) := ⟨rfl, rfl, rfl, by decide +kernel, rfl, by decide +kernel, by decide +kernel⟩
theorem scLIsName : FnScope ["_law_word", "_law_sign"] ["_law_word"] (defScope sLIsName) := ⟨rfl, rfl, rfl, by decide +kernel, rfl, by decide +kernel, by decide +kernel⟩
theorem app_assoc (x y z : Str) : x ++ y ++ z = x ++ (y ++ z) := ext_tl (by rw [tl_append, tl_append, tl_append, tl_append, List.append_assoc])
theorem app_emp (x : Str) : x ++ ("" : Str) = x := ext_tl (by rw [tl_append, show tl ("" : Str) = [] from rfl, List.append_nil])
/-- of(pot, [..]), the list written out -/
theorem of_lst {K : PySem.W.Frag} {σ : L2.St} {H : Hp} {Q : VK} {i : Nat} {p : Addr} {N : Nat} {ta : L2.TA} (xs : List V) (hp : PotAt H p N) (hN : N < 100000) (hs : σ[i]? = some (some (.ref p))) (lit : ∀ R : List V → Hp → Prop, R xs H → ta σ H R) (h0 : 0 < xs.length) (h1 : xs.length < 1000)
    (q : ∀ x H', x ∈ xs → PotAt H' p (N + 1) → SameBut p H H' → Q x H') : tCall (spOf K) [] E0 (tCons (tVar i) (tCons (tLst ta) tNil)) σ H Q := by
  refine ⟨_, hs, lit _ ⟨szI (by omega), fun l hl => ?_⟩⟩
  have s1 := same_new (o := .lst xs) hl
  obtain ⟨x, y, z, e⟩ := hp.three
  refine ⟨p, l, xs, N, rfl, hp.same s1, hN, SqL.of upd_same, (ne_of_none e hl).symm, h0, h1, fun x H' hx p1 k1 => q x H' hx p1 ((same_but s1).trans k1)⟩
def spLText : Sp := fun vs H Q _ => ∃ (v u : V) (c : Item), vs = [v, u] ∧ TD H v (chD c.1) ∧ TD H u (stD c.2) ∧ plainItem c = true ∧ ∀ H', Same H H' → Q (.str (showCh c)) H'
def tailS (b : Str) : Option Nat → Str
  | none => b
  | some n => b ++ " stop " ++ numT n
theorem show_tail (c1 : Ch) (c2 : Option Nat) : showCh (c1, c2) = tailS (bodyOf c1) c2 := by cases c2 <;> rfl
def spLName : Sp := fun vs H Q _ => ∃ (p : Addr) (N : Nat), vs = [.ref p] ∧ PotAt H p N ∧ N < 100000 ∧ ∀ x H', x ∈ drawnNames → PotAt H' p (N + 1) → SameBut p H H' → Q (.str x) H'
def spDrawn : Sp := fun vs H Q _ => ∃ (p : Addr) (N : Nat), vs = [.ref p] ∧ PotAt H p N ∧ N < 90000 ∧ ∀ c v H', c ∈ drawnItems → TD H' v (itD c) → PotAt H' p (N + 4) → SameBut p H H' → Q v H'
theorem mem_item {c : Ch} {s : Option Nat} (h1 : c ∈ drawnCh) (h2 : s ∈ drawnStops) : (c, s) ∈ drawnItems := List.mem_flatMap.mpr ⟨c, h1, List.mem_map.mpr ⟨s, h2, rfl⟩⟩
theorem mem_beg {p w : Str} (h1 : p ∈ drawnNames) (h2 : w ∈ stepWords) : Ch.beg p w ∈ drawnCh := List.mem_append_left _ (List.mem_append_left _ (List.mem_flatMap.mpr ⟨p, h1, List.mem_map.mpr ⟨w, h2, rfl⟩⟩))
theorem mem_at {t : Str} (h : t ∈ drawnNames) : Ch.at t ∈ drawnCh := List.mem_append_left _ (List.mem_append_right _ (List.mem_map.mpr ⟨t, h, rfl⟩))
theorem mem_one {t : Str} (h : t ∈ ([("again" : Str), "back", "turn"] : List Str)) : Ch.one t ∈ drawnCh := List.mem_append_right _ (List.mem_map.mpr ⟨t, h, rfl⟩)
section
variable {P : Program} {w : World} {K : PySem.W.Frag} {mg : Str → Option Value} {base : Heap} {sA : Addr}
theorem ok_lname {f fO : Addr} {fd fdO : FuncData} (F : Fun K "_law_name" "_law_name" sLName f fd) (GO : FnOk P w K mg base CX0 2 fO fdO ["_law_pot", "_law_some"] (spOf K)) (gO : mg "_law_of" = some (.ref fO)) (kO : PySem.W.keepIn K (.ref fO) = true) (bO : Binds K fdO ["_law_pot", "_law_some"] []) :
    FnOk P w K mg base CX0 3 f fd ["_law_pot"] spLName := by
  refine F.ok scLName (fun vs H Q E h => ?_) (fun cdv A outer s H vs Q E hr h => ?_)
  · obtain ⟨p, N, rfl, _⟩ := h
    rfl
  · obtain ⟨p, N, rfl, hp, hN, q⟩ := h
    refine ⟨_, pss_one (ps_ret (pe_call GO hr (by rfl) gO kO bO .nil pass0 (pa_cons (pv 0) (pa_cons (pe_lst (pa_cons pe_str (pa_cons pe_str (pa_cons pe_str (pa_cons pe_str (pa_cons pe_str (pa_cons pe_str pa_nil))))))) pa_nil)))), ?_⟩
    refine of_lst (drawnNames.map V.str) hp hN rfl (fun R k => k) (by decide) (by decide) fun x H' hx p1 k1 => ?_
    obtain ⟨y, hy, rfl⟩ := List.mem_map.mp hx
    exact q y H' hy p1 k1
theorem ok_ldrawn {f fO fT fN : Addr} {fd fdO fdT fdN : FuncData} (F : Fun K "_law_drawn_choice" "_law_drawn_choice" sLDrawn f fd)
    (GO : FnOk P w K mg base CX0 2 fO fdO ["_law_pot", "_law_some"] (spOf K)) (gO : mg "_law_of" = some (.ref fO)) (kO : PySem.W.keepIn K (.ref fO) = true) (bO : Binds K fdO ["_law_pot", "_law_some"] [])
    (GT : FnOk P w K mg base CX0 1 fT fdT ["_law_pot", "_law_upto"] spTake) (gT : mg "_law_take" = some (.ref fT)) (kT : PySem.W.keepIn K (.ref fT) = true) (bT : Binds K fdT ["_law_pot", "_law_upto"] [])
    (GN : FnOk P w K mg base CX0 3 fN fdN ["_law_pot"] spLName) (gN : mg "_law_name" = some (.ref fN)) (kN : PySem.W.keepIn K (.ref fN) = true) (bN : Binds K fdN ["_law_pot"] []) :
    FnOk P w K mg base CX0 4 f fd ["_law_pot"] spDrawn := by
  refine F.ok scLDrawn (fun vs H Q E h => ?_) (fun cdv A outer s H vs Q E hr h => ?_)
  · obtain ⟨p, N, rfl, _⟩ := h
    rfl
  · obtain ⟨p, N, rfl, hp, hN, q⟩ := h
    have hr1 : Room 1 _ := hr.mono (by decide)
    have hr2 : Room 2 _ := hr.mono (by decide)
    refine ⟨_, pss_cons (ps_par (i := 1) (j := 2) (by rfl) scLDrawn.nd rfl rfl (by decide) rfl rfl (pa_cons (pe_call GT hr1 (by rfl) gT kT bT .nil pass0 (pa_cons (pv 0) (pa_cons pe_int pa_nil)))
        (pa_cons (pe_call GO hr2 (by rfl) gO kO bO .nil pass0 (pa_cons (pv 0) (pa_cons (pe_lst (pa_cons pe_non (pa_cons pe_non (pa_cons pe_int (pa_cons pe_int (pa_cons pe_int (pa_cons pe_int pa_nil))))))) pa_nil))) pa_nil)) (by rfl))
      (pss_cons (ps_if (pt_cmpR op_eq (pv 1) pe_int (nomark _)) (pss_one (ps_ret (pe_tup (pa_cons (pe_tup (pa_cons pe_str (pa_cons (pe_tup (pa_cons (pe_call GN hr (by rfl) gN kN bN .nil pass0 (pa_cons (pv 0) pa_nil))
          (pa_cons (pe_call GO hr2 (by rfl) gO kO bO .nil pass0 (pa_cons (pv 0) (pa_cons (pe_lst (pa_cons pe_str (pa_cons pe_str (pa_cons pe_str (pa_cons pe_str (pa_cons pe_str pa_nil)))))) pa_nil))) pa_nil))) pa_nil))) (pa_cons (pv 2) pa_nil))))) pss_nil)
      (pss_cons (ps_if (pt_cmpR op_eq (pv 1) pe_int (nomark _)) (pss_one (ps_ret (pe_tup (pa_cons (pe_tup (pa_cons pe_str (pa_cons (pe_call GN hr (by rfl) gN kN bN .nil pass0 (pa_cons (pv 0) pa_nil)) pa_nil))) (pa_cons (pv 2) pa_nil))))) pss_nil)
      (pss_one (ps_ret (pe_tup (pa_cons (pe_tup (pa_cons (pe_call GO hr2 (by rfl) gO kO bO .nil pass0 (pa_cons (pv 0) (pa_cons (pe_lst (pa_cons pe_str (pa_cons pe_str (pa_cons pe_str pa_nil)))) pa_nil))) pa_nil)) (pa_cons (pv 2) pa_nil))))))), ?_⟩
    refine seq_go (cons_go ⟨_, rfl, p, 5, N, rfl, hp, by omega, by decide, by decide, fun d H1 d0 d5 p1 k1 => ?_⟩)
    refine cons_go (of_lst [.non, .non, .int 0, .int 7, .int 10, .int 9999] p1 (by omega) rfl (fun R k => k) (by decide) (by decide) fun sv H2 hsv p2 k2 => ⟨_, _, rfl, ?_⟩)
    obtain ⟨st, hst, tst⟩ : ∃ st, st ∈ drawnStops ∧ ∀ H, TD H sv (stD st) := by
      simp only [List.mem_cons, List.not_mem_nil, or_false] at hsv
      rcases hsv with rfl | rfl | rfl | rfl | rfl | rfl
      · exact ⟨none, by decide, fun H => td_n⟩
      · exact ⟨none, by decide, fun H => td_n⟩
      · exact ⟨some 0, by decide, fun H => td_i⟩
      · exact ⟨some 7, by decide, fun H => td_i⟩
      · exact ⟨some 10, by decide, fun H => td_i⟩
      · exact ⟨some 9999, by decide, fun H => td_i⟩
    have k12 := k1.trans k2
    dsimp only
    refine seq_go (ifs_go (test_go (op_go ⟨_, rfl, rfl, _, rfl, ite2 (fun c => ?_) fun c => ?_⟩)))
    · refine ⟨_, rfl, p, N + 1 + 1, rfl, p2, by omega, fun nm H3 hn p3 k3 => of_lst (stepWords.map V.str) p3 (by omega) rfl (fun R k => k) (by decide) (by decide) fun wv H4 hw p4 k4 => ?_⟩
      obtain ⟨ww, hww, rfl⟩ := List.mem_map.mp hw
      refine ⟨(by show 2 ≤ sizeLine; decide), fun t1 n1 => ⟨(by show 2 ≤ sizeLine; decide), fun t2 n2 => ⟨_, rfl, (by show 2 ≤ sizeLine; decide), fun t3 n3 => ?_⟩⟩⟩
      have s1 := same_new (o := .tup [V.str nm, V.str ww]) n1
      have s2 := same_new (o := .tup [V.str ("begin" : Str), V.ref t1]) n2
      have s3 := same_new (o := .tup [V.ref t2, sv]) n3
      refine q (.beg nm ww, st) _ _ (mem_item (mem_beg hn hww) hst) (td_of upd_same (tds_two (td_of (s3 _ _ upd_same) (tds_two td_s (td_of (s3 _ _ (s2 _ _ upd_same)) (tds_two td_s td_s)))) (tst _))) ((p4.same (s1.trans (s2.trans s3))).mono (by omega)) (k12.trans (k3.trans (k4.trans (same_but (s1.trans (s2.trans s3))))))
    refine next_go ?_
    dsimp only
    refine seq_go (ifs_go (test_go (op_go ⟨_, rfl, rfl, _, rfl, ite2 (fun c => ?_) fun c => ?_⟩)))
    · refine ⟨_, rfl, p, N + 1 + 1, rfl, p2, by omega, fun nm H3 hn p3 k3 => ⟨(by show 2 ≤ sizeLine; decide), fun t2 n2 => ⟨_, rfl, (by show 2 ≤ sizeLine; decide), fun t3 n3 => ?_⟩⟩⟩
      have s2 := same_new (o := .tup [V.str ("at" : Str), V.str nm]) n2
      have s3 := same_new (o := .tup [V.ref t2, sv]) n3
      refine q (.at nm, st) _ _ (mem_item (mem_at hn) hst) (td_of upd_same (tds_two (td_of (s3 _ _ upd_same) (tds_two td_s td_s)) (tst _))) ((p3.same (s2.trans s3)).mono (by omega)) (k12.trans (k3.trans (same_but (s2.trans s3))))
    refine next_go ?_
    dsimp only
    refine of_lst ([("again" : Str), "back", "turn"].map V.str) p2 (by omega) rfl (fun R k => k) (by decide) (by decide) fun wv H3 hw p3 k3 => ?_
    obtain ⟨ww, hww, rfl⟩ := List.mem_map.mp hw
    refine ⟨(by show 1 ≤ sizeLine; decide), fun t2 n2 => ⟨_, rfl, (by show 2 ≤ sizeLine; decide), fun t3 n3 => ?_⟩⟩
    have s2 := same_new (o := .tup [V.str ww]) n2
    have s3 := same_new (o := .tup [V.ref t2, sv]) n3
    exact q (.one ww, st) _ _ (mem_item (mem_one hww) hst) (td_of upd_same (tds_two (td_of (s3 _ _ upd_same) (tds_one td_s)) (tst _))) ((p3.same (s2.trans s3)).mono (by omega)) (k12.trans (k3.trans (same_but (s2.trans s3))))
theorem ok_lisName {f : Addr} {fd : FuncData} (F : Fun K "_law_is_name" "_law_is_name" sLIsName f fd) (T : NatR mg) : FnOk P w K mg base CX0 1 f fd ["_law_word"] (spLook spelled) := by
  refine F.ok scLIsName (fun vs H Q E h => ?_) (fun cdv A outer s H vs Q E hr h => ?_)
  · obtain ⟨x, rfl, _⟩ := h
    rfl
  · obtain ⟨x, rfl, hx, q⟩ := h
    refine ⟨_, pss_one (ps_ret (pe_and (pe_chain op_le op_le pe_int (pe_callB call_len_str (by rfl) T.len PySem.boot_len (pa_cons (pv 0) pa_nil)) pe_int)
      (pe_one (pe_callB (cr_all rfl) (by rfl) T.all (by decide +kernel) (pa_cons
        (pe_lc (own := [("_law_sign", 1)]) (g := gName 1) (tt := tYes) rfl scLIsName.nd (pi_str (pv 0)) (blkOk_by (own := [("_law_sign", 1)]) (N := ["_law_word", "_law_sign"]) (sc := defScope sLIsName) (by decide +kernel))
          (fun _ _ _ _ _ => pg_name (i := 1) scLIsName.nd rfl (Or.inl rfl)) (fun _ _ _ _ _ => pts_nil) (fun _ _ _ _ _ => pe_cmpR op_in_sign (pv 1) pe_str (by rfl))) pa_nil))))), ?_⟩
    have h1 : x.cps.size ≤ sizeLine := sz hx
    have fin : ∀ H', Same H H' → ∀ b, b = spelled x → Q (.bl b) H' := fun H' s b e => e ▸ q H' s
    refine ⟨_, rfl, x, rfl, sz hx, _, _, rfl, rfl, _, rfl, ?_⟩
    refine ite2 (fun a1 => ?_) (fun a1 => ?_)
    · refine ⟨_, _, rfl, rfl, _, rfl, ite2 (fun a2 => ?_) (fun a2 => ?_)⟩
      · refine all_go (x.cps.toList.map fun c => decide (c ∈ letters.cps.toList)) (fun R k => signs_go (fun c => decide (c ∈ letters.cps.toList)) rfl h1 (fun v => rfl) (fun c H' R2 k2 => ⟨_, rfl, c, letters, rfl, rfl, k2 H' (Same.refl _)⟩) k) fun H' s => ?_
        refine fin H' s _ ?_
        rw [all_map]
        unfold spelled
        rw [show decide (1 ≤ x.length) = true from decide_eq_true (by have := of_decide_eq_true a1; omega), show decide (x.length ≤ 8) = true from decide_eq_true (by have := of_decide_eq_true a2; omega)]
        rfl
      · refine fin H (Same.refl H) _ ?_
        unfold spelled
        rw [show decide (x.length ≤ 8) = false from decide_eq_false (fun h => a2 (decide_eq_true (by omega)))]
        simp
    · refine ⟨false, rfl, ?_⟩
      refine fin H (Same.refl H) _ ?_
      unfold spelled
      rw [show decide (1 ≤ x.length) = false from decide_eq_false (fun h => a1 (decide_eq_true (by omega)))]
      simp
theorem ok_ltext {f : Addr} {fd : FuncData} (F : Fun K "_law_choice_text" "_law_choice_text" sLText f fd) (T : NatR mg) : FnOk P w K mg base CX0 1 f fd ["_law_choice", "_law_stop"] spLText := by
  refine F.ok scLText (fun vs H Q E h => ?_) (fun cdv A outer s H vs Q E hr h => ?_)
  · obtain ⟨v, u, c, rfl, _⟩ := h
    rfl
  · obtain ⟨v, u, c, rfl, hv, hu, hp, q⟩ := h
    refine ⟨_, pss_cons (ps_set (i := 2) scLText.nd rfl (Or.inl rfl) (pe_ix ix_tup (pv 0) pe_int (fun _ _ => rfl)))
      (pss_cons (ps_if (pt_cmpR op_in_seq (pe_ix ix_tup (pv 0) pe_int (fun _ _ => rfl)) (pe_tup (pa_cons pe_str (pa_cons pe_str pa_nil))) (by rfl))
        (pss_one (ps_set (i := 2) scLText.nd rfl (Or.inl rfl) (pe_op op_add_str (pe_op op_add_str (pv 2) pe_str) (pe_ifExp (pt_cmpR op_eq (pe_ix ix_tup (pv 0) pe_int (fun _ _ => rfl)) pe_str (nomark _)) (pe_join pe_str (pe_ix ix_tup (pv 0) pe_int (fun _ _ => rfl))) (pe_ix ix_tup (pv 0) pe_int (fun _ _ => rfl)))))) pss_nil)
      (pss_one (ps_ret (pe_op op_add_str (pv 2) (pe_ifExp (pt_cmpR op_isN (pv 1) pe_non (nomark _)) pe_str (pe_op op_add_str pe_str (pe_callTy call_str_int (by rfl) T.str (by decide +kernel) (pa_cons (pv 1) pa_nil)))))))), ?_⟩
    obtain ⟨c1, c2⟩ := c
    have kl : ("begin" : Str).length = 5 ∧ ("begin " : Str).length = 6 ∧ ("at " : Str).length = 3 ∧ (" stop " : Str).length = 6 ∧ ("at" : Str).length = 2 ∧ (" " : Str).length = 1 ∧ ("." : Str).length = 1 ∧ ("" : Str).length = 0 := by decide
    have b1 : ("begin" : Str) ++ (" " : Str) = "begin " := by decide
    have b2 : ("at" : Str) ++ (" " : Str) = "at " := by decide
    rw [show_tail] at q
    refine seq_go ?_
    rcases c1 with ⟨p, w'⟩ | t | w'
    focus
      have hl : p.length ≤ 40 ∧ w'.length ≤ 40 := by
        unfold plainItem at hp
        rw [Bool.and_eq_true, Bool.and_eq_true] at hp
        exact ⟨of_decide_eq_true hp.1.1, of_decide_eq_true hp.1.2⟩
      unfold chD at hv
      obtain ⟨a, x, y, rfl, ha, hx, hy⟩ := td_two hv
      obtain rfl := td_str hx
      obtain ⟨a2, x2, y2, rfl, ha2, hx2, hy2⟩ := td_two hy
      obtain rfl := td_str hx2
      obtain rfl := td_str hy2
      have jl : (Txt.join "." [p, w']).length ≤ 90 := by
        have h1 := join_len "." [p, w']
        have h2 : ([p, w'].map (fun x => x.length)).sum = p.length + (w'.length + 0) := rfl
        rw [h2] at h1
        have h3 : [p, w'].length = 2 := rfl
        rw [h3] at h1
        omega
      refine ⟨_, rfl, a, _, _, _, rfl, rfl, SqT.of ha, rfl, ?_⟩
      dsimp only
      refine seq_go (ifs_go (test_go (op_go ⟨_, rfl, a, _, _, _, rfl, rfl, SqT.of ha, rfl, (by show 2 ≤ sizeLine; decide), fun t nt => ?_⟩)))
      have s1 := same_new (o := .tup [V.str ("begin" : Str), V.str ("at" : Str)]) nt
      refine ⟨t, [("begin" : Str), "at"].map V.str, rfl, .inr (SqT.of upd_same), rfl, rfl, _, rfl, ite2 (fun _ => ?_) fun z => absurd (by rw [inV_str]; rfl) z⟩
      have ha := s1 _ _ ha
      have ha2 := s1 _ _ ha2
      refine ⟨_, rfl, _, _, rfl, rfl, szI (by omega), _, rfl, a, _, _, _, rfl, rfl, SqT.of ha, rfl, rfl, _, rfl, ite2 (fun _ => ?_) fun z => absurd rfl z⟩
      refine ⟨⟨_, rfl⟩, _, rfl, a, _, _, _, rfl, rfl, SqT.of ha, rfl, _, a2, [p, w'], rfl, rfl, .inr (SqT.of ha2), ?_, _, _, rfl, rfl, szI (by rw [app_len]; omega), ?_⟩
      · show p.length + (w'.length + 0) + 2 * ("." : Str).length ≤ 16777216
        omega
      rw [b1]
      have hb : (bodyOf (.beg p w')).length ≤ 200 := by
        show ("begin " ++ Txt.join "." [p, w']).length ≤ 200
        rw [app_len]
        omega
      have hu := hu.keep (Same.tk s1)
      show gName 2 (.str (bodyOf (.beg p w'))) _ _ _
      refine name_go ?_
      dsimp only
      clear ha ha2
      generalize upd H t (.tup [V.str ("begin" : Str), V.str ("at" : Str)]) = H1 at s1 hu ⊢
      generalize bodyOf (.beg p w') = bb at hb q ⊢
    rotate_left
    focus
      have hl : t.length ≤ 40 := by
        unfold plainItem at hp
        rw [Bool.and_eq_true] at hp
        exact of_decide_eq_true hp.1
      unfold chD at hv
      obtain ⟨a, x, y, rfl, ha, hx, hy⟩ := td_two hv
      obtain rfl := td_str hx
      obtain rfl := td_str hy
      refine ⟨_, rfl, a, _, _, _, rfl, rfl, SqT.of ha, rfl, ?_⟩
      dsimp only
      refine seq_go (ifs_go (test_go (op_go ⟨_, rfl, a, _, _, _, rfl, rfl, SqT.of ha, rfl, (by show 2 ≤ sizeLine; decide), fun t2 nt => ?_⟩)))
      have s1 := same_new (o := .tup [V.str ("begin" : Str), V.str ("at" : Str)]) nt
      refine ⟨t2, [("begin" : Str), "at"].map V.str, rfl, .inr (SqT.of upd_same), rfl, rfl, _, rfl, ite2 (fun _ => ?_) fun z => absurd (by rw [inV_str]; rfl) z⟩
      have ha := s1 _ _ ha
      refine ⟨_, rfl, _, _, rfl, rfl, szI (by omega), _, rfl, a, _, _, _, rfl, rfl, SqT.of ha, rfl, rfl, _, rfl, ite2 (fun z => absurd z (by decide)) fun _ => ?_⟩
      refine ⟨_, rfl, a, _, _, _, rfl, rfl, SqT.of ha, rfl, _, _, rfl, rfl, szI (by rw [app_len]; omega), ?_⟩
      rw [b2]
      have hb : (bodyOf (.at t)).length ≤ 200 := by
        show ("at " ++ t).length ≤ 200
        rw [app_len]
        omega
      have hu := hu.keep (Same.tk s1)
      show gName 2 (.str (bodyOf (.at t))) _ _ _
      refine name_go ?_
      dsimp only
      clear ha
      generalize upd H t2 (.tup [V.str ("begin" : Str), V.str ("at" : Str)]) = H1 at s1 hu ⊢
      generalize bodyOf (.at t) = bb at hb q ⊢
    rotate_left
    focus
      have hl : w'.length ≤ 40 ∧ (w' == ("begin" : Str)) = false ∧ (w' == ("at" : Str)) = false := by
        unfold plainItem at hp
        rw [Bool.and_eq_true, Bool.and_eq_true, Bool.and_eq_true] at hp
        exact ⟨of_decide_eq_true hp.1.1, by simpa using hp.1.2.1, by simpa using hp.1.2.2⟩
      unfold chD at hv
      obtain ⟨a, x, rfl, ha, hx⟩ := td_one hv
      obtain rfl := td_str hx
      refine ⟨_, rfl, a, _, _, _, rfl, rfl, SqT.of ha, rfl, ?_⟩
      dsimp only
      refine seq_go (ifs_go (test_go (op_go ⟨_, rfl, a, _, _, _, rfl, rfl, SqT.of ha, rfl, (by show 2 ≤ sizeLine; decide), fun t2 nt => ?_⟩)))
      have s1 := same_new (o := .tup [V.str ("begin" : Str), V.str ("at" : Str)]) nt
      refine ⟨t2, [("begin" : Str), "at"].map V.str, rfl, .inr (SqT.of upd_same), rfl, rfl, _, rfl, ite2 (fun z => ?_) fun _ => ?_⟩
      · have e : inV (.str w') ([("begin" : Str), "at"].map V.str) = false := by
          rw [inV_str]
          show (w' == ("begin" : Str) || (w' == ("at" : Str) || false)) = false
          rw [hl.2.1, hl.2.2]
          rfl
        have z2 : inV (.str w') ([("begin" : Str), "at"].map V.str) = true := z
        rw [e] at z2
        cases z2
      have hb : (bodyOf (.one w')).length ≤ 200 := by
        show w'.length ≤ 200
        omega
      have hu := hu.keep (Same.tk s1)
      refine next_go ?_
      dsimp only
      clear ha
      generalize upd H t2 (.tup [V.str ("begin" : Str), V.str ("at" : Str)]) = H1 at s1 hu ⊢
      show (tRet _) _ [_, _, some (.str (bodyOf (.one w')))] _
      generalize bodyOf (.one w') = bb at hb q ⊢
    all_goals
      cases c2 with
      | none =>
        unfold stD TD at hu
        subst hu
        refine ⟨_, rfl, _, rfl, rfl, _, rfl, ite2 (fun _ => ?_) fun z => absurd rfl z⟩
        refine ⟨_, _, rfl, rfl, szI (by omega), ?_⟩
        rw [app_emp]
        exact q _ s1
      | some n =>
        unfold stD TD at hu
        subst hu
        have n9 : n ≤ 9999 := by
          unfold plainItem at hp
          rw [Bool.and_eq_true] at hp
          exact of_decide_eq_true hp.2
        have nl := num_len n9
        have en : (numT n).length = (Str.ofString (toString ((n : Nat) : Int))).length := rfl
        refine ⟨_, rfl, _, rfl, rfl, _, rfl, ite2 (fun z => nomatch (of_decide_eq_true z)) fun _ => ?_⟩
        refine ⟨_, rfl, _, rfl, nine_log n9, _, _, rfl, rfl, szI (by omega), _, _, rfl, rfl, szI (by rw [app_len]; omega), ?_⟩
        have q1 := q _ s1
        show Q (.str (bb ++ (" stop " ++ numT n))) _
        rw [← app_assoc]
        exact q1
end
end Sc

set_option maxRecDepth 100000
set_option maxHeartbeats 1000000
namespace Sc
open PySem L2 PySem.Spec PyProof.Rows TL
abbrev sLIn : Stmt := top 28
abbrev sLRunIn : Stmt := top 29
theorem scLIn : FnScope ["_law_text", "_law_words", "_law_stop", "_law_digits", "_law_parts", "_law_sign"] ["_law_text"] (defScope sLIn) := ⟨rfl, rfl, rfl, by decide +kernel, rfl, by decide +kernel, by decide +kernel⟩
theorem scLRunIn : FnScope ["_law_text", "_law_found", "_law_part", "_law_one"] ["_law_text"] (defScope sLRunIn) := ⟨rfl, rfl, rfl, by decide +kernel, rfl, by decide +kernel, by decide +kernel⟩
theorem nor_true {a b : Bool} (h : (!a || !b) = true) : (a && b) = false := by cases a <;> cases b <;> simp_all
theorem nor_false {a b : Bool} (h : ¬ (!a || !b) = true) : (a && b) = true := by cases a <;> cases b <;> simp_all
theorem dI {a b : Nat} : decide ((a : Int) ≤ (b : Int)) = decide (a ≤ b) := by
  by_cases h : a ≤ b
  · rw [decide_eq_true h]
    exact decide_eq_true (by omega)
  · rw [decide_eq_false h]
    exact decide_eq_false (by omega)
def spLIn : Sp := fun vs H Q _ => ∃ x : Str, vs = [.str x] ∧ TxtOk x ∧ ∀ D xs H', H D = none → Same H H' → H' D = some (.lst xs) → TDs H' xs ((readCh x).toList.map itD) → Q (.ref D) H'
section
variable {P : Program} {w : World} {K : PySem.W.Frag} {mg : Str → Option Value} {base : Heap} {sA : Addr}
theorem ok_lin {f fN : Addr} {fd fdN : FuncData} (F : Fun K "_law_choice_in" "_law_choice_in" sLIn f fd) (T : NatR mg)
    (GN : FnOk P w K mg base CX0 1 fN fdN ["_law_word"] (spLook spelled)) (gN : mg "_law_is_name" = some (.ref fN)) (kN : PySem.W.keepIn K (.ref fN) = true) (bN : Binds K fdN ["_law_word"] []) :
    FnOk P w K mg base CX0 2 f fd ["_law_text"] spLIn := by
  refine F.ok scLIn (fun vs H Q E h => ?_) (fun cdv A outer s H vs Q E hr h => ?_)
  · obtain ⟨x, rfl, _⟩ := h
    rfl
  · obtain ⟨x, rfl, hx, q⟩ := h
    refine ⟨_, pss_cons (ps_par (i := 1) (j := 2) (by rfl) scLIn.nd rfl rfl (by decide) rfl rfl (pa_cons (pe_split (pv 0) pe_str) (pa_cons pe_non pa_nil)) (by rfl))
      (C8.pss_cut (ps_if (PW.pt (pw_and (pt_cmpR op_gt (pe_callB call_len_seq (by rfl) T.len PySem.boot_len (pa_cons (pv 1) pa_nil)) pe_int (nomark _))
          (pw_and1 (pt_cmpR op_eq (pe_ix ix_list (pv 1) (pe_un un_neg pe_int) (fun _ _ => rfl)) pe_str (nomark _)))))
        (pss_cons (ps_set (i := 3) scLIn.nd rfl (Or.inl rfl) (pe_ix ix_list (pv 1) (pe_un un_neg pe_int) (fun _ _ => rfl)))
        (pss_cons (ps_if (PW.pt (pw_or (pt_not (pt_chain op_le op_le pe_int (pe_callB call_len_str (by rfl) T.len PySem.boot_len (pa_cons (pv 3) pa_nil)) pe_int))
            (pw_or1 (pt_not (pt_val (pe_callB (cr_all rfl) (by rfl) T.all (by decide +kernel) (pa_cons
              (pe_lc (own := [("_law_sign", 5)]) (g := gName 5) (tt := tYes) rfl scLIn.nd (pi_str (pv 3)) (blkOk_by (own := [("_law_sign", 5)]) (N := ["_law_text", "_law_words", "_law_stop", "_law_digits", "_law_parts", "_law_sign"]) (sc := defScope sLIn) (by decide +kernel))
                (fun _ _ _ _ _ => pg_name (i := 5) scLIn.nd rfl (Or.inl rfl)) (fun _ _ _ _ _ => pts_nil) (fun _ _ _ _ _ => pe_cmpR op_in_sign (pv 5) pe_str (by rfl))) pa_nil)))))))
          (pss_one (ps_ret (pe_lst pa_nil))) pss_nil)
        (pss_cons (ps_if (pt_cmpR op_ne (pe_callTy call_str_int (by rfl) T.str (by decide +kernel) (pa_cons (pe_callTy call_int_str (by rfl) T.int (by decide +kernel) (pa_cons (pv 3) pa_nil)) pa_nil)) (pv 3) (nomark _))
          (pss_one (ps_ret (pe_lst pa_nil))) pss_nil)
        (pss_one (ps_par (i := 1) (j := 2) (by rfl) scLIn.nd rfl rfl (by decide) rfl rfl (pa_cons (pe_slice sl_list (pv 1) po_none (po_some (pe_un un_neg pe_int))) (pa_cons (pe_callTy call_int_str (by rfl) T.int (by decide +kernel) (pa_cons (pv 3) pa_nil)) pa_nil)) (by rfl)))))) pss_nil)
      (pss_cons (ps_if (PW.pt (pw_and (pt_cmpR op_eq (pe_callB call_len_seq (by rfl) T.len PySem.boot_len (pa_cons (pv 1) pa_nil)) pe_int (nomark _))
          (pw_and1 (pt_cmpR op_in_seq (pe_ix ix_list (pv 1) pe_int (fun _ _ => rfl)) (pe_tup (pa_cons pe_str (pa_cons pe_str (pa_cons pe_str pa_nil)))) (by rfl)))))
        (pss_one (ps_ret (pe_lst (pa_cons (pe_tup (pa_cons (pe_tup (pa_cons (pe_ix ix_list (pv 1) pe_int (fun _ _ => rfl)) pa_nil)) (pa_cons (pv 2) pa_nil))) pa_nil)))) pss_nil)
      (pss_cons (ps_if (PW.pt (pw_and (pt_cmpR op_eq (pe_callB call_len_seq (by rfl) T.len PySem.boot_len (pa_cons (pv 1) pa_nil)) pe_int (nomark _))
          (pw_and (pt_cmpR op_eq (pe_ix ix_list (pv 1) pe_int (fun _ _ => rfl)) pe_str (nomark _))
          (pw_and1 (pt_val (pe_call GN hr (by rfl) gN kN bN .nil pass0 (pa_cons (pe_ix ix_list (pv 1) pe_int (fun _ _ => rfl)) pa_nil)))))))
        (pss_one (ps_ret (pe_lst (pa_cons (pe_tup (pa_cons (pe_tup (pa_cons pe_str (pa_cons (pe_ix ix_list (pv 1) pe_int (fun _ _ => rfl)) pa_nil))) (pa_cons (pv 2) pa_nil))) pa_nil)))) pss_nil)
      (pss_cons (ps_set (i := 4) scLIn.nd rfl (Or.inl rfl) (pe_split (pe_ix ix_list (pv 1) (pe_un un_neg pe_int) (fun _ _ => rfl)) pe_str))
      (pss_cons (ps_if (PW.pt (pw_or (pt_cmpR op_ne (pe_callB call_len_seq (by rfl) T.len PySem.boot_len (pa_cons (pv 1) pa_nil)) pe_int (nomark _))
          (pw_or (pt_cmpR op_ne (pe_ix ix_list (pv 1) pe_int (fun _ _ => rfl)) pe_str (nomark _))
          (pw_or (pt_cmpR op_ne (pe_callB call_len_seq (by rfl) T.len PySem.boot_len (pa_cons (pv 4) pa_nil)) pe_int (nomark _))
          (pw_or1 (pt_not (pt_val (pe_call GN hr (by rfl) gN kN bN .nil pass0 (pa_cons (pe_ix ix_list (pv 4) pe_int (fun _ _ => rfl)) pa_nil)))))))))
        (pss_one (ps_ret (pe_lst pa_nil))) pss_nil)
      (pss_one (ps_ret (pe_ifExp (pt_cmpR op_in_seq (pe_ix ix_list (pv 4) pe_int (fun _ _ => rfl)) (pe_tup (pa_cons pe_str (pa_cons pe_str (pa_cons pe_str (pa_cons pe_str (pa_cons pe_str pa_nil)))))) (by rfl))
        (pe_lst (pa_cons (pe_tup (pa_cons (pe_tup (pa_cons pe_str (pa_cons (pe_callTy call_tuple_of (by rfl) T.tuple (by decide +kernel) (pa_cons (pv 4) pa_nil)) pa_nil))) (pa_cons (pv 2) pa_nil))) pa_nil)) (pe_lst pa_nil))))))))), ?_⟩
    have ok2 := split_ok hx " "
    have sp1 := split_pos x " "
    have hread : readCh x = lawWs (Txt.split x " ") := (law_ws sp1).symm
    generalize hws : Txt.split x " " = ws at hread ok2 sp1
    have none_ : ∀ {σ : L2.St} {H' : Hp}, Same H H' → readCh x = none → tRet (tLst tNil) { nx := fun _ H' => Q .non H', rt := Q } σ H' := by
      intro σ H' s' e
      refine ⟨Nat.zero_le _, fun p hp => q p [] _ (s'.free hp) (s'.trans (same_new hp)) upd_same ?_⟩
      rw [e]
      show TDs _ [] []
      unfold TDs
      exact True.intro
    refine seq_go (cons_go ⟨_, rfl, ⟨_, rfl⟩, _, _, rfl, rfl, by decide, szI (by have := hx.1; omega), fun p np => ?_⟩)
    have s1 := same_new (o := .lst (ws.map V.str)) np
    rw [hws]
    have hw : Words K (upd H p (.lst (ws.map V.str))) p ws := ⟨.inl (.inl upd_same), ok2.1, ok2.2⟩
    generalize upd H p (.lst (ws.map V.str)) = H1 at s1 hw ⊢
    refine cons_go ⟨_, _, rfl, ?_⟩
    dsimp only
    refine ⟨fun σ' H' => ∃ (a : Addr) (us : List Str) (st : Option Nat) (u : V) (z : Option V), σ' = [some (.str x), some (.ref a), some u, z, none, none] ∧ Same H H' ∧ Words K H' a us ∧ 1 ≤ us.length ∧ TD H' u (stD st) ∧ readCh x = lawTail us st, ?_, ?_⟩
    · unfold lawWs at hread
      refine ifs_go (and_all (decide (2 < ws.length)) (wPre ws == ("stop" : Str)) (fun R k => test_go (op_go ⟨_, rfl, p, _, rfl, .inl hw.1, _, _, rfl, rfl, _, rfl, ?_⟩))
        (fun e H2 R s2 k => test_go (op_go ⟨_, rfl, _, rfl, p, _, _, .str (wPre ws), rfl, rfl, (hw.same s2).1, ?_⟩)) fun H2 s2 => ite2 (fun c => ?_) fun c => ?_)
      · rw [List.length_map]
        have e2 : decide ((ws.length : Int) > 2) = decide (2 < ws.length) := by
          by_cases h : 2 < ws.length
          · rw [decide_eq_true h]
            exact decide_eq_true (by omega)
          · rw [decide_eq_false h]
            exact decide_eq_false (by omega)
        have k2 := k H1 (Same.refl H1)
        rw [← e2] at k2
        exact k2
      · have l := of_decide_eq_true e
        refine ⟨get_end (k := 2) (by decide) (by omega), rfl, _, rfl, ?_⟩
        rw [dec_str]
        exact k H2 (Same.refl H2)
      · have hs : hasStop ws = true := c
        rw [if_pos hs] at hread
        have l : 2 < ws.length := of_decide_eq_true (Bool.and_eq_true_iff.mp c).1
        have w2 := hw.same s2
        have s12 := s1.trans s2
        refine seq_go ⟨_, rfl, _, rfl, p, _, _, .str (wEnd ws), rfl, rfl, w2.1, get_end (k := 1) (by decide) (by omega), ?_⟩
        refine name_go ?_
        dsimp only
        have okd : TxtOk (wEnd ws) := w2.2.2 _ (getD_mem' (by omega))
        have h1 : (wEnd ws).cps.size ≤ sizeLine := sz okd.1
        refine seq_go (ifs_go (or_all (!(decide (1 ≤ (wEnd ws).length) && decide ((wEnd ws).length ≤ 4))) (!allIn (wEnd ws) digits) (fun R k => not_go (test_go ⟨_, rfl, wEnd ws, rfl, sz okd.1, _, _, rfl, rfl, _, rfl, ite2 (fun a1 => ?_) fun a1 => ?_⟩))
          (fun e H3 R s3 k => not_go (val_go (all_go ((wEnd ws).cps.toList.map fun c => decide (c ∈ digits.cps.toList)) (fun R k => signs_go (fun c => decide (c ∈ digits.cps.toList)) rfl h1 (fun v => rfl) (fun c H' R2 k2 => ⟨_, rfl, c, digits, rfl, rfl, k2 H' (Same.refl _)⟩) k) fun H' s => ?_))) fun H3 s3 => ite2 (fun c2 => ?_) fun c2 => ?_))
        · refine ⟨_, _, rfl, rfl, _, rfl, ?_⟩
          have k2 := k H2 (Same.refl H2)
          have a3 : decide (1 ≤ (wEnd ws).length) = true := by
            rw [← dI]
            exact a1
          have a2 : decide (((wEnd ws).length : Int) ≤ 4) = decide ((wEnd ws).length ≤ 4) := dI (b := 4)
          rw [a3, Bool.true_and, ← a2] at k2
          exact k2
        · refine ⟨_, rfl, ?_⟩
          have k2 := k H2 (Same.refl H2)
          have a3 : decide (1 ≤ (wEnd ws).length) = false := by
            rw [← dI]
            exact Bool.eq_false_iff.mpr a1
          rw [a3, Bool.false_and] at k2
          exact k2
        · rw [all_map]
          exact ⟨_, rfl, k H' s⟩
        · have nd : lawDigits (wEnd ws) = false := by
            unfold lawDigits
            exact nor_true c2
          rw [if_neg (by rw [nd]; decide)] at hread
          exact none_ (s12.trans s3) hread
        have nd : lawDigits (wEnd ws) = true := by
          unfold lawDigits
          exact nor_false c2
        rw [if_pos nd] at hread
        obtain ⟨i1, i2⟩ := int_of nd
        have v9 := val_le nd
        have w3 := w2.same s3
        refine next_go ?_
        dsimp only
        refine seq_go (ifs_go (test_go (op_go ⟨_, rfl, _, _, rfl, i1, by omega, _, rfl, nine_log v9, _, rfl, rfl, _, rfl, ?_⟩)))
        rw [dec_str]
        have en : (Str.ofString (toString ((valOf (wEnd ws) : Nat) : Int)) == wEnd ws) = (numT (valOf (wEnd ws)) == wEnd ws) := rfl
        rw [en]
        refine ite2 (fun c3 => ?_) fun c3 => ?_
        · rw [if_neg (by simpa using c3)] at hread
          exact none_ (s12.trans s3) hread
        rw [if_pos (by simpa using c3)] at hread
        refine next_go ?_
        dsimp only
        refine cons_go ⟨_, rfl, _, rfl, _, rfl, p, _, rfl, w3.1, fun n hn => ?_⟩
        have w4 := w3.cut hn none (some (-2))
        rw [cut_end l] at w4
        refine cons_go ⟨_, rfl, _, _, rfl, i1, by omega, _, _, rfl, ?_⟩
        exact ⟨n, _, _, _, _, rfl, s12.trans (s3.trans (same_new hn)), w4, by rw [List.length_take]; omega, td_i, hread⟩
      · have hs : ¬ hasStop ws = true := c
        rw [if_neg hs] at hread
        exact ⟨p, ws, none, _, _, rfl, s1.trans s2, hw.same s2, sp1, td_n, hread⟩
    · rintro σ' H2 ⟨a, us, st, u, z, rfl, s2, w2, l1, tu, hr2⟩
      clear hread
      have hw0 : atI (us.map V.str) (0 : Int) = some (.str (w0 us)) := getD_at (i := 0) l1
      have lenT : ∀ (n : Nat) {R : Bool → Hp → Prop} {H3 : Hp}, R (us.length == n) H3 → R (decide (V.int ((us.map V.str).length : Nat) = V.int (n : Nat))) H3 := by
        intro n R H3 r
        rw [List.length_map, len_eq]
        exact r
      have fin : ∀ {H3 : Hp} (c : Ch) (v : V), Same H2 H3 → TD H3 v (chD c) → readCh x = some (c, st) → ∀ t2, H3 t2 = none → ∀ D, (upd H3 t2 (.tup [v, u])) D = none → Q (.ref D) (upd (upd H3 t2 (.tup [v, u])) D (.lst [.ref t2])) := by
        intro H3 c v s3 tv e t2 n2 D nD
        have s4 := same_new (o := .tup [v, u]) n2
        have s5 := same_new (o := .lst [.ref t2]) nD
        refine q D [.ref t2] _ ((s2.trans (s3.trans s4)).free nD) (s2.trans (s3.trans (s4.trans s5))) upd_same ?_
        rw [e]
        refine tds_one (td_of (s5 _ _ upd_same) (tds_two ((tv.keep (Same.tk s4)).keep (Same.tk s5)) (((tu.keep (Same.tk s3)).keep (Same.tk s4)).keep (Same.tk s5))))
      unfold lawTail at hr2
      refine seq_go (ifs_go (and_all (us.length == 1) ([("again" : Str), "back", "turn"].contains (w0 us)) (fun R k => test_go (op_go ⟨_, rfl, a, _, rfl, .inl w2.1, rfl, _, rfl, lenT 1 (k H2 (Same.refl H2))⟩))
        (fun e H3 R s3 k => test_go (op_go ⟨_, rfl, a, _, _, .str (w0 us), rfl, rfl, (w2.same s3).1, hw0, (by show 3 ≤ sizeLine; decide), fun t nt => ?_⟩)) fun H3 s3 => ite2 (fun c => ?_) fun c => ?_))
      · refine ⟨t, [("again" : Str), "back", "turn"].map V.str, rfl, .inr (SqT.of upd_same), rfl, rfl, _, rfl, ?_⟩
        show R (inV (.str _) ([("again" : Str), "back", "turn"].map V.str)) _
        rw [inV_str]
        exact k _ (same_new nt)
      · rw [if_pos c] at hr2
        refine ⟨_, rfl, a, _, _, .str (w0 us), rfl, rfl, (w2.same s3).1, hw0, (by show 1 ≤ sizeLine; decide), fun t nt => ⟨_, rfl, (by show 2 ≤ sizeLine; decide), fun t2 n2 => ⟨(by show 1 ≤ sizeLine; decide), fun D nD => ?_⟩⟩⟩
        exact fin (.one (w0 us)) (.ref t) (s3.trans (same_new nt)) (td_of upd_same (tds_one td_s)) hr2 t2 n2 D nD
      rw [if_neg c] at hr2
      have w3 := w2.same s3
      refine next_go ?_
      dsimp only
      have hw1 : us.length = 2 → atI (us.map V.str) (1 : Int) = some (.str (us.getD 1 "")) := fun e => getD_at (i := 1) (by omega)
      refine seq_go (ifs_go (and_all (us.length == 2) ((w0 us == ("at" : Str)) && spelled (us.getD 1 "")) (fun R k => test_go (op_go ⟨_, rfl, a, _, rfl, .inl w3.1, rfl, _, rfl, lenT 2 (k H3 (Same.refl H3))⟩))
        (fun e H4 R s4 k => and_all (w0 us == ("at" : Str)) (spelled (us.getD 1 "")) (fun R2 k2 => test_go (op_go ⟨_, rfl, a, _, _, .str (w0 us), rfl, rfl, (w3.same s4).1, hw0, rfl, _, rfl, ?_⟩)) (fun e2 H5 R2 s5 k2 => val_go ⟨_, rfl, a, _, _, .str (us.getD 1 ""), rfl, rfl, ((w3.same s4).same s5).1, hw1 (beq_iff_eq.mp e), _, rfl, ?_⟩) fun H5 s5 => k H5 s5) fun H4 s4 => ite2 (fun c2 => ?_) fun c2 => ?_))
      · rw [dec_str]
        exact k2 H4 (Same.refl H4)
      · have l2 := beq_iff_eq.mp e
        exact ⟨(w3.2.2 _ (getD_mem' (by omega))).1, fun H6 s6 => ⟨_, rfl, k2 H6 s6⟩⟩
      · rw [if_pos c2] at hr2
        have l2 := beq_iff_eq.mp (Bool.and_eq_true_iff.mp c2).1
        refine ⟨_, rfl, a, _, _, .str (us.getD 1 ""), rfl, rfl, (w3.same s4).1, hw1 l2, (by show 2 ≤ sizeLine; decide), fun t nt => ⟨_, rfl, (by show 2 ≤ sizeLine; decide), fun t2 n2 => ⟨(by show 1 ≤ sizeLine; decide), fun D nD => ?_⟩⟩⟩
        exact fin (.at (us.getD 1 "")) (.ref t) (s3.trans (s4.trans (same_new nt))) (td_of upd_same (tds_two td_s td_s)) hr2 t2 n2 D nD
      rw [if_neg c2] at hr2
      have w4 := w3.same s4
      have s34 := s3.trans s4
      refine next_go ?_
      dsimp only
      have okE : TxtOk (wEnd us) := w4.2.2 _ (getD_mem' (by omega))
      have ok3 := split_ok okE "."
      have sp3 := split_pos (wEnd us) "."
      dsimp only at hr2
      generalize hst : Txt.split (wEnd us) "." = ps at hr2 ok3 sp3
      refine seq_go ⟨_, rfl, _, rfl, a, _, _, .str (wEnd us), rfl, rfl, w4.1, get_end (k := 1) (by decide) (by omega), ⟨_, rfl⟩, _, _, rfl, rfl, by decide, szI (by have := okE.1; omega), fun b nb => ?_⟩
      have s5 := same_new (o := .lst (ps.map V.str)) nb
      rw [hst]
      have wp : Words K (upd H4 b (.lst (ps.map V.str))) b ps := ⟨.inl (.inl upd_same), ok3.1, ok3.2⟩
      generalize upd H4 b (.lst (ps.map V.str)) = H5 at s5 wp ⊢
      refine name_go ?_
      dsimp only
      have w5 := w4.same s5
      have s35 := s34.trans s5
      have hp0 : atI (ps.map V.str) (0 : Int) = some (.str (ps.getD 0 "")) := getD_at (i := 0) sp3
      have neL : ∀ (m n : Nat) {R : Bool → Hp → Prop} {H3 : Hp}, R (m != n) H3 → R (!decide (V.int (m : Nat) = V.int (n : Nat))) H3 := by
        intro m n R H3 r
        rw [len_eq]
        exact r
      refine seq_go (ifs_go (or_all (us.length != 2) (w0 us != ("begin" : Str) || (ps.length != 2 || !spelled (ps.getD 0 ""))) (fun R k => test_go (op_go ⟨_, rfl, a, _, rfl, .inl w5.1, rfl, _, rfl, ?_⟩))
        (fun e H6 R s6 k => or_all (w0 us != ("begin" : Str)) (ps.length != 2 || !spelled (ps.getD 0 "")) (fun R2 k2 => test_go (op_go ⟨_, rfl, a, _, _, .str (w0 us), rfl, rfl, (w5.same s6).1, hw0, rfl, _, rfl, ?_⟩))
          (fun e2 H7 R2 s7 k2 => or_all (ps.length != 2) (!spelled (ps.getD 0 "")) (fun R3 k3 => test_go (op_go ⟨_, rfl, b, _, rfl, .inl ((wp.same s6).same s7).1, rfl, _, rfl, ?_⟩))
            (fun e3 H8 R3 s8 k3 => not_go (val_go ⟨_, rfl, b, _, _, .str (ps.getD 0 ""), rfl, rfl, (((wp.same s6).same s7).same s8).1, hp0, _, rfl, (ok3.2 _ (getD_mem' sp3)).1, fun H9 s9 => ⟨_, rfl, k3 H9 s9⟩⟩)) fun H8 s8 => k2 H8 s8) fun H7 s7 => k H7 s7) fun H6 s6 => ite2 (fun c3 => ?_) fun c3 => ?_))
      · have k2 := k H5 (Same.refl H5)
        have := neL us.length 2 k2
        rw [← List.length_map (f := V.str)] at this
        exact this
      · rw [dec_str]
        exact k2 H6 (Same.refl H6)
      · have k4 := k3 H7 (Same.refl H7)
        have := neL ps.length 2 k4
        rw [← List.length_map (f := V.str)] at this
        exact this
      · rw [if_pos c3] at hr2
        exact none_ (s2.trans (s35.trans s6)) hr2
      rw [if_neg c3] at hr2
      have lp : ps.length = 2 := by
        cases e : (ps.length == 2) with
        | true => exact beq_iff_eq.mp e
        | false =>
          refine absurd ?_ c3
          rw [show (ps.length != 2) = !(ps.length == 2) from rfl, e]
          simp
      refine next_go ?_
      dsimp only
      have hp1 : atI (ps.map V.str) (1 : Int) = some (.str (ps.getD 1 "")) := getD_at (i := 1) (by omega)
      have w6 := wp.same s6
      have s36 := s35.trans s6
      refine ⟨_, rfl, b, _, _, .str (ps.getD 1 ""), rfl, rfl, w6.1, hp1, (by show 5 ≤ sizeLine; decide), fun t nt => ⟨t, stepWords.map V.str, rfl, .inr (SqT.of upd_same), rfl, rfl, _, rfl, ?_⟩⟩
      show if inV (.str _) (stepWords.map V.str) = true then _ else _
      rw [inV_str]
      refine ite2 (fun c4 => ?_) fun c4 => ?_
      · rw [if_pos c4] at hr2
        refine ⟨_, rfl, b, _, rfl, .inl ⟨(w6.same (same_new nt)).1, fun t1 n1 => ⟨(by show 2 ≤ sizeLine; decide), fun t3 n3 => ⟨_, rfl, (by show 2 ≤ sizeLine; decide), fun t2 n2 => ⟨(by show 1 ≤ sizeLine; decide), fun D nD => ?_⟩⟩⟩⟩⟩
        refine fin (.beg (ps.getD 0 "") (ps.getD 1 "")) (.ref t3) (s36.trans ((same_new nt).trans ((same_new n1).trans (same_new n3)))) ?_ hr2 t2 n2 D nD
        match ps, lp with
        | [y1, y2], _ => exact td_of upd_same (tds_two td_s (td_of (same_new n3 _ _ upd_same) (tds_two td_s td_s)))
      · rw [if_neg c4] at hr2
        exact none_ (s2.trans (s36.trans (same_new nt))) hr2
end
end Sc

set_option maxRecDepth 100000
set_option maxHeartbeats 1000000
namespace Sc
open PySem L2 PySem.Spec PyProof.Rows TL
def spLRunIn : Sp := fun vs H Q _ => ∃ x : Str, vs = [.str x] ∧ TxtOk x ∧ ∀ D xs H', H D = none → Same H H' → H' D = some (.lst xs) → TDs H' xs ((readRun x).toList.map runD) → Q (.ref D) H'
def lsD (o : Option Item) : PyData := .list (o.toList.map itD)
/-- a list with a choice, or without -/
def LsAt (H : Hp) (v : V) (o : Option Item) : Prop := ∃ D xs, v = .ref D ∧ H D = some (.lst xs) ∧ TDs H xs (o.toList.map itD)
def LsAll (H : Hp) : List V → List (Option Item) → Prop
  | [], [] => True
  | v :: vs, o :: os => LsAt H v o ∧ LsAll H vs os
  | [], _ :: _ => False
  | _ :: _, [] => False
theorem LsAt.same {H H' : Hp} {v : V} {o : Option Item} (h : LsAt H v o) (s : Same H H') : LsAt H' v o := by
  obtain ⟨D, xs, e, h1, h2⟩ := h
  exact ⟨D, xs, e, s _ _ h1, h2.keep (Same.tk s)⟩
theorem LsAll.app {H : Hp} : ∀ {vs us : List V} {os ps : List (Option Item)}, LsAll H vs os → LsAll H us ps → LsAll H (vs ++ us) (os ++ ps)
  | [], us, [], ps, _, b => b
  | v :: vs, us, o :: os, ps, h, b => ⟨h.1, LsAll.app h.2 b⟩
  | [], _, _ :: _, _, h, _ => h.elim
  | _ :: _, _, [], _, h, _ => h.elim
theorem LsAll.len {H : Hp} : ∀ {vs : List V} {os : List (Option Item)}, LsAll H vs os → vs.length = os.length
  | [], [], _ => rfl
  | v :: vs, o :: os, h => by rw [List.length_cons, List.length_cons, LsAll.len h.2]
  | [], _ :: _, h => h.elim
  | _ :: _, [], h => h.elim
theorem LsAll.get {H : Hp} : ∀ {vs : List V} {os : List (Option Item)} {i : Nat} {v : V}, LsAll H vs os → vs[i]? = some v → ∃ o, os[i]? = some o ∧ LsAt H v o
  | [], [], i, v, _, h => by simp at h
  | u :: vs, o :: os, 0, v, h, e => by
    have e2 : u = v := by simpa using e
    subst e2
    exact ⟨o, rfl, h.1⟩
  | u :: vs, o :: os, i + 1, v, h, e => by
    obtain ⟨d2, h1, h2⟩ := LsAll.get (i := i) h.2 (by simpa using e)
    exact ⟨d2, by simpa using h1, h2⟩
  | [], _ :: _, _, _, h, _ => h.elim
  | _ :: _, [], _, _, h, _ => h.elim
/-- other things stay: such lists do, where a list that is none of them grows -/
theorem LsAll.keep {H H' : Hp} {L : Addr} (k : ∀ a o, a ≠ L → H a = some o → H' a = some o) (tk : TupK H H') : ∀ {vs : List V} {os : List (Option Item)}, V.ref L ∉ vs → LsAll H vs os → LsAll H' vs os
  | [], [], _, _ => True.intro
  | v :: vs, o :: os, n, h => by
    obtain ⟨⟨D, xs, e, h1, h2⟩, hr⟩ := h
    have nD : D ≠ L := fun z => n (by rw [e, z]; exact List.mem_cons_self)
    exact ⟨⟨D, xs, e, k _ _ nD h1, h2.keep tk⟩, LsAll.keep k tk (fun z => n (List.mem_cons_of_mem _ z)) hr⟩
  | [], _ :: _, _, h => h.elim
  | _ :: _, [], _, h => h.elim
theorem LsAll.same {H H' : Hp} (s : Same H H') : ∀ {vs : List V} {os : List (Option Item)}, LsAll H vs os → LsAll H' vs os
  | [], [], _ => True.intro
  | v :: vs, o :: os, h => ⟨h.1.same s, LsAll.same s h.2⟩
  | [], _ :: _, h => h.elim
  | _ :: _, [], h => h.elim
theorem LsAll.dp {K : PySem.W.Frag} {H : Hp} : ∀ {vs : List V} {os : List (Option Item)}, LsAll H vs os → DpAll K H vs (os.map lsD)
  | [], [], _ => .nil
  | v :: vs, o :: os, h => by
    obtain ⟨⟨D, xs, rfl, h1, h2⟩, hr⟩ := h
    exact .cons (.lst (SqL.of h1) h2.dp) (LsAll.dp hr)
  | [], _ :: _, h => h.elim
  | _ :: _, [], h => h.elim
theorem ls_lay {o : Option Item} (h : fineOpt o = true) : PyData.canLay0 (lsD o) = true ∧ (lsD o).depth ≤ 5 := by
  cases o with
  | none => exact ⟨rfl, by simp [lsD, PyData.depth, PyData.depthAll]⟩
  | some c =>
    obtain ⟨a1, a2, _⟩ := it_lay (show fineItem c = true from h)
    refine ⟨?_, ?_⟩
    · show (PyData.canLay0 (itD c) && true) = true
      rw [a1]
      rfl
    · show (PyData.list [itD c]).depth ≤ 5
      simp only [PyData.depth, PyData.depthAll]
      omega
theorem found_shaped {l : List (Option Item)} (h : ∀ o ∈ l, fineOpt o = true) : SeqAt.shaped (.list (l.map lsD)) = true := by
  have g : ∀ l : List (Option Item), (∀ o ∈ l, fineOpt o = true) → PyData.canLayAll0 (l.map lsD) = true ∧ PyData.depthAll (l.map lsD) ≤ 5 := by
    intro l
    induction l with
    | nil => exact fun _ => ⟨rfl, by simp [PyData.depthAll]⟩
    | cons o r ih =>
      intro h
      obtain ⟨h1, h2⟩ := ls_lay (h o (by simp))
      obtain ⟨h3, h4⟩ := ih fun y hy => h y (List.mem_cons_of_mem _ hy)
      refine ⟨?_, ?_⟩
      · show (PyData.canLay0 (lsD o) && PyData.canLayAll0 (r.map lsD)) = true
        rw [h1, h3]
        rfl
      · rw [List.map_cons]
        simp only [PyData.depthAll]
        omega
  obtain ⟨h1, h2⟩ := g l h
  show (PyData.canLay0 (.list (l.map lsD)) && decide ((PyData.list (l.map lsD)).depth ≤ 64)) = true
  rw [show PyData.canLay0 (.list (l.map lsD)) = true from h1, decide_eq_true (by simp only [PyData.depth]; omega)]
  rfl
theorem any_empty : ∀ l : List (Option Item), ((l.map lsD).any fun z => PyData.eqv z (.list [])) = !(l.all Option.isSome)
  | [] => rfl
  | none :: r => rfl
  | some c :: r => by
    show (PyData.eqv (lsD (some c)) (.list []) || ((r.map lsD).any fun z => PyData.eqv z (.list []))) = !(true && r.all Option.isSome)
    rw [any_empty r, Bool.true_and]
    rfl
section
variable {P : Program} {w : World} {K : PySem.W.Frag} {mg : Str → Option Value} {base : Heap} {sA : Addr}
theorem ok_lrunIn {f fC : Addr} {fd fdC : FuncData} (F : Fun K "_law_run_in" "_law_run_in" sLRunIn f fd) (T : NatR mg)
    (GC : FnOk P w K mg base CX0 2 fC fdC ["_law_text"] spLIn) (gC : mg "_law_choice_in" = some (.ref fC)) (kC : PySem.W.keepIn K (.ref fC) = true) (bC : Binds K fdC ["_law_text"] []) :
    FnOk P w K mg base CX0 3 f fd ["_law_text"] spLRunIn := by
  refine F.ok scLRunIn (fun vs H Q E h => ?_) (fun cdv A outer s H vs Q E hr h => ?_)
  · obtain ⟨x, rfl, _⟩ := h
    rfl
  · obtain ⟨x, rfl, hx, q⟩ := h
    refine ⟨_, pss_cons (ps_if (pt_cmpR op_eq (pv 0) pe_str (nomark _)) (pss_one (ps_ret (pe_lst (pa_cons (pe_tup pa_nil) pa_nil)))) pss_nil)
      (pss_cons (ps_setLc (own := [("_law_part", 2)]) (g := gName 2) (i := 1) (te := tCall spLIn [] E0 (tCons (tVar 2) tNil)) rfl scLRunIn.nd rfl rfl (sw_true rfl rfl rfl (by decide +kernel)) (pi_list (pe_split (pv 0) pe_str)) (blkOk_by (own := [("_law_part", 2)]) (N := ["_law_text", "_law_found", "_law_part", "_law_one"]) (sc := defScope sLRunIn) (by decide +kernel))
        (fun _ _ _ _ _ => pg_name (i := 2) scLRunIn.nd rfl (Or.inl rfl)) (fun _ _ _ _ _ => pts_nil) (fun _ _ _ _ _ => pe_call GC hr (by rfl) gC kC bC .nil pass0 (pa_cons (pv 2) pa_nil)))
      (pss_one (ps_ret (pe_ifExp (pt_cmpR (op_notInD (u65 hr)) (pe_lst pa_nil) (pv 1) (by rfl)) (pe_lst (pa_cons (pe_callTy call_tuple_of (by rfl) T.tuple (by decide +kernel) (pa_cons
        (pe_lc (own := [("_law_one", 3)]) (g := gName 3) (tt := tYes) (te := tOp (rIxL K) (tVar 3) (tC (.int 0))) rfl scLRunIn.nd (pi_list (pv 1)) (blkOk_by (own := [("_law_one", 3)]) (N := ["_law_text", "_law_found", "_law_part", "_law_one"]) (sc := defScope sLRunIn) (by decide +kernel))
          (fun _ _ _ _ _ => pg_name (i := 3) scLRunIn.nd rfl (Or.inl rfl)) (fun _ _ _ _ _ => pts_nil) (fun _ _ _ _ _ => pe_ix ix_list (pv 3) pe_int (fun _ _ => rfl))) pa_nil)) pa_nil)) (pe_lst pa_nil))))), ?_⟩
    unfold readRun at q
    refine seq_go (ifs_go (test_go (op_go ⟨_, rfl, rfl, _, rfl, ?_⟩)))
    rw [dec_str]
    refine ite2 (fun c => ?_) fun c => ?_
    · rw [if_pos c] at q
      refine ⟨Nat.zero_le _, fun p hp => ⟨(by show 1 ≤ sizeLine; decide), fun D hD => ?_⟩⟩
      have s1 := same_new (o := .tup []) hp
      have s2 := same_new (o := .lst [V.ref p]) hD
      refine q D [.ref p] _ (s1.free hD) (s1.trans s2) upd_same (tds_one (td_of (s2 _ _ upd_same) ?_))
      show TDs _ [] []
      unfold TDs
      exact True.intro
    rw [if_neg c] at q
    refine next_go ?_
    dsimp only
    have ok2 := split_ok hx ", "
    have fine : ∀ o ∈ (Txt.split x ", ").map readCh, fineOpt o = true := fun o ho => by
      obtain ⟨p, _, rfl⟩ := List.mem_map.mp ho
      cases e : readCh p with
      | none => rfl
      | some c => exact read_fine e
    have ef : (Txt.split x ", ").filterMap readCh = ((Txt.split x ", ").map readCh).filterMap id := by
      rw [List.filterMap_map]
      rfl
    rw [ef] at q
    generalize hps : Txt.split x ", " = ps at q ok2 fine
    refine seq_go ⟨_, rfl, ⟨_, rfl⟩, _, _, rfl, rfl, by decide, szI (by have := hx.1; omega), fun p np => ?_⟩
    have s1 := same_new (o := .lst (ps.map V.str)) np
    rw [hps]
    have hp : (upd H p (.lst (ps.map V.str))) p = some (.lst (ps.map V.str)) := upd_same
    generalize upd H p (.lst (ps.map V.str)) = H1 at s1 hp ⊢
    refine ⟨p, rfl, ⟨_, SqL.of hp⟩, fun L hL => lc_list (xs := ps.map V.str) (fun n H' => Same H1 H' ∧ ∃ us, H' L = some (.lst us) ∧ V.ref L ∉ us ∧ LsAll H' us ((ps.take n).map readCh)) ⟨same_new hL, [], upd_same, List.not_mem_nil, by rw [List.take_zero]; exact True.intro⟩
      (fun n H' _ q => SqL.of (q.1 _ _ hp)) (fun n y H' hy q => ?_) fun H' q' => ?_⟩
    · obtain ⟨sq, us, hu, nu, tu⟩ := q
      obtain ⟨part, hpt, rfl⟩ := map_get hy
      have hn' := (List.getElem?_eq_some_iff.mp hpt).1
      have et : ps.take (n + 1) = ps.take n ++ [part] := by
        rw [List.take_succ_eq_append_getElem hn', (List.getElem?_eq_some_iff.mp hpt).2]
      have lu := tu.len
      rw [List.length_map, List.length_take] at lu
      refine ⟨rfl, ?_⟩
      refine ⟨_, rfl, part, rfl, ok2.2 _ (List.mem_of_getElem? hpt), fun D xs H3 nD s3 hD tD => ?_⟩
      have h3 := s3 _ _ hu
      have dL : D ≠ L := fun z => by
        rw [z, hu] at nD
        cases nD
      refine ⟨us, h3, ?_, same_fill hL (sq.trans s3), us ++ [.ref D], upd_same, ?_, ?_⟩
      · rw [sizeLine_eq]
        have := ok2.1
        omega
      · intro z
        rcases List.mem_append.mp z with z | z
        · exact nu z
        · have z2 := List.mem_singleton.mp z
          injection z2 with z3
          exact dL z3.symm
      · rw [et, List.map_append]
        refine LsAll.keep (fun a o na e => by rw [upd_ne na]; exact e) (tk_lst h3) ?_ (LsAll.app (tu.same s3) ⟨⟨D, xs, rfl, hD, tD⟩, True.intro⟩)
        intro z
        rcases List.mem_append.mp z with z | z
        · exact nu z
        · have z2 := List.mem_singleton.mp z
          injection z2 with z3
          exact dL z3.symm
    · obtain ⟨sq, us, hu, nu, tu⟩ := q'
      rw [List.length_map, List.take_length] at tu
      refine name_go ?_
      dsimp only
      have sH := s1.trans sq
      refine ⟨Nat.zero_le _, fun e he => ?_⟩
      have s3 := same_new (o := .lst []) he
      refine ⟨_, rfl, .list [], _, .lst (SqL.of upd_same) .nil, .lst (SqL.of (s3 _ _ hu)) (LsAll.dp (tu.same s3)), by decide, found_shaped fine, _, rfl, ?_⟩
      rw [any_empty, Bool.not_not]
      have tu := tu.same s3
      have hu := s3 _ _ hu
      have sH := sH.trans s3
      generalize upd H' e (.lst []) = H2 at tu hu sH ⊢
      refine ite2 (fun c3 => ?_) fun c3 => ?_
      rotate_left
      · rw [if_neg c3] at q
        refine ⟨Nat.zero_le _, fun D hD => q D [] _ (sH.free hD) (sH.trans (same_new hD)) upd_same ?_⟩
        show TDs _ [] []
        unfold TDs
        exact True.intro
      rw [if_pos c3] at q
      rw [all_some c3] at tu
      have lr := ok2.1
      have lr2 : ((ps.map readCh).filterMap id).length ≤ ps.length := Nat.le_trans (List.length_filterMap_le _ _) (by rw [List.length_map]; exact Nat.le_refl _)
      generalize (ps.map readCh).filterMap id = r at q tu lr2
      have lu := tu.len
      rw [List.length_map] at lu
      refine ⟨_, rfl, L, rfl, ⟨_, SqL.of hu⟩, fun M hM => lc_list (xs := us) (fun n H3 => Same H2 H3 ∧ ∃ ws, H3 M = some (.lst ws) ∧ TDs H3 ws ((r.take n).map itD)) ⟨same_new hM, [], upd_same, by rw [List.take_zero]; unfold TDs; exact True.intro⟩
        (fun n H3 _ q => SqL.of (q.1 _ _ hu)) (fun n y H3 hy q' => ?_) fun H3 q' => ?_⟩
      · obtain ⟨sq2, ws, hw, tw⟩ := q'
        obtain ⟨o, ho, la⟩ := tu.get hy
        rw [List.getElem?_map] at ho
        obtain ⟨c, hc, rfl⟩ := Option.map_eq_some_iff.mp ho
        have hn' := (List.getElem?_eq_some_iff.mp hc).1
        obtain ⟨D, xs, rfl, hD, tD⟩ := la.same sq2
        have tD : TDs H3 xs [itD c] := tD
        have lw := tw.len
        rw [List.length_map, List.length_take] at lw
        match xs, tD with
        | [v], tD =>
          unfold TDs at tD
          refine ⟨rfl, ?_⟩
          refine ⟨_, rfl, D, _, _, v, rfl, rfl, SqL.of hD, rfl, ws, hw, ?_, same_fill hM sq2, ws ++ [v], upd_same, ?_⟩
          · rw [sizeLine_eq]
            omega
          · rw [List.take_succ_eq_append_getElem hn', List.map_append, (List.getElem?_eq_some_iff.mp hc).2]
            exact (tw.app (tds_one tD.1)).keep (tk_lst hw)
        | [], tD => unfold TDs at tD; exact tD.elim
        | _ :: _ :: _, tD => unfold TDs TDs at tD; exact tD.2.elim
      · obtain ⟨sq2, ws, hw, tw⟩ := q'
        rw [lu, List.take_length] at tw
        refine ⟨M, ws, rfl, .inl ⟨SqL.of hw, fun l hl => ⟨(by show 1 ≤ sizeLine; decide), fun D hD => ?_⟩⟩⟩
        have s5 := same_new (o := .tup ws) hl
        have s6 := same_new (o := .lst [V.ref l]) hD
        refine q D [.ref l] _ ((sH.trans (sq2.trans s5)).free hD) (sH.trans (sq2.trans (s5.trans s6))) upd_same (tds_one (td_of (s6 _ _ upd_same) ((tw.keep (Same.tk s5)).keep (Same.tk s6))))
end
end Sc

set_option maxRecDepth 100000
set_option maxHeartbeats 1000000
namespace Sc
open PySem L2 PySem.Spec PyProof.Rows TL
abbrev sLRR : Stmt := top 30
theorem scLRR : FnScope ["_law_value", "_law_due", "_law_caught", "_law_found", "error"] ["_law_value", "_law_due"] (defScope sLRR) := ⟨rfl, rfl, rfl, by decide +kernel, rfl, by decide +kernel, by decide +kernel⟩
/-- what the top says of ScriptError -/
structure TopE (K : PySem.W.Frag) (mg : Str → Option Value) (S : Addr) : Prop where
  g : mg "ScriptError" = some (.ref S)
  sub : PySem.W.subIn K (.ref S) (.type "BaseException") = some true
  hd : PySem.W.hasDictIn K S = true
  ty : PySem.W.typeIn K (.ref S) = some (.type "type")
def spRR (K : PySem.W.Frag) : Sp := fun vs H Q _ => ∃ (v : V) (b : Addr) (o : Option (List Item)) (xs : List V) (d : PyData), vs = [v, .ref b] ∧ H b = some (.lst xs) ∧ TDs H xs (o.toList.map runD) ∧
  ((∃ x, v = .str x ∧ TxtOk x ∧ readRun x = o) ∨ (NoText K H v ∧ o = none)) ∧ DatAt H v d ∧ Fits d ∧ ∀ H', Same H H' → Q (.bl true) H'
theorem tyof_same {K : PySem.W.Frag} {H H' : Hp} {x : V} {t : Value} (h : TyOf K H x t) (s : Same H H') : TyOf K H' x t := by
  cases h with
  | non => exact .non
  | bl b => exact .bl b
  | int i => exact .int i
  | str y => exact .str y
  | flt y => exact .flt y
  | lst e => exact .lst (s _ _ e)
  | frz e => exact .frz (s _ _ e)
  | tup e => exact .tup (s _ _ e)
  | dK e => exact .dK (s _ _ e)
  | dT e => exact .dT (s _ _ e)
  | ins e a b c d f => exact .ins (s _ _ e) a b c d f
theorem tyx_same {K : PySem.W.Frag} {H H' : Hp} {x : V} {t : Value} (h : TyX K H x t) (s : Same H H') : TyX K H' x t := by
  cases h with
  | base h => exact .base (tyof_same h s)
  | byt b => exact .byt b
  | set e => exact .set (s _ _ e)
  | kList e c => exact .kList e c
  | kTuple e c => exact .kTuple e c
  | kDict e c => exact .kDict e c
  | fTuple e => exact .fTuple (s _ _ e)
  | fDict e => exact .fDict (s _ _ e)
theorem due_shaped {o : Option (List Item)} (h : ∀ r, o = some r → ∀ c ∈ r, fineItem c = true) : SeqAt.shaped (.list (o.toList.map runD)) = true := by
  cases o with
  | none => decide
  | some r =>
    have h1 := run_shaped (h r rfl)
    have c := SeqAt.canLay_of_shaped h1
    have dp := (run_depth (h r rfl))
    show ((PyData.canLay0 (runD r) && true) && decide ((PyData.list [runD r]).depth ≤ 64)) = true
    rw [c, decide_eq_true (by simp only [PyData.depth, PyData.depthAll]; omega)]
    rfl
theorem due_eqv (o : Option (List Item)) : PyData.eqv (.list (o.toList.map runD)) (.list []) = o.isNone := by
  cases o <;> rfl
theorem two_ways {K : PySem.W.Frag} {C : Addr} {H : Hp} {Q : VK} {E : XK} {v : V} {o : Option (List Item)} (kind : (∃ x, v = .str x ∧ TxtOk x ∧ readRun x = o) ∨ (NoText K H v ∧ o = none)) (bad : o = none → Raised C v H E)
    (ok : ∀ r, o = some r → ∀ u H', Same H H' → TD H' u (runD r) → Q u H') :
    (∃ x, v = .str x ∧ TxtOk x ∧ (∀ r, readRun x = some r → ∀ u H', Same H H' → TD H' u (runD r) → Q u H') ∧ (readRun x = none → Raised C v H E)) ∨ (NoText K H v ∧ Raised C v H E) := by
  rcases kind with ⟨x, e, hx, ho⟩ | ⟨nt, ho⟩
  · exact .inl ⟨x, e, hx, fun r er => ok r (by rw [← ho, er]), fun en => bad (by rw [← ho, en])⟩
  · exact .inr ⟨nt, bad ho⟩
section
variable {P : Program} {w : World} {K : PySem.W.Frag} {mg : Str → Option Value} {base : Heap} {S C fI : Addr} {fdI : FuncData}
theorem ok_lrr {f fR : Addr} {fd fdR : FuncData} (F : Fun K "_law_read_right" "_law_read_right" sLRR f fd) (T : NatR mg) (B : ErrK K mg S C fI "BadText") (TE : TopE K mg S) (D : ClsD K)
    (GR : FnOk P w K mg base (L2.CX P w) 5 fR fdR ["text"] (spReadRun K C)) (gR : mg "read_run" = some (.ref fR)) (kR : PySem.W.keepIn K (.ref fR) = true) (bR : Binds K fdR ["text"] []) :
    FnOkG P w K mg base 6 f fd ["_law_value", "_law_due"] (spRR K) := by
  refine okG F scLRR (fun vs H Q E h => ?_) (fun cdv A outer s H vs Q E hG hr h => ?_)
  · obtain ⟨v, b, o, xs, d, rfl, _⟩ := h
    rfl
  · obtain ⟨v, b, o, xs, d, rfl, hb, tx, kind, dat, fit, q⟩ := h
    have hr1 : Room 1 _ := hr.mono (by decide)
    refine ⟨_, pss_cons (ps_asg (pe_tup (pa_cons pe_non (pa_cons pe_non pa_nil))) (pg_tup (by rfl) (pgs_cons (pg_name (i := 2) scLRR.nd rfl (.inl rfl)) (pgs_cons (pg_name (i := 3) scLRR.nd rfl (.inl rfl)) pgs_nil))))
      (pss_cons (ps_try_keep (i := 4) (Wout := fun _ _ _ _ => False) rfl rfl rfl scLRR.nd rfl rfl ⟨rfl, by decide, .inl TE.g⟩ takes0
          (fun W pn xe tk _ => pss_one (ps_set (i := 3) scLRR.nd rfl (Or.inl rfl) (pe_callS GR hr rfl gR kR bR (fun σ => passAt tk σ) (pa_cons (pv 0) pa_nil))))
          (fun a ob cls d pn _ _ => pss_one (ps_set (i := 2) scLRR.nd rfl (Or.inl rfl) (pv 4))))
      (pss_cons (ps_if (pt_cmpR (op_neD hr.units) (pv 1) (pe_lst pa_nil) (nomark _))
        (pss_one (ps_ret (pe_and (pe_cmpR op_isN (pv 2) pe_non (nomark _)) (pe_one (pe_cmpR op_eq (pe_callB (call_reprP hr hG) (by rfl) T.repr PyProof.Rows.boot_repr (pa_cons (pv 3) pa_nil)) (pe_callB (call_reprP hr hG) (by rfl) T.repr PyProof.Rows.boot_repr (pa_cons (pe_ix ix_list (pv 1) pe_int (fun _ _ => rfl)) pa_nil)) (nomark _)))))) pss_nil)
      (pss_one (ps_ret (pe_and (pe_callB (call_isK B D) (by rfl) T.isi PyProof.Rows.boot_isinstance (pa_cons (pv 2) (pa_cons (pe_glob (v := .ref C) (by rfl) B.gC rfl) pa_nil)))
        (pe_one (pe_cmpR op_eq (pe_callB (call_reprP hr hG) (by rfl) T.repr PyProof.Rows.boot_repr (pa_cons (pe_keptV B (pv 2)) pa_nil)) (pe_callB (call_reprP hr hG) (by rfl) T.repr PyProof.Rows.boot_repr (pa_cons (pv 0) pa_nil)) (nomark _)))))))), ?_⟩
    have fineO : ∀ r, o = some r → (∀ c ∈ r, fineItem c = true) ∧ r.length ≤ 20002 := by
      intro r e
      rcases kind with ⟨x, _, hx, h1⟩ | ⟨_, h1⟩
      · rw [e] at h1
        exact ⟨run_fine h1, run_len' hx h1⟩
      · rw [e] at h1
        cases h1
    have dueS := due_shaped (o := o) fun r e => (fineO r e).1
    refine seq_go ⟨(by show 2 ≤ sizeLine; decide), fun t0 n0 => ?_⟩
    have s0 := same_new (o := .tup [V.non, V.non]) n0
    refine ⟨t0, [.non, .non], rfl, SqT.of upd_same, rfl, .non, [.non], rfl, .non, [], rfl, rfl, ?_⟩
    have hb := s0 _ _ hb
    have tx := tx.keep (Same.tk s0)
    have dat := dat.same s0
    have kind0 : (∃ x, v = .str x ∧ TxtOk x ∧ readRun x = o) ∨ (NoText K (upd H t0 (.tup [V.non, V.non])) v ∧ o = none) := by
      rcases kind with h1 | ⟨⟨t, ty, e⟩, h2⟩
      · exact .inl h1
      · exact .inr ⟨⟨t, tyx_same ty s0, e⟩, h2⟩
    generalize upd H t0 (.tup [V.non, V.non]) = H1 at s0 hb tx dat kind0 ⊢
    dsimp only
    -- an error comes: it is kept
    have err : ∀ {D' : Ends} {σ : L2.St} {d' : Addr} {H2 : Hp}, Same H1 H2 → H2 d' = some (.xd [(vName, v)]) → (∀ a H3, Same H1 H3 → Caught H3 C a v → D'.nx (((σ.set 4 (some (.ref a))).set 2 (some (.ref a))).set 4 none) H3) →
        (σ.set 4 (some (.ref 0)))[4]? = some (some (.ref 0)) →
        wKeep K (.ref S) 4 (fun a _ _ => tAsg (tVar 4) (gName 2)) (fun _ _ _ _ => False) D' (.ref C) (some d') σ H2 := by
      intro D' σ d' H2 s2 hd nx h4
      have sb : PySem.W.subIn K (.ref C) (.ref S) = some true := by
        rw [B.sub]
        simp
      refine ⟨true, PySem.W.exm_ref TE.sub TE.hd TE.ty sb, (fun (z : true = false) => by cases z), (fun _ => ⟨C, rfl, fun a na => ?_⟩)⟩
      have l4 : 4 < σ.length := by
        have := (List.getElem?_eq_some_iff.mp h4).1
        simpa using this
      refine ⟨.ref a, List.getElem?_set_self l4, ?_⟩
      have s3 := same_new (o := exk a C (some d')) na
      exact nx a _ (s2.trans s3) ⟨d', upd_same, s3 _ _ hd⟩
    refine seq_go ?_
    refine ⟨_, rfl, v, rfl, ?_⟩
    refine two_ways kind0 (fun eo d' H2 s2 hd => ?_) fun r eo u H2 s2 tu => ?_
    rotate_left
    focus
      subst eo
      refine name_go ?_
      dsimp only
      have hb2 := s2 _ _ hb
      have tx2 := tx.keep (Same.tk s2)
      refine seq_go (ifs_go (test_go (op_go ⟨_, rfl, Nat.zero_le _, fun e ne => ?_⟩)))
      have s3 := same_new (o := .lst []) ne
      refine ⟨_, _, .lst (SqL.of (s3 _ _ hb2)) (tx2.keep (Same.tk s3)).dp, .lst (SqL.of upd_same) .nil, dueS, by decide, _, rfl, ?_⟩
      rw [due_eqv]
      refine ite2 (fun _ => ?_) fun z => absurd rfl z
      have tx3 := tx2.keep (Same.tk s3)
      have hb3 := s3 _ _ hb2
      have tu3 := tu.keep (Same.tk s3)
      have s13 := s0.trans (s2.trans s3)
      generalize upd H2 e (.lst []) = H3 at tx3 hb3 tu3 s13 ⊢
      obtain ⟨fr, lr⟩ := fineO r rfl
      have tx4 : TDs H3 xs [runD r] := tx3
      match xs, tx4 with
      | [y], tx4 =>
        unfold TDs at tx4
        refine ⟨_, rfl, rfl, tst_go (ite2 (fun _ => ?_) fun z => absurd rfl z)⟩
        refine ⟨_, rfl, u, runD r, rfl, .inl ⟨tu3.dp, run_nodict fr⟩, run_fits fr lr, _, rfl, b, _, _, y, rfl, rfl, SqL.of hb3, rfl, y, runD r, rfl, .inl ⟨tx4.1.dp, run_nodict fr⟩, run_fits fr lr, rfl, ?_⟩
        rw [decide_eq_true (rfl : V.str (runD r).shown = V.str (runD r).shown)]
        exact q H3 s13
      | [], tx4 => unfold TDs at tx4; exact tx4.elim
      | _ :: _ :: _, tx4 => unfold TDs TDs at tx4; exact tx4.2.elim

    subst eo
    refine err s2 hd (fun a H3 s3 ct => ?_) rfl
    dsimp only
    have hb3 := s3 _ _ hb
    have tx3 := tx.keep (Same.tk s3)
    have dat3 := dat.same s3
    refine seq_go (ifs_go (test_go (op_go ⟨_, rfl, Nat.zero_le _, fun e ne => ?_⟩)))
    have s4 := same_new (o := .lst []) ne
    refine ⟨_, _, .lst (SqL.of (s4 _ _ hb3)) (tx3.keep (Same.tk s4)).dp, .lst (SqL.of upd_same) .nil, dueS, by decide, _, rfl, ?_⟩
    rw [due_eqv]
    refine ite2 (fun z => absurd z (by decide)) fun _ => ?_
    have ct4 := ct.same s4
    have dat4 := dat3.same s4
    have s14 := s0.trans (s3.trans s4)
    generalize upd H3 e (.lst []) = H4 at ct4 dat4 s14 ⊢
    refine next_go ?_
    dsimp only
    have kone : PySem.W.kitOne K (.ref C) (.ref C) = some true := by
      unfold PySem.W.kitOne
      rw [if_pos (by simp)]
    refine ⟨_, rfl, a, v, .ref C, .ref C, true, rfl, ct4, fun u ru => ru, kone, tst_go (ite2 (fun _ => ?_) fun z => absurd rfl z)⟩
    refine ⟨_, rfl, a, v, rfl, ct4, v, d, rfl, .inr dat4, fit, _, rfl, v, d, rfl, .inr dat4, fit, rfl, ?_⟩
    rw [decide_eq_true (rfl : V.str d.shown = V.str d.shown)]
    exact q H4 s14
end
end Sc

set_option maxRecDepth 100000
set_option maxHeartbeats 1000000
namespace Sc
open PySem L2 PySem.Spec PyProof.Rows TL
abbrev sLRight : Stmt := top 31
theorem scLRight : FnScope ["_law_pot", "_law_run", "_law_text", "_law_turn", "_law_at", "_law_sign", "_law_bent", "_law_choice", "_law_stop"] ["_law_pot"] (defScope sLRight) := ⟨rfl, rfl, rfl, by decide +kernel, rfl, by decide +kernel, by decide +kernel⟩
/-! ### the texts are right ones -/
theorem joinL_mem {S : List Nat} {c : Nat} : ∀ {ps : List (List Nat)}, c ∈ joinL S ps → c ∈ S ∨ ∃ p ∈ ps, c ∈ p
  | [], h => nomatch h
  | [p], h => .inr ⟨p, by simp, h⟩
  | p :: q :: r, h => by
    have h : c ∈ p ++ (S ++ joinL S (q :: r)) := h
    rcases List.mem_append.mp h with h | h
    · exact .inr ⟨p, by simp, h⟩
    · rcases List.mem_append.mp h with h | h
      · exact .inl h
      · rcases joinL_mem h with h | ⟨z, h1, h2⟩
        · exact .inl h
        · exact .inr ⟨z, List.mem_cons_of_mem _ h1, h2⟩
theorem show_strOk {c : Item} (h : goodItem c = true) : PyData.strOk (showCh c) = true := by
  unfold goodItem at h
  simp only [Bool.and_eq_true] at h
  exact h.2.2.2.2.2
theorem run_txt {r : List Item} (h : ∀ c ∈ r, goodItem c = true) (hl : r.length ≤ 6) : TxtOk (showRun r) ∧ (showRun r).length ≤ 260 := by
  have l := run_len h hl
  refine ⟨⟨by omega, ?_⟩, l⟩
  unfold showRun
  split
  · decide +kernel
  · refine strOk_iff.mpr fun c hc => ?_
    have hc : c ∈ tl (Txt.join comma (r.map showCh)) := hc
    rw [join_eq, tl_join] at hc
    rcases joinL_mem hc with h1 | ⟨p, h1, h2⟩
    · rw [comma_tl] at h1
      simp at h1
      omega
    · rw [List.map_map] at h1
      obtain ⟨d, hd, rfl⟩ := List.mem_map.mp h1
      exact strOk_iff.mp (show_strOk (h d hd)) c h2
theorem txt_app {x y : Str} (hx : PyData.strOk x = true) (hy : PyData.strOk y = true) : PyData.strOk (x ++ y) = true := by
  refine strOk_iff.mpr fun c hc => ?_
  have hc : c ∈ tl (x ++ y) := hc
  rw [tl_append] at hc
  rcases List.mem_append.mp hc with h | h
  · exact strOk_iff.mp hx c h
  · exact strOk_iff.mp hy c h
theorem cut_len (x : Str) (lo hi : Option Int) : (cutS x lo hi).length ≤ x.length := by
  have e : x.length = x.cps.toList.length := (Array.length_toList).symm
  show (List.toArray _).size ≤ _
  rw [List.size_toArray, List.length_take, List.length_drop, e]
  omega
theorem szI' {n : Nat} (h : n ≤ 1000000) : n ≤ sizeLine := by
  rw [sizeLine_eq]
  omega
theorem txt_fits {x : Str} (h : TxtOk x) : Fits (.str x) := by
  refine ⟨rfl, by simp [PyData.depth], ?_⟩
  have h2 := StrLaws.reprText_len x fun c hc => Nat.lt_trans (strOk_iff.mp h.2 c hc) (by decide)
  have e : (PyData.str x).shown = reprText x := by simp only [PyData.shown]
  have h1 := h.1
  rw [e]
  exact szI' (by omega)
theorem forT_go {K : PySem.W.Frag} {σ : L2.St} {H : Hp} {D : Ends} {t : L2.TA} {g : TG} {tb : TS} (h : t σ H (TupEnd fun x H1 => ∃ a, x = V.ref a ∧ (∃ xs, SqT K H1 a xs) ∧ tFor (fun _ H2 R => R (Itt K a) H2) g tb D σ H1)) : tFor (iTup K (tTup t)) g tb D σ H := h
def signs : List Str := [" ", ",", ".", "a", "0", "-", "\n", "stop ", "A", "", "_", "\t", "+"]
theorem signs_ok : signs.all (fun x => decide (x.length ≤ 5) && PyData.strOk x) = true := by decide +kernel
theorem run_eqv (r : List Item) : PyData.eqv (runD r) (.tuple []) = r.isEmpty := by cases r <;> rfl
def spLRight : Sp := fun vs H Q _ => ∃ (p : Addr) (N : Nat), vs = [.ref p] ∧ PotAt H p N ∧ N < 80000 ∧ ∀ H', PotAt H' p (N + 40) → SameBut p H H' → Q (.bl true) H'
section
variable {P : Program} {w : World} {K : PySem.W.Frag} {mg : Str → Option Value} {base : Heap}
theorem ok_lright {f fD fT fO fX fS fR fI : Addr} {fd fdD fdT fdO fdX fdS fdR fdI : FuncData} (F : Fun K "_law_right" "_law_right" sLRight f fd) (T : NatR mg)
    (GD : FnOk P w K mg base CX0 4 fD fdD ["_law_pot"] spDrawn) (gD : mg "_law_drawn_choice" = some (.ref fD)) (kD : PySem.W.keepIn K (.ref fD) = true) (bD : Binds K fdD ["_law_pot"] [])
    (GT : FnOk P w K mg base CX0 1 fT fdT ["_law_pot", "_law_upto"] spTake) (gT : mg "_law_take" = some (.ref fT)) (kT : PySem.W.keepIn K (.ref fT) = true) (bT : Binds K fdT ["_law_pot", "_law_upto"] [])
    (GO : FnOk P w K mg base CX0 2 fO fdO ["_law_pot", "_law_some"] (spOf K)) (gO : mg "_law_of" = some (.ref fO)) (kO : PySem.W.keepIn K (.ref fO) = true) (bO : Binds K fdO ["_law_pot", "_law_some"] [])
    (GX : FnOk P w K mg base CX0 1 fX fdX ["_law_choice", "_law_stop"] spLText) (gX : mg "_law_choice_text" = some (.ref fX)) (kX : PySem.W.keepIn K (.ref fX) = true) (bX : Binds K fdX ["_law_choice", "_law_stop"] [])
    (GS : FnOk P w K mg base CX0 3 fS fdS ["run"] spShowRun) (gS : mg "show_run" = some (.ref fS)) (kS : PySem.W.keepIn K (.ref fS) = true) (bS : Binds K fdS ["run"] [])
    (GR : FnOkG P w K mg base 6 fR fdR ["_law_value", "_law_due"] (spRR K)) (gR : mg "_law_read_right" = some (.ref fR)) (kR : PySem.W.keepIn K (.ref fR) = true) (bR : Binds K fdR ["_law_value", "_law_due"] [])
    (GI : FnOk P w K mg base CX0 3 fI fdI ["_law_text"] spLRunIn) (gI : mg "_law_run_in" = some (.ref fI)) (kI : PySem.W.keepIn K (.ref fI) = true) (bI : Binds K fdI ["_law_text"] []) :
    FnOkG P w K mg base 7 f fd ["_law_pot"] spLRight := by
  refine okG F scLRight (fun vs H Q E h => ?_) (fun cdv A outer s H vs Q E hG hr h => ?_)
  · obtain ⟨p, N, rfl, _⟩ := h
    rfl
  · obtain ⟨p, N, rfl, hp, hN, q⟩ := h
    have hr4 : Room 4 _ := hr.mono (by decide)
    have hr3 : Room 3 _ := hr.mono (by decide)
    have hr2 : Room 2 _ := hr.mono (by decide)
    have hr1 : Room 1 _ := hr.mono (by decide)
    refine ⟨_, pss_cons (ps_set (i := 1) scLRight.nd rfl (Or.inl rfl) (pe_callTy call_tuple_of (by rfl) T.tuple (by decide +kernel) (pa_cons
        (pe_lc (own := [("_law_turn", 3)]) (g := gName 3) (tt := tYes) rfl scLRight.nd (pi_range1 (by rfl) T.range (pa_cons (pe_call GT hr1 (by rfl) gT kT bT .nil pass0 (pa_cons (pv 0) (pa_cons pe_int pa_nil))) pa_nil))
          (blkOk_by (own := [("_law_turn", 3)]) (N := ["_law_pot", "_law_run", "_law_text", "_law_turn", "_law_at", "_law_sign", "_law_bent", "_law_choice", "_law_stop"]) (sc := defScope sLRight) (by decide +kernel))
          (fun _ _ _ _ _ => pg_name (i := 3) scLRight.nd rfl (Or.inl rfl)) (fun _ _ _ _ _ => pts_nil) (fun _ _ _ _ _ => pe_call GD hr4 (by rfl) gD kD bD .nil pass0 (pa_cons (pv 0) pa_nil))) pa_nil)))
      (C8.pss_cut (ps_set (i := 2) scLRight.nd rfl (Or.inl rfl) (pe_ifExp (pt_cmpR (op_neD hr.units) (pv 1) (pe_tup pa_nil) (nomark _))
          (pe_join pe_str (pe_lc (own := [("_law_choice", 7), ("_law_stop", 8)]) (g := gTup K 2 (gCons (gName 7) (gCons (gName 8) gNil))) (tt := tYes) rfl scLRight.nd (pi_tup (pv 1)) (blkOk_by (own := [("_law_choice", 7), ("_law_stop", 8)]) (N := ["_law_pot", "_law_run", "_law_text", "_law_turn", "_law_at", "_law_sign", "_law_bent", "_law_choice", "_law_stop"]) (sc := defScope sLRight) (by decide +kernel))
            (fun _ _ _ _ _ => pg_tup rfl (pgs_cons (pg_name (i := 7) scLRight.nd rfl (Or.inl rfl)) (pgs_cons (pg_name (i := 8) scLRight.nd rfl (Or.inl rfl)) pgs_nil))) (fun _ _ _ _ _ => pts_nil) (fun _ _ _ _ _ => pe_call GX hr1 (by rfl) gX kX bX .nil pass0 (pa_cons (pv 7) (pa_cons (pv 8) pa_nil))))) pe_str))
      (pss_cons (ps_if (PW.pt (pw_or (pt_cmpR op_ne (pe_call GS hr3 (by rfl) gS kS bS .nil pass0 (pa_cons (pv 1) pa_nil)) (pv 2) (nomark _)) (pw_or1 (pt_not (pt_val (pe_callG GR hG hr (by rfl) gR kR bR (pa_cons (pv 2) (pa_cons (pe_lst (pa_cons (pv 1) pa_nil)) pa_nil))))))))
        (pss_one (ps_ret pe_bl)) pss_nil)
      (pss_cons (ps_for PassesOwn.never rfl (pi_range1 (by rfl) T.range (pa_cons pe_int pa_nil)) (pg_name (i := 3) scLRight.nd rfl (Or.inl rfl))
        (pss_cons (ps_set (i := 4) scLRight.nd rfl (Or.inl rfl) (pe_call GT hr1 (by rfl) gT kT bT .nil pass0 (pa_cons (pv 0) (pa_cons (pe_op op_add (pe_callB call_len_str (by rfl) T.len PySem.boot_len (pa_cons (pv 2) pa_nil)) pe_int) pa_nil))))
        (pss_cons (ps_set (i := 5) scLRight.nd rfl (Or.inl rfl) (pe_call GO hr2 (by rfl) gO kO bO .nil pass0 (pa_cons (pv 0) (pa_cons (pe_lst (pa_cons pe_str (pa_cons pe_str (pa_cons pe_str (pa_cons pe_str (pa_cons pe_str (pa_cons pe_str (pa_cons pe_str (pa_cons pe_str (pa_cons pe_str (pa_cons pe_str (pa_cons pe_str (pa_cons pe_str (pa_cons pe_str pa_nil)))))))))))))) pa_nil))))
        (pss_one (ps_for PassesOwn.never rfl (pi_tup (pe_tup (pa_cons (pe_op op_add_str (pe_op op_add_str (pe_slice sl_str (pv 2) po_none (po_some (pv 4))) (pv 5)) (pe_slice sl_str (pv 2) (po_some (pv 4)) po_none))
            (pa_cons (pe_op op_add_str (pe_op op_add_str (pe_slice sl_str (pv 2) po_none (po_some (pv 4))) (pv 5)) (pe_slice sl_str (pv 2) (po_some (pe_op op_add (pv 4) pe_int)) po_none))
            (pa_cons (pe_slice sl_str (pv 2) po_none (po_some (pv 4))) pa_nil))))) (pg_name (i := 6) scLRight.nd rfl (Or.inl rfl))
          (pss_one (ps_if (pt_not (pt_val (pe_callG GR hG hr (by rfl) gR kR bR (pa_cons (pv 6) (pa_cons (pe_call GI hr3 (by rfl) gI kI bI .nil pass0 (pa_cons (pv 6) pa_nil)) pa_nil))))) (pss_one (ps_ret pe_bl)) pss_nil)))))))
      (pss_one (ps_ret pe_bl))))), ?_⟩
    -- the run is drawn
    refine seq_go ?_
    refine cb_go (cons_go ?_)
    refine ⟨_, rfl, p, 7, N, rfl, hp, by omega, by decide, by decide, fun d H1 d0 d7 p1 k1 => ⟨d, rfl, by omega, by omega, fun L hL => ?_⟩⟩
    have nLp : L ≠ p := by
      obtain ⟨x, y, z, e⟩ := p1.three
      exact (ne_of_none e hL).symm
    refine lc_range (lo := 0) (n := d.toNat) (fun n H' => ∃ us cs, H' L = some (.lst us) ∧ TDs H' us (cs.map itD) ∧ cs.length = n ∧ (∀ c ∈ cs, c ∈ drawnItems) ∧ PotAt H' p (N + 1 + 4 * n) ∧ SameBut p H1 H' ∧ n ≤ d.toNat) ⟨[], [], upd_same, by unfold TDs; exact True.intro, rfl, (fun c hc => absurd hc List.not_mem_nil), (p1.same (same_new hL)).mono (by omega), same_but (same_new hL), Nat.zero_le _⟩ ?_ ?_
    · rintro n H2 hn ⟨us, cs, hu, tu, lc, mc, p2, k2, hn2⟩
      refine ⟨rfl, _, rfl, p, N + 1 + 4 * n, rfl, p2, by omega, fun c v H3 hc tv p3 k3 => ?_⟩
      have h3 := k3 _ _ hu nLp
      have lu := tu.len
      rw [List.length_map] at lu
      have tkk : TupK H2 H3 := SameBut.tk p2.three k3
      refine ⟨us, h3, ?_, us ++ [v], cs ++ [c], upd_same, ?_, by rw [List.length_append, lc]; rfl, fun x hx => ?_, ?_, ?_, by omega⟩
      · rw [sizeLine_eq]
        omega
      · rw [List.map_append]
        exact ((tu.keep tkk).app (tds_one tv)).keep (tk_lst h3)
      · rcases List.mem_append.mp hx with h | h
        · exact mc x h
        · rw [List.mem_singleton.mp h]
          exact hc
      · obtain ⟨x, y, z, e, r⟩ := p3
        refine PotAt.mono ⟨x, y, z, (upd_ne nLp.symm).trans e, r⟩ (by omega)
      · intro b o hb nb
        rw [upd_ne (ne_of_none hb hL)]
        exact k3 _ _ (k2 b o hb nb) nb
    rintro H2 ⟨us, cs, hu, tu, lc, mc, p2, k2, _⟩
    refine ⟨L, us, rfl, .inl ⟨SqL.of hu, fun t nt => ?_⟩⟩
    have s3 := same_new (o := .tup us) nt
    have tr : TD (upd H2 t (.tup us)) (.ref t) (runD cs) := td_of upd_same (tu.keep (Same.tk s3))
    have p3 := p2.same s3
    have k13 := (k1.trans k2).trans (same_but s3)
    generalize upd H2 t (.tup us) = H3 at s3 tr p3 k13 ⊢
    have l6 : cs.length ≤ 6 := by omega
    have gd : ∀ c ∈ cs, plainItem c = true ∧ goodItem c = true := fun c hc => ⟨plain_of (mc c hc), good_of (mc c hc)⟩
    obtain ⟨tok, tlen⟩ := run_txt (fun c hc => (gd c hc).2) l6
    have back := run_back fun c hc => (gd c hc).2
    refine name_go ?_
    dsimp only
    -- its text
    refine ⟨fun σ' H' => σ' = [some (.ref p), some (.ref t), some (.str (showRun cs)), none, none, none, none, none, none] ∧ Same H3 H', ?_, ?_⟩
    · refine ⟨_, rfl, Nat.zero_le _, fun e ne => ?_⟩
      have s4 := same_new (o := .tup []) ne
      have tr4 := tr.keep (Same.tk s4)
      refine ⟨_, _, tr4.dp, .tup (.inl (.inl upd_same)) .nil, run_shaped (fun c hc => run_fine back c hc), by decide, _, rfl, ?_⟩
      rw [run_eqv]
      generalize upd H3 e (.tup []) = H4 at s4 tr4 ⊢
      by_cases ce : cs.isEmpty = true
      · have es : showRun cs = "-" := by
          unfold showRun
          rw [if_pos ce]
        rw [ce]
        refine iteF ?_
        rw [← es]
        exact ⟨rfl, s4⟩
      · have es : showRun cs = Txt.join ", " (cs.map showCh) := by
          unfold showRun
          rw [if_neg ce]
        have cf : cs.isEmpty = false := by simpa using ce
        rw [cf]
        refine iteT ?_
        refine ⟨⟨_, rfl⟩, texts_go tr4 rfl (by omega) (fun u x => rfl) (fun c u x H' hc hu hx R k => ⟨_, rfl, _, rfl, u, x, c, rfl, hu, hx, (gd c hc).1, fun H5 s5 => k H5 s5⟩) fun D H5 s5 hD => ?_⟩
        refine ⟨_, D, cs.map showCh, rfl, rfl, .inl (SqL.of hD), joined_ok (fun c hc => (gd c hc).2) l6, ?_⟩
        rw [← es]
        exact ⟨rfl, s4.trans s5⟩
    rintro σ' H4 ⟨rfl, s4⟩
    have tr4 := tr.keep (Same.tk s4)
    have p4 := p3.same s4
    have k14 := k13.trans (same_but s4)
    refine seq_go (ifs_go (or_go (test_go (op_go ⟨_, rfl, .ref t, cs, rfl, tr4, l6, gd, fun H5 s5 => ⟨_, rfl, rfl, _, rfl, iteNS rfl ?_⟩⟩))))
    refine not_go (val_go ⟨_, rfl, _, rfl, (by show 1 ≤ sizeLine; decide), fun l nl => ?_⟩)
    have s6 := same_new (o := .lst [V.ref t]) nl
    have tr6 := (tr4.keep (Same.tk s5)).keep (Same.tk s6)
    refine ⟨.str (showRun cs), l, some cs, [.ref t], .str (showRun cs), rfl, upd_same, tds_one tr6, .inl ⟨_, rfl, tok, back⟩, .str _, txt_fits tok, fun H6 s7 => ⟨_, rfl, iteF ?_⟩⟩
    have s46 := (s5.trans s6).trans s7
    have p6 := p4.same s46
    have k16 := k14.trans (same_but s46)
    refine next_go ?_
    dsimp only
    -- bent texts
    generalize showRun cs = tx at tok tlen ⊢
    have sT : tx.length ≤ sizeLine := sz tok.1
    refine seq_go ⟨(4 : Int), rfl, by decide, by decide, for_range (lo := 0) (n := (4 : Int).toNat) (fun i σ H' => ∃ y3 y4 y5 y6, σ = [some (.ref p), some (.ref t), some (.str tx), y3, y4, y5, y6, none, none] ∧ PotAt H' p (N + 29 + 2 * i) ∧ SameBut p H H' ∧ i ≤ 4) ⟨none, none, none, none, rfl, p6.mono (by omega), k16, by omega⟩ ?_ ?_⟩
    · rintro i σ H7 hi ⟨y3, y4, y5, y6, rfl, p7, k7, i4⟩
      have hi4 : i < 4 := hi
      refine seq_go ⟨_, rfl, _, rfl, tx, rfl, sT, _, _, rfl, rfl, p, _, _, rfl, p7, by omega, by omega, by omega, fun a H8 a0 a1 p8 k8 => ?_⟩
      refine name_go ?_
      dsimp only
      refine seq_go (of_lst (signs.map V.str) p8 (by omega) rfl (fun R k => k) (by decide) (by decide) fun sv H9 hs p9 k9 => ?_)
      obtain ⟨sg, hsg, rfl⟩ := List.mem_map.mp hs
      refine name_go ?_
      dsimp only
      have sgo := Bool.and_eq_true_iff.mp (List.all_eq_true.mp signs_ok sg hsg)
      have sgl := of_decide_eq_true sgo.1
      have c1 := cut_len tx none (some a)
      have c2 := cut_len tx (some a) none
      have c3 := cut_len tx (some (a + 1)) none
      refine forT_go (cons_go ⟨_, rfl, _, rfl, _, rfl, tx, rfl, sT, _, rfl, _, _, rfl, rfl, szI (by omega), _, rfl, _, rfl, _, rfl, tx, rfl, sT, _, _, rfl, rfl, szI (by rw [app_len]; omega), ?_⟩)
      refine cons_go ⟨_, rfl, _, rfl, _, rfl, tx, rfl, sT, _, rfl, _, _, rfl, rfl, szI (by omega), _, rfl, _, rfl, _, _, rfl, rfl, _, rfl, tx, rfl, sT, _, _, rfl, rfl, szI (by rw [app_len]; omega), ?_⟩
      refine cons_go ⟨_, rfl, _, rfl, _, rfl, tx, rfl, sT, nil_go (tup_end (by simp) fun tt H10 h10 s10 => ?_)⟩
      have tks : ∀ lo hi : Option Int, TxtOk (cutS tx lo hi) := fun lo hi => tok.cut lo hi
      have b1 : TxtOk (cutS tx none (some a) ++ sg ++ cutS tx (some a) none) := ⟨by rw [app_len, app_len]; omega, txt_app (txt_app (tks _ _).2 sgo.2) (tks _ _).2⟩
      have b2 : TxtOk (cutS tx none (some a) ++ sg ++ cutS tx (some (a + 1)) none) := ⟨by rw [app_len, app_len]; omega, txt_app (txt_app (tks _ _).2 sgo.2) (tks _ _).2⟩
      have b3 := tks none (some a)
      refine ⟨tt, rfl, ⟨_, SqT.of h10⟩, for_tup (K := K) (a := tt) (xs := [.str (cutS tx none (some a) ++ sg ++ cutS tx (some a) none), .str (cutS tx none (some a) ++ sg ++ cutS tx (some (a + 1)) none), .str (cutS tx none (some a))]) (fun _ σ H' => ∃ z6, σ = [some (.ref p), some (.ref t), some (.str tx), some (.int (0 + (i : Int))), some (.int a), some (.str sg), z6, none, none] ∧ Same H10 H') ⟨y6, rfl, Same.refl _⟩ ?_ ?_ ?_⟩
      · rintro j σ H' _ ⟨z6, rfl, s⟩
        exact SqT.of (s _ _ h10)
      · rintro j y σ H' hj ⟨z6, rfl, s⟩
        have hy : ∃ b, y = .str b ∧ TxtOk b := by
          have hm := List.mem_of_getElem? hj
          simp only [List.mem_cons, List.not_mem_nil, or_false] at hm
          rcases hm with rfl | rfl | rfl
          · exact ⟨_, rfl, b1⟩
          · exact ⟨_, rfl, b2⟩
          · exact ⟨_, rfl, b3⟩
        obtain ⟨b, rfl, tb⟩ := hy
        refine ifs_go (not_go (val_go ⟨_, rfl, _, rfl, b, rfl, tb, fun D xs H11 nD s11 hD tD => ⟨.str b, D, readRun b, xs, .str b, rfl, hD, tD, .inl ⟨b, rfl, tb, rfl⟩, .str b, txt_fits tb, fun H12 s12 => ⟨_, rfl, iteF ?_⟩⟩⟩))
        exact ⟨_, rfl, s.trans (s11.trans s12)⟩
      · rintro σ H' ⟨z6, rfl, s⟩
        exact ⟨_, _, _, _, rfl, (p9.same (s10.trans s)).mono (by omega), k7.trans (k8.trans (k9.trans (same_but (s10.trans s)))), by omega⟩
    · rintro σ H7 ⟨y3, y4, y5, y6, rfl, p7, k7, i4⟩
      exact q H7 (p7.mono (by omega)) k7
end
end Sc

set_option maxRecDepth 100000
set_option maxHeartbeats 1000000
namespace Sc
open PySem L2 PySem.Spec PyProof.Rows TL
abbrev sLaw : Stmt := top 32
theorem scLaw : FnScope ["_law_script", "_law_odd", "_law_some", "_law_value", "_law_k", "_law_pot", "_law_turn"] ["_law_script"] (defScope sLaw) := ⟨rfl, rfl, rfl, by decide +kernel, rfl, by decide +kernel, by decide +kernel⟩
def spLaw (K : PySem.W.Frag) : Sp := fun vs H Q _ => ∃ (a : Addr) (ns : List Int), vs = [.ref a] ∧ SqL K H a (ns.map V.int) ∧ ns.length ≤ 63 ∧ ∀ H', Q (.bl true) H'
def tTurns : TE := tLc (iRng1 (tCons (tC (.int 12)) tNil)) (gName 6) tYes (tCall spLRight [] E0 (tCons (tVar 5) tNil)) [6]
theorem turns_run {p a : Addr} {H0 H : Hp} {y1 y2 y3 k : Option V} {Q : VK} (h0 : H0 p = none) (s0 : Same H0 H) (hp : PotAt H p 0)
    (q : ∀ L H', H' L = some (.lst ((List.replicate 12 true).map V.bl)) → Same H0 H' → Q (.ref L) H') : tTurns [some (.ref a), y1, y2, y3, k, some (.ref p), none] H Q := by
  refine ⟨(12 : Int), rfl, by decide, by decide, fun L hL => ?_⟩
  have nL : p ≠ L := by
    obtain ⟨x, y, z, e⟩ := hp.three
    exact ne_of_none e hL
  have n0 : H0 L = none := s0.free hL
  refine lc_range (lo := 0) (n := (12 : Int).toNat) (fun n H' => H' L = some (.lst ((List.replicate n true).map V.bl)) ∧ PotAt H' p (40 * n) ∧ n ≤ 12 ∧ Same H0 H') ⟨upd_same, hp.same (same_new hL), by omega, s0.trans (same_new hL)⟩ ?_ ?_
  · rintro n H1 hn ⟨h1, p1, n1, s1⟩
    have hn' : n < 12 := hn
    refine ⟨rfl, _, rfl, p, 40 * n, rfl, p1, by omega, fun H2 p2 k2 => ?_⟩
    refine ⟨_, k2 _ _ h1 nL.symm, ?_, ?_, ?_, hn', fun b o e => ?_⟩
    · rw [List.length_map, List.length_replicate, sizeLine_eq]
      omega
    · rw [upd_same, List.replicate_succ', List.map_append]
      rfl
    · obtain ⟨x, y, z, e, r⟩ := p2
      refine ⟨x, y, z, (upd_ne nL).trans e, ?_⟩
      rw [show 40 * (n + 1) = 40 * n + 40 by omega]
      exact r
    · rw [upd_ne (ne_of_none e n0)]
      exact k2 _ _ (s1 b o e) (ne_of_none e h0)
  · rintro H1 ⟨h1, p1, n1, s1⟩
    exact q L H1 h1 s1
def tBody (K : PySem.W.Frag) : TS := tSeq (tAsg (tCall (spPot K) [] E0 (tCons (tVar 0) (tCons (tVar 4) tNil))) (gName 5)) (tIfS (tNot (tB (tCB (rAll K) (tCons tTurns tNil)))) (tRet (tC (.bl false))) tNext)
theorem allT_go {K : PySem.W.Frag} {t u : TS} {D : Ends} {σ : L2.St} {H : Hp} (h : tTurns σ H fun x H1 => rAll K [x] H1 fun y H2 => ∃ c, y = V.bl c ∧ if (!c) = true then t D σ H2 else u D σ H2) :
    tIfS (tNot (tB (tCB (rAll K) (tCons tTurns tNil)))) t u D σ H := h
/-- what the law hands over that is no run -/
def OddOk (K : PySem.W.Frag) (H : Hp) (x : V) : Prop := ∃ d, DatAt H x d ∧ Fits d ∧ ((∃ tx, x = .str tx ∧ TxtOk tx ∧ readRun tx = none) ∨ NoText K H x)
theorem OddOk.same {K : PySem.W.Frag} {H H' : Hp} {x : V} (h : OddOk K H x) (s : Same H H') : OddOk K H' x := by
  obtain ⟨d, h1, h2, h3⟩ := h
  refine ⟨d, h1.same s, h2, ?_⟩
  rcases h3 with h3 | ⟨t, ty, e⟩
  · exact .inl h3
  · exact .inr ⟨t, tyx_same ty s, e⟩
def badTexts : List Str := ["", " ", "again ", " again", "again,back", "again, ", "-, again", "begin p", "at", "stop 1"]
def badMore : List Str := ["again stop 1_0", "again stop +1", "again stop 1e1"]
theorem bad_ok : (badTexts ++ badMore).all (fun x => (readRun x).isNone && (decide (x.length ≤ 20) && PyData.strOk x)) = true := by decide +kernel
theorem bad_of {K : PySem.W.Frag} {H : Hp} {x : Str} (h : x ∈ badTexts ++ badMore) : OddOk K H (.str x) := by
  have h1 := List.all_eq_true.mp bad_ok x h
  rw [Bool.and_eq_true, Bool.and_eq_true, decide_eq_true_eq] at h1
  have t : TxtOk x := ⟨by omega, h1.2.2⟩
  exact ⟨_, .str x, txt_fits t, .inl ⟨x, rfl, t, by simpa using h1.1⟩⟩
section
variable {P : Program} {w : World} {K : PySem.W.Frag} {mg : Str → Option Value} {base : Heap}
theorem ok_law {f fP fR fG fW : Addr} {fd0 fdP fdR fdG fdW : FuncData} (F : Fun K "law" "law" sLaw f fd0) (T : NatR mg)
    (GP : FnOk P w K mg base CX0 1 fP fdP ["_law_script", "_law_k"] (spPot K)) (gP : mg "_law_pot_of" = some (.ref fP)) (kP : PySem.W.keepIn K (.ref fP) = true) (bP : Binds K fdP ["_law_script", "_law_k"] [])
    (GR : FnOkG P w K mg base 7 fR fdR ["_law_pot"] spLRight) (gR : mg "_law_right" = some (.ref fR)) (kR : PySem.W.keepIn K (.ref fR) = true) (bR : Binds K fdR ["_law_pot"] [])
    (GG : FnOkG P w K mg base 6 fG fdG ["_law_value", "_law_due"] (spRR K)) (gG : mg "_law_read_right" = some (.ref fG)) (kG : PySem.W.keepIn K (.ref fG) = true) (bG : Binds K fdG ["_law_value", "_law_due"] [])
    (GW : FnOk P w K mg base CX0 1 fW fdW ["words"] spShowWords) (gW : mg "show_words" = some (.ref fW)) (kW : PySem.W.keepIn K (.ref fW) = true) (bW : Binds K fdW ["words"] []) :
    FnOkG P w K mg base 8 f fd0 ["_law_script"] (spLaw K) := by
  refine okG F scLaw (fun vs H Q E h => ?_) (fun cdv A' outer s H vs Q E hG hr h => ?_)
  · obtain ⟨a, ns, rfl, _⟩ := h
    rfl
  · obtain ⟨a, ns, rfl, hS, hl, q⟩ := h
    have hr1 : Room 1 _ := hr.mono (by decide)
    have hr6 : Room 6 _ := hr.mono (by decide)
    have last : PSs (cxOf CX0 P w K mg base ["_law_script", "_law_odd", "_law_some", "_law_value", "_law_k", "_law_pot", "_law_turn"] "law" (defScope sLaw) f cdv A' outer s H E).nox (List.drop 4 (defBody sLaw))
        (tSeq (tFor (iRng1 (tCons (tCB (fun xs H Q => ∃ i j, xs = [.int i, .int j] ∧ Q (.int (if j > i then j else i)) H) (tCons (tC (.int 1)) (tCons (tCB (fun xs H Q => ∃ i j, xs = [.int i, .int j] ∧ Q (.int (if j < i then j else i)) H)
        (tCons (tC (.int 3)) (tCons (tCB (fun xs H Q => ∃ p ys, xs = [.ref p] ∧ (SqL K H p ys ∨ SqT K H p ys) ∧ Q (.int ys.length) H) (tCons (tVar 0) tNil)) tNil))) tNil))) tNil)) (gName 4) (tBody K)) (tRet (tC (.bl true)))) := by
      exact pss_cons (ps_for PassesOwn.never rfl (pi_range1 (by rfl) T.range (pa_cons (pe_callB (call_max2 rfl) (by rfl) T.max (by decide +kernel) (pa_cons pe_int (pa_cons (pe_callB (call_min2 rfl) (by rfl) T.min (by decide +kernel)
            (pa_cons pe_int (pa_cons (pe_callB call_len_seq (by rfl) T.len PySem.boot_len (pa_cons (pv 0) pa_nil)) pa_nil))) pa_nil))) pa_nil)) (pg_name (i := 4) scLaw.nd rfl (Or.inl rfl))
          (pss_cons (ps_set (i := 5) scLaw.nd rfl (Or.inr rfl) (pe_call GP hr1 (by rfl) gP kP bP .nil pass0 (pa_cons (pv 0) (pa_cons (pv 4) pa_nil))))
          (pss_one (ps_if (pt_not (pt_val (pe_callB (cr_all rfl) (by rfl) T.all (by decide +kernel) (pa_cons
              (pe_lc (own := [("_law_turn", 6)]) (g := gName 6) (tt := tYes) rfl scLaw.nd (pi_range1 (by rfl) T.range (pa_cons pe_int pa_nil))
                (blkOk_by (own := [("_law_turn", 6)]) (N := ["_law_script", "_law_odd", "_law_some", "_law_value", "_law_k", "_law_pot", "_law_turn"]) (sc := defScope sLaw) (by decide +kernel))
                (fun _ _ _ _ _ => pg_name (i := 6) scLaw.nd rfl (Or.inl rfl)) (fun _ _ _ _ _ => pts_nil) (fun _ _ _ _ _ => pe_callG GR hG hr (by rfl) gR kR bR (pa_cons (pv 5) pa_nil))) pa_nil)))) (pss_one (ps_ret pe_bl)) pss_nil))))
        (pss_one (ps_ret pe_bl))
    refine ⟨_, pss_cons (ps_set (i := 1) scLaw.nd rfl (Or.inl rfl) (pe_lst (pa_cons pe_non (pa_cons pe_int (pa_cons pe_bl (pa_cons (pe_tup pa_nil) (pa_cons (pe_lstB pa_nil) (pa_cons pe_dnewK (pa_cons (pe_tup (pa_cons pe_str pa_nil)) (pa_cons (pe_lstB (pa_cons pe_str pa_nil)) pa_nil))))))))))
      (pss_cons (ps_set (i := 2) scLaw.nd rfl (Or.inl rfl) (pe_lst (pa_cons pe_str (pa_cons pe_str (pa_cons pe_str (pa_cons pe_str (pa_cons pe_str (pa_cons pe_str (pa_cons pe_str (pa_cons pe_str (pa_cons pe_str (pa_cons pe_str pa_nil))))))))))))
      (pss_cons (ps_for PassesOwn.never rfl (pi_list (pe_op op_cat (pe_op op_cat (pv 1) (pv 2)) (pe_lst (pa_cons pe_str (pa_cons pe_str (pa_cons pe_str pa_nil)))))) (pg_name (i := 3) scLaw.nd rfl (Or.inl rfl))
        (pss_one (ps_if (pt_not (pt_val (pe_callG GG hG hr6 (by rfl) gG kG bG (pa_cons (pv 3) (pa_cons (pe_lst pa_nil) pa_nil))))) (pss_one (ps_ret pe_bl)) pss_nil)))
      (pss_cons (ps_if (PW.pt (pw_or (pt_cmpR op_ne (pe_call GW hr1 (by rfl) gW kW bW .nil pass0 (pa_cons (pe_tup (pa_cons pe_str (pa_cons pe_str (pa_cons pe_str pa_nil)))) pa_nil)) pe_str (nomark _))
          (pw_or1 (pt_cmpR op_ne (pe_call GW hr1 (by rfl) gW kW bW .nil pass0 (pa_cons (pe_tup (pa_cons pe_str pa_nil)) pa_nil)) pe_str (nomark _))))) (pss_one (ps_ret pe_bl)) pss_nil)
      last))), ?_⟩
    have fitN : Fits .none := ⟨rfl, by simp [PyData.depth], (by rw [sizeLine_eq]; exact (by decide +kernel : (PyData.none).shown.length ≤ 16777216))⟩
    have fitI : Fits (.int 0) := ⟨by decide, by simp [PyData.depth], (by rw [sizeLine_eq]; exact (by decide +kernel : (PyData.int 0).shown.length ≤ 16777216))⟩
    have fitB : Fits (.bool true) := ⟨rfl, by simp [PyData.depth], (by rw [sizeLine_eq]; exact (by decide +kernel : (PyData.bool true).shown.length ≤ 16777216))⟩
    have fitT0 : Fits (.tuple []) := ⟨rfl, by simp [PyData.depth, PyData.depthAll], (by rw [sizeLine_eq]; exact (by decide +kernel : (PyData.tuple []).shown.length ≤ 16777216))⟩
    have fitL0 : Fits (.list []) := ⟨rfl, by simp [PyData.depth, PyData.depthAll], (by rw [sizeLine_eq]; exact (by decide +kernel : (PyData.list []).shown.length ≤ 16777216))⟩
    have fitD0 : Fits (.dict []) := ⟨rfl, by simp [PyData.depth, PyData.depthKv], (by rw [sizeLine_eq]; exact (by decide +kernel : (PyData.dict []).shown.length ≤ 16777216))⟩
    have fitT1 : Fits (.tuple [.str "again"]) := ⟨rfl, by simp [PyData.depth, PyData.depthAll], (by rw [sizeLine_eq]; exact (by decide +kernel : (PyData.tuple [.str "again"]).shown.length ≤ 16777216))⟩
    have fitL1 : Fits (.list [.str "again"]) := ⟨rfl, by simp [PyData.depth, PyData.depthAll], (by rw [sizeLine_eq]; exact (by decide +kernel : (PyData.list [.str "again"]).shown.length ≤ 16777216))⟩
    refine seq_go ?_
    refine lst_go (cons_go (c_go (cons_go (c_go (cons_go (c_go (cons_go (unit_go fun t0 H1 n1 h1 s1 => ?_))))))))
    refine cons_go (lstB_go (nil_go (lstB_end (by simp) fun l0 H2 m2 h2 s2 => ?_)))
    refine cons_go (dnew_go fun d0 H3 h3 s3 => ?_)
    refine cons_go (tup_go (cons_go (c_go (nil_go (tup_end (by simp) fun t1 H4 h4 s4 => ?_)))))
    refine cons_go (lstB_go (cons_go (c_go (nil_go (lstB_end (by simp) fun l1 H5 m5 h5 s5 => ?_)))))
    refine nil_go (lst_end (by simp) fun lo H6 h6 s6 => ?_)
    have s56 := s5.trans s6
    have s46 := s4.trans s56
    have s36 := s3.trans s46
    have s26 := s2.trans s36
    have odd : ∀ x ∈ ([.non, .int 0, .bl true, .ref t0, .ref l0, .ref d0, .ref t1, .ref l1] : List V), OddOk K H6 x := by
      intro x hx
      simp only [List.mem_cons, List.not_mem_nil, or_false] at hx
      rcases hx with rfl | rfl | rfl | rfl | rfl | rfl | rfl | rfl
      · exact ⟨_, .non, fitN, .inr ⟨_, .base .non, kit_ty (by decide +kernel)⟩⟩
      · exact ⟨_, .int 0, fitI, .inr ⟨_, .base (.int 0), kit_ty (by decide +kernel)⟩⟩
      · exact ⟨_, .bl true, fitB, .inr ⟨_, .base (.bl true), kit_ty (by decide +kernel)⟩⟩
      · exact ⟨_, .tup0 (s26 _ _ h1), fitT0, .inr ⟨_, .base (.tup (s26 _ _ h1)), kit_ty (by decide +kernel)⟩⟩
      · exact ⟨_, .lst0 m2 (s36 _ _ h2), fitL0, .inr ⟨_, .base (.lst (s36 _ _ h2)), kit_ty (by decide +kernel)⟩⟩
      · exact ⟨_, .dict0 (s46 _ _ h3), fitD0, .inr ⟨_, .base (.dK (s46 _ _ h3)), kit_ty (by decide +kernel)⟩⟩
      · exact ⟨_, .tup1 (s56 _ _ h4) (.str _), fitT1, .inr ⟨_, .base (.tup (s56 _ _ h4)), kit_ty (by decide +kernel)⟩⟩
      · exact ⟨_, .lst1 m5 (s6 _ _ h5) (.str _), fitL1, .inr ⟨_, .base (.lst (s6 _ _ h5)), kit_ty (by decide +kernel)⟩⟩
    have sH6 : Same H H6 := s1.trans s26
    clear h1 h2 h3 h4 h5
    refine name_go ?_
    dsimp only
    refine seq_go ?_
    refine lst_go (cons_go (c_go (cons_go (c_go (cons_go (c_go (cons_go (c_go (cons_go (c_go (cons_go (c_go (cons_go (c_go (cons_go (c_go (cons_go (c_go (cons_go (c_go (nil_go ?_)))))))))))))))))))))
    show LstEnd _ (badTexts.map V.str) H6
    refine lst_end (by decide) fun ls H7 h7 s7 => ?_
    refine name_go ?_
    dsimp only
    have h67 := s7 _ _ h6
    have sH7 := sH6.trans s7
    refine seq_go ⟨_, rfl, _, rfl, lo, ls, _, _, rfl, rfl, h67, h7, (by show 8 + 10 ≤ sizeLine; rw [sizeLine_eq]; decide), fun p1 np1 => ?_⟩
    have s8 := same_new (o := .lst (([.non, .int 0, .bl true, .ref t0, .ref l0, .ref d0, .ref t1, .ref l1] : List V) ++ badTexts.map V.str)) np1
    refine ⟨(by show 3 ≤ sizeLine; decide), fun p2 np2 => ?_⟩
    have s9 := same_new (o := .lst (badMore.map V.str)) np2
    refine ⟨p1, p2, _, badMore.map V.str, rfl, rfl, s9 _ _ upd_same, upd_same, (by show 18 + 3 ≤ sizeLine; rw [sizeLine_eq]; decide), fun p3 np3 => ?_⟩
    have em : HO.lst [V.str ("again stop 1_0" : Str), V.str ("again stop +1" : Str), V.str ("again stop 1e1" : Str)] = HO.lst (badMore.map V.str) := rfl
    rw [em]
    have sA : Same H7 (upd (upd (upd H7 p1 (.lst (([.non, .int 0, .bl true, .ref t0, .ref l0, .ref d0, .ref t1, .ref l1] : List V) ++ badTexts.map V.str))) p2 (.lst (badMore.map V.str))) p3 (.lst ((([.non, .int 0, .bl true, .ref t0, .ref l0, .ref d0, .ref t1, .ref l1] : List V) ++ badTexts.map V.str) ++ badMore.map V.str))) := s8.trans (s9.trans (same_new np3))
    have h8 : (upd (upd (upd H7 p1 (.lst (([.non, .int 0, .bl true, .ref t0, .ref l0, .ref d0, .ref t1, .ref l1] : List V) ++ badTexts.map V.str))) p2 (.lst (badMore.map V.str))) p3 (.lst ((([.non, .int 0, .bl true, .ref t0, .ref l0, .ref d0, .ref t1, .ref l1] : List V) ++ badTexts.map V.str) ++ badMore.map V.str))) p3 = some (.lst ((([.non, .int 0, .bl true, .ref t0, .ref l0, .ref d0, .ref t1, .ref l1] : List V) ++ badTexts.map V.str) ++ badMore.map V.str)) := upd_same
    have allOk : ∀ x ∈ ((([.non, .int 0, .bl true, .ref t0, .ref l0, .ref d0, .ref t1, .ref l1] : List V) ++ badTexts.map V.str) ++ badMore.map V.str), OddOk K H7 x := by
      intro x hx
      rcases List.mem_append.mp hx with h | h
      · rcases List.mem_append.mp h with h | h
        · exact (odd x h).same s7
        · obtain ⟨y, hy, rfl⟩ := List.mem_map.mp h
          exact bad_of (List.mem_append_left _ hy)
      · obtain ⟨y, hy, rfl⟩ := List.mem_map.mp h
        exact bad_of (List.mem_append_right _ hy)
    have sH8 := sH7.trans sA
    generalize ((([.non, .int 0, .bl true, .ref t0, .ref l0, .ref d0, .ref t1, .ref l1] : List V) ++ badTexts.map V.str) ++ badMore.map V.str) = vals at sA h8 allOk sH8 ⊢
    generalize upd (upd (upd H7 p1 _) p2 _) p3 (.lst vals) = H8 at sA h8 sH8 ⊢
    refine ⟨p3, rfl, ⟨_, SqL.of h8⟩, for_list (K := K) (a := p3) (xs := vals) (fun _ σ H' => ∃ y3, σ = [some (.ref a), some (.ref lo), some (.ref ls), y3, none, none, none] ∧ Same H8 H') ⟨none, rfl, Same.refl _⟩ ?_ ?_ ?_⟩
    · rintro i σ H' _ ⟨y3, rfl, s⟩
      exact SqL.of (s _ _ h8)
    · rintro i y σ H' hi ⟨y3, rfl, s⟩
      obtain ⟨d, dat, fit, kind⟩ := ((allOk y (List.mem_of_getElem? hi)).same sA).same s
      refine ifs_go (not_go (val_go ⟨_, rfl, Nat.zero_le _, fun e ne => ?_⟩))
      have s10 := same_new (o := .lst []) ne
      have kind2 : (∃ x, y = .str x ∧ TxtOk x ∧ readRun x = none) ∨ (NoText K (upd H' e (.lst [])) y ∧ (none : Option (List Item)) = none) := by
        rcases kind with h | ⟨t, ty, e⟩
        · exact .inl h
        · exact .inr ⟨⟨t, tyx_same ty s10, e⟩, rfl⟩
      refine ⟨y, e, none, [], d, rfl, upd_same, (by show TDs _ [] []; unfold TDs; exact True.intro), kind2, dat.same s10, fit, fun H'' s11 => ⟨_, rfl, iteF ?_⟩⟩
      exact ⟨_, rfl, s.trans (s10.trans s11)⟩
    rintro σ H9 ⟨y3, rfl, s9'⟩
    have sH9 := sH8.trans s9'
    -- words
    dsimp only
    have j1 : Txt.join " " [("off" : Str), "a", "light"] = ("off a light" : Str) := by decide +kernel
    have j2 : Txt.join " " [("x" : Str)] = ("x" : Str) := by decide +kernel
    refine seq_go (ifs_go (or_go (test_go (op_go ?_))))
    refine cons_go (tup_go (cons_go (c_go (cons_go (c_go (cons_go (c_go (nil_go (tup_end (by simp) fun tw H10 h10 s10 => ?_)))))))))
    refine ⟨.ref tw, [("off" : Str), "a", "light"], rfl, td_of h10 (by unfold TDs TDs TDs TDs; exact ⟨td_s, td_s, td_s, True.intro⟩), by decide, rfl, _, rfl, iteNS (congrArg V.str j1) ?_⟩
    refine test_go (op_go ?_)
    refine cons_go (tup_go (cons_go (c_go (nil_go (tup_end (by simp) fun tv H11 h11 s11 => ?_)))))
    refine ⟨.ref tv, [("x" : Str)], rfl, td_of h11 (tds_one td_s), by decide, rfl, _, rfl, iteNS (congrArg V.str j2) ?_⟩
    have sH11 := sH9.trans (s10.trans s11)
    refine next_go ?_
    dsimp only
    have top3 : ∀ n : Nat, (1 : Int) ≤ (if (if ((n : Nat) : Int) < 3 then ((n : Nat) : Int) else 3) > 1 then (if ((n : Nat) : Int) < 3 then ((n : Nat) : Int) else 3) else 1) ∧
          (if (if ((n : Nat) : Int) < 3 then ((n : Nat) : Int) else 3) > 1 then (if ((n : Nat) : Int) < 3 then ((n : Nat) : Int) else 3) else 1) ≤ 3 := fun n => by
        split <;> split <;> omega
    have t3 := top3 (ns.map V.int).length
    have hS := sqL_same hS sH11
    refine seq_go ⟨_, rfl, a, _, rfl, .inl hS, _, _, rfl, _, _, rfl, _, rfl, by omega, by omega, for_range (lo := 0) (n := Int.toNat _)
        (fun i σ H' => ∃ y1 y2 y3 y4 y5, σ = [some (.ref a), y1, y2, y3, y4, y5, none] ∧ Same H11 H') ⟨_, _, _, none, none, rfl, Same.refl _⟩ ?_ ?_⟩
    · rintro i σ H1 hi ⟨y1, y2, y3, y4, y5, rfl, s1⟩
      have hi3 : i < 3 := by omega
      refine seq_go ⟨_, rfl, _, rfl, a, ns, i, ?_, s1.seq hS, hi3, fun p o m hp o0 o1 m0 m1 => ?_⟩
      · rw [Int.zero_add]
        rfl
      unfold gName
      dsimp only
      refine allT_go (turns_run (H0 := H1) hp (same_new hp) ⟨o, m, 0, upd_same, o0, m0, m1, by decide, by decide⟩ fun L H2 hL s3 => ?_)
      refine ⟨L, List.replicate 12 true, rfl, SqL.of hL, _, rfl, iteF ?_⟩
      exact ⟨_, _, _, _, _, rfl, s1.trans s3⟩
    · rintro σ H1 ⟨y1, y2, y3, y4, y5, rfl, s1⟩
      exact q H1
end
end Sc

set_option maxRecDepth 100000
set_option maxHeartbeats 4000000
namespace Sc
open PySem L2 PySem.Spec PyProof.Rows
/-! ### the end of a law whose def is called where no repr runs -/
section
variable {P : Program} {w : World} {K : PySem.W.Frag} {mg mb : Str → Option Value} {k : Nat} {fa a : Addr} {fd : FuncData} {x : Str} {sp : Sp} {s1 : Shared} {vs : List Value} {ns : List Int}
/-- from an abstract heap in which the script alone may stand -/
theorem core_callG {H : Hp} (KX : K.In s1.heap) (hns : s1.heap.Ns mainGlobals mg) (hb : s1.heap.Ns builtinsNs mb) (hbb : ∀ x : Str, x ≠ "__name__" → mb x = bootBuiltins x) (hlim : s1.heap.NoLimit) (hg : s1.gens = #[])
    (ha : s1.heap.get? a = some { cls := .type "list", data := .seq vs.toArray }) (hr : Room k callerA)
    (F : ∀ base : Heap, K.In base → base.Ns mainGlobals mg → FnOkG P w K mg base k fa fd [x] sp) (hbind : ∀ (s : Shared) (u : Value), BindsTo s fd ⟨[u], []⟩ [(x, u)])
    (hO : Only H) (hok : HOk P w H s1.heap) (hA : ∀ b, H b ≠ none → b = a) (hK : H a ≠ none → K.lookup a = none)
    (hsp : sp [.ref a] H (fun v _ => v = .bl true) fun _ _ _ => False) :
    codeAny (model P w) callerA (.call (.ref fa) ⟨[.ref a], []⟩) (fun r s' => r = .ok (.ret (.bool true)) ∧ OldK s1.heap s'.heap ∧ s'.os = s1.os ∧ AllBare s'.gens) s1 := by
  have free : ∀ {b : Addr} {o : Obj} {es : Array DictEntry} {ep : Nat}, s1.heap.get? b = some o → o.data = .dict es ep → H b = none := by
    intro b o es ep e d
    cases q : H b with
    | none => rfl
    | some u =>
      have eb := hA b (by rw [q]; exact Option.some_ne_none u)
      rw [eb, ha] at e
      cases e
      exact nomatch (show Data.seq vs.toArray _ = Data.dict es ep from d)
  have inBase : ∀ {b : Addr} {m : Str → Option Value}, s1.heap.Ns b m → (hidT s1.heap H).Ns b m := by
    rintro b m ⟨o, es, ep, e, d, r⟩
    exact ⟨o, es, ep, hidT_get e (free e d), d, r⟩
  have kBase : K.In (hidT s1.heap H) := by
    intro b o e
    refine hidT_get (KX b o e) ?_
    cases q : H b with
    | none => rfl
    | some u =>
      have eb := hA b (by rw [q]; exact Option.some_ne_none u)
      rw [eb] at e q
      rw [hK (by rw [q]; exact Option.some_ne_none u)] at e
      cases e
  obtain ⟨mc, l1, l2⟩ := hlim
  have md : Mod K mg (hidT s1.heap H) := ⟨kBase, inBase hns, ⟨mb, inBase hb, hbb⟩, ⟨mc, inBase l1, l2⟩⟩
  have noFr : ∀ b : Addr, b ∉ frs [] := fun b z => nomatch z
  have e0 : Env0 P w K mg (hidT s1.heap H) callerA [] s1 H :=
    ⟨rfl, md, fun b o e => of_hidT e, Nat.le_of_eq (hidT_size _ _), trivial, fun b z => absurd z (noFr b), hok, .of_eq hg⟩
  have run := (F _ kBase (inBase hns)).run callerA [] s1 H ⟨[.ref a], []⟩ [.ref a] [.ref a] _ _ rfl hr e0 (hbind s1 (.ref a)) (.cons rfl .nil) hsp
  refine codeAny_mono run ?_
  intro r s' h
  match r, h with
  | .error e, h => exact h.elim
  | .ok .next, h => exact h.elim
  | .ok .brk, h => exact h.elim
  | .ok .cont, h => exact h.elim
  | .ok (.ret u), ⟨v, H', os, bare, un, hok', rv, q⟩ =>
    have q' : v = .bl true := q
    subst q'
    have eu : u = Value.bool true := rv
    subst eu
    refine ⟨rfl, OldK.of_keep ?_, os, bare⟩
    intro b o e
    rcases hO b with z | ⟨ob, xs, z⟩
    · exact un.keep b o e z (noFr b) (fun z => nomatch z)
    · have z1 := (hok b _ z).1
      have z2 := (hok' b _ (un.frzs b ob _ z)).1
      rw [e] at z1
      cases z1
      exact z2
theorem law_callG (KX : K.In s1.heap) (hns : s1.heap.Ns mainGlobals mg) (hb : s1.heap.Ns builtinsNs mb) (hbb : ∀ x : Str, x ≠ "__name__" → mb x = bootBuiltins x) (hlim : s1.heap.NoLimit) (hg : s1.gens = #[])
    (ha : s1.heap.get? a = some { cls := .type "list", data := .seq vs.toArray }) (hi : IntsAre vs ns) (hl : ns.length ≤ sizeLine) (hr : Room k callerA)
    (F : ∀ base : Heap, K.In base → base.Ns mainGlobals mg → FnOkG P w K mg base k fa fd [x] sp) (hbind : ∀ (s : Shared) (u : Value), BindsTo s fd ⟨[u], []⟩ [(x, u)])
    (hsp : ∀ H : Hp, Only H → SqL K H a (ns.map V.int) → sp [.ref a] H (fun v _ => v = .bl true) fun _ _ _ => False) :
    codeAny (model P w) callerA (.call (.ref fa) ⟨[.ref a], []⟩) (fun r s' => r = .ok (.ret (.bool true)) ∧ OldK s1.heap s'.heap ∧ s'.os = s1.os ∧ AllBare s'.gens) s1 := by
  have rv := vals_ints hi
  cases hk : K.lookup a with
  | some o =>
    have e := KX a o hk
    rw [ha] at e
    cases e
    have nothing : ∀ b, (fun _ => none : Hp) b = none := fun _ => rfl
    refine core_callG (H := fun _ => none) KX hns hb hbb hlim hg ha hr F hbind (fun b => .inl rfl) (fun b u z => nomatch z) (fun b z => absurd rfl z) (fun z => absurd rfl z) (hsp _ (fun b => .inl rfl) (.inr ⟨_, vs.toArray, _, hk, rfl, rfl, rfl, ?_, ?_⟩))
    · rw [List.size_toArray, hi.length]
      exact hl
    · rw [List.toList_toArray]
      exact rv
  | none =>
    have at_a : (fun b => if b = a then some (HO.frz { cls := .type "list", data := .seq vs.toArray } (.lst (ns.map V.int))) else none : Hp) a = some (HO.frz { cls := .type "list", data := .seq vs.toArray } (.lst (ns.map V.int))) := if_pos rfl
    have off : ∀ b, b ≠ a → (fun b => if b = a then some (HO.frz { cls := .type "list", data := .seq vs.toArray } (.lst (ns.map V.int))) else none : Hp) b = none := fun b h => if_neg h
    generalize (fun b => if b = a then some (HO.frz { cls := .type "list", data := .seq vs.toArray } (.lst (ns.map V.int))) else none : Hp) = H at at_a off
    have only : Only H := fun b => by
      by_cases e : b = a
      · exact .inr ⟨_, _, by rw [e]; exact at_a⟩
      · exact .inl (off b e)
    refine core_callG KX hns hb hbb hlim hg ha hr F hbind only (fun b u z => ?_) (fun b z => ?_) (fun _ => hk) (hsp H only (.inl (.inr ⟨_, at_a⟩)))
    · by_cases e : b = a
      · rw [e, at_a] at z
        cases z
        rw [e]
        exact ⟨ha, by rw [List.length_map]; exact hl, vs, _, rv, ha⟩
      · rw [off b e] at z
        cases z
    · by_cases e : b = a
      · exact e
      · exact absurd (off b e) z
end
theorem walkG {l : PySem.W.OpenLaw} {n k : Nat} {q : Program} {loose : List Str} {XP : (Str → Option Value) → Heap → Prop} {YP : World → Heap → Prop} {d : DefRec} {K : Params → PySem.W.Frag} {sp : PySem.W.Frag → Sp} {x : Str}
    (hn : l.most = some n) (hn2 : n ≤ sizeLine) (hdf : d.params.defaults = []) (hr : Room k callerA) (hY : ∀ (w : World) (h : Heap), YP w h → (K w.params).In h)
    (F : ∀ (w : World) (mg : Str → Option Value) (fa : Addr) (h : Heap), (K w.params).In h → h.Ns mainGlobals mg → mg d.name = some (.ref fa) →
      ∃ fd : FuncData, (∀ (s : Shared) (u : Value), BindsTo s fd ⟨[u], []⟩ [(x, u)]) ∧ ∀ base : Heap, (K w.params).In base → base.Ns mainGlobals mg → FnOkG l.prog w (K w.params) mg base k fa fd [x] (sp (K w.params)))
    (hsp : ∀ (K : PySem.W.Frag) (H : Hp) (a : Addr) (ns : List Int), ns.length ≤ n → Only H → SqL K H a (ns.map V.int) → sp K [.ref a] H (fun v _ => v = .bl true) fun _ _ _ => False) :
    PySem.W.WalkO q loose XP YP l.row.toRowW d [] (fun f vs => PySem.call f vs) := by
  refine Att.attach_call hn hdf ?_
  intro w s0 s1 mg mb fa o pm cd doc a vs ns G Y ho hd hcd hmg hobj hints hlen hg
  have KX := hY w _ Y
  obtain ⟨fd, hb, hF⟩ := F w mg fa _ KX G.T.g hmg
  exact law_callG KX G.T.g G.T.b G.T.builtins G.T.nolimit hg hobj hints (Nat.le_trans hlen hn2) hr hF hb (fun H hO hS => hsp _ H a ns hlen hO hS)
end Sc

set_option maxRecDepth 100000
set_option maxHeartbeats 4000000
namespace Sc
open PySem L2 PySem.Spec PyProof.Rows
/-! ### what the top has written -/
theorem vals_strs {xs : List Str} {its : List Value} (h : (its.map fun v => match v with | .str x _ => some x | _ => none) = xs.map some) : L2.Vals (xs.map L2.V.str) its := by
  induction xs generalizing its with
  | nil =>
    cases its with
    | nil => exact .nil
    | cons a as => simp at h
  | cons x xs ih =>
    cases its with
    | nil => simp at h
    | cons a as =>
      rw [List.map_cons, List.map_cons, List.cons.injEq] at h
      refine .cons ?_ (ih h.2)
      have h1 := h.1
      split at h1
      · rename_i y t
        cases h1
        exact ⟨t, rfl⟩
      · cases h1
abbrev eA (p1 p2 : Pos) : Arguments := { posonlyargs := [], args := [{ arg := "self", annotation := none, pos := p1 }, { arg := "value", annotation := none, pos := p2 }], vararg := none, kwonlyargs := [], kw_defaults := [], kwarg := none, defaults := [] }
/-- a def of the module -/
def DefAt (K : PySem.W.Frag) (mg : Str → Option Value) (x : Str) (st : Stmt) (f : Addr) (fd : FuncData) : Prop := Fun K x x st f fd ∧ mg x = some (.ref f)
theorem def_mk {K : PySem.W.Frag} {h : Heap} {mg : Str → Option Value} (X : K.In h) (G : h.Ns mainGlobals mg) {f : Addr} (x : Str) (st : Stmt) {od an : Option Addr} {sl : Array (Option Value)} {oc kV dc pm cd ct : Value}
    (a1 : PySem.W.nsIn K mainGlobals x = some (some (.ref f)))
    (l1 : K.lookup f = some ⟨oc, od, .func (PySem.W.fnOf x x (defArgs st) (defBody st) (defScope st) .none kV dc pm an cd ct), sl⟩) (c1 : PySem.W.codeIn K cd x = true) (k1 : PySem.W.keepIn K (.ref f) = true) :
    DefAt K mg x st f (PySem.W.fnOf x x (defArgs st) (defBody st) (defScope st) .none kV dc pm an cd ct) := ⟨fun_mk (st := st) l1 c1 k1, PySem.W.mg_of X G a1⟩
abbrev sInitB : Stmt := inClass (top 15) 0
theorem errR_mk {K : PySem.W.Frag} {h : Heap} {mg : Str → Option Value} (X : K.In h) (G : h.Ns mainGlobals mg) {S C fI N : Addr} (x qual : Str) (st : Stmt) {p1 p2 q1 q2 q3 q4 : Pos} (hA : defArgs st = eA p1 p2) (hB : defBody st = eB q1 q2 q3 q4) (hS : defScope st = eS)
    {nm q : Str} {bs : List Value} {sn : List Str} {sub : List Value} {ab : Bool} {col : Option Bool} {dd : Option Addr} {m0 m1 m2 m3 m5 : Option Value} {od an : Option Addr} {sl : Array (Option Value)} {oc kV dc pm cd ct : Value}
    (aC : PySem.W.nsIn K mainGlobals x = some (some (.ref C)))
    (xL : K.lookup C = some (excClassObj nm q C N bs (above S) true sn sub ab col dd m0 m1 m2 m3 m5 "ValueError.__new__"))
    (iC : PySem.W.findIn K (.ref C) "__init__" = some (some (.ref fI)))
    (l1 : K.lookup fI = some ⟨oc, od, .func (PySem.W.fnOf "__init__" qual (defArgs st) (defBody st) (defScope st) .none kV dc pm an cd ct), sl⟩)
    (c1 : PySem.W.codeIn K cd qual = true) (k1 : PySem.W.keepIn K (.ref fI) = true) (tI : PySem.W.typeIn K (.ref fI) = some (.type "function"))
    (sa : PySem.W.findIn K (.ref C) "__setattr__" = some (some (.builtin "object.__setattr__")))
    (ga : PySem.W.findIn K (.ref C) "__getattribute__" = some (some (.builtin "BaseException.__getattribute__")))
    (gg : PySem.W.findIn K (.ref C) "__getattr__" = some none) (nv : PySem.W.findIn K (.ref C) "value" = some none) (kC : PySem.W.keepIn K (.ref C) = true)
    (ty : PySem.W.typeIn K (.ref C) = some (.type "type")) (ha : PySem.W.findIn K (.ref C) "__class__" = some (some (.builtin "object.__class__"))) (P : Program) (w : World) (base : Heap) :
    ErrR P w K mg base S C fI (PySem.W.fnOf "__init__" qual (defArgs st) (defBody st) (defScope st) .none kV dc pm an cd ct) x := by
  have E : ErrK K mg S C fI x := ⟨PySem.W.mg_of X G aC, ⟨nm, q, N, bs, sn, sub, ab, col, dd, m0, m1, m2, m3, m5, xL⟩, sa, ga, gg, nv, iC, tI, kC, ty, ha⟩
  have F := fun_mk (st := st) l1 c1 k1
  refine ⟨E, ok_err F E hB hS, ?_⟩
  rw [hA, hB, hS]
  exact L2.Binds.all fun us hl => match us, hl with | [_, _], _ => rfl
theorem all_mk {l : PySem.W.OpenLaw} {w : World} {K : PySem.W.Frag} {h : Heap} {mg : Str → Option Value} {fa S C fI sA : Addr} {fdI : FuncData} (X : K.In h) (G : h.Ns mainGlobals mg) (hfa : mg "law" = some (.ref fa))
    {g0 g1 g2 g3 g4 g5 g6 g7 g8 g9 g10 g11 g12 g13 g14 g15 g16 g17 g18 g19 g20 g21 g22 : Addr} {e0 e1 e2 e3 e4 e5 e6 e7 e8 e9 e10 e11 e12 e13 e14 e15 e16 e17 e18 e19 e20 e21 e22 : FuncData} {tL tD : Tok} {dxs : Option Addr} {ixs : Array Value} {nxs : Nat} {sxs : Array (Option Value)}
    (D0 : DefAt K mg "is_spelled" sSpelled g0 e0)
    (D1 : DefAt K mg "is_number" sNumber g1 e1)
    (D2 : DefAt K mg "choice_text" sChText g2 e2)
    (D3 : DefAt K mg "step_text" sStepText g3 e3)
    (D4 : DefAt K mg "read_choice" sReadCh g4 e4)
    (D5 : DefAt K mg "choice_of" sChoiceOf g5 e5)
    (D6 : DefAt K mg "are_names" sAreNames g6 e6)
    (D7 : DefAt K mg "is_short_number" sShort g7 e7)
    (D8 : DefAt K mg "show_words" sShowWords g8 e8)
    (D9 : DefAt K mg "show_run" sShowRun g9 e9)
    (D10 : DefAt K mg "read_run" sReadRun g10 e10)
    (D11 : DefAt K mg "_law_pot_of" sPot g11 e11)
    (D12 : DefAt K mg "_law_take" sTake g12 e12)
    (D13 : DefAt K mg "_law_of" sOf g13 e13)
    (D14 : DefAt K mg "_law_choice_text" sLText g14 e14)
    (D15 : DefAt K mg "_law_name" sLName g15 e15)
    (D16 : DefAt K mg "_law_drawn_choice" sLDrawn g16 e16)
    (D17 : DefAt K mg "_law_is_name" sLIsName g17 e17)
    (D18 : DefAt K mg "_law_choice_in" sLIn g18 e18)
    (D19 : DefAt K mg "_law_run_in" sLRunIn g19 e19)
    (D20 : DefAt K mg "_law_read_right" sLRR g20 e20)
    (D21 : DefAt K mg "_law_right" sLRight g21 e21)
    (D22 : DefAt K mg "law" sLaw g22 e22)
    (EB : ∀ (P : Program) (w : World) (base : Heap), ErrR P w K mg base S C fI fdI "BadText")
    (xS : PySem.W.nsIn K mainGlobals "ScriptError" = some (some (.ref S))) (uS : PySem.W.subIn K (.ref S) (.type "BaseException") = some true) (dS : PySem.W.hasDictIn K S = true) (tS : PySem.W.typeIn K (.ref S) = some (.type "type"))
    (hn : PySem.W.specialIn K (.builtin "object.__class__") "__get__" = some (some (.builtin "getset_descriptor.__get__"))) (ht : PySem.W.takesIn K (.builtin "object.__class__") = some true)
    (xL : PySem.W.nsIn K mainGlobals "LETTERS" = some (some (.str letters tL))) (xD : PySem.W.nsIn K mainGlobals "DIGITS" = some (some (.str digits tD)))
    (xW : PySem.W.nsIn K mainGlobals "STEP_WORDS" = some (some (.ref sA))) (lW : K.lookup sA = some ⟨.type "tuple", dxs, .seq ixs nxs, sxs⟩) (zW : ixs.size ≤ sizeLine) (vW : Vals (stepWords.map V.str) ixs.toList)
    (z_len : PySem.W.nsIn K mainGlobals "len" = some none)
    (z_all : PySem.W.nsIn K mainGlobals "all" = some none)
    (z_int : PySem.W.nsIn K mainGlobals "int" = some none)
    (z_str : PySem.W.nsIn K mainGlobals "str" = some none)
    (z_tuple : PySem.W.nsIn K mainGlobals "tuple" = some none)
    (z_isinstance : PySem.W.nsIn K mainGlobals "isinstance" = some none)
    (z_repr : PySem.W.nsIn K mainGlobals "repr" = some none)
    (z_range : PySem.W.nsIn K mainGlobals "range" = some none)
    (z_max : PySem.W.nsIn K mainGlobals "max" = some none)
    (z_min : PySem.W.nsIn K mainGlobals "min" = some none)
    (z_abs : PySem.W.nsIn K mainGlobals "abs" = some none)
    (hBnd : ∀ (s : Shared) (u : Value), BindsTo s e22 ⟨[u], []⟩ [("_law_script", u)])
    (b0 : Binds K e0 ["word"] [])
    (b1 : Binds K e1 ["word"] [])
    (b2 : Binds K e2 ["choice", "stop"] [])
    (b3 : Binds K e3 ["step"] [])
    (b4 : Binds K e4 ["line"] [])
    (b5 : Binds K e5 ["words"] [])
    (b6 : Binds K e6 ["words", "many"] [])
    (b7 : Binds K e7 ["word"] [])
    (b8 : Binds K e8 ["words"] [])
    (b9 : Binds K e9 ["run"] [])
    (b10 : Binds K e10 ["text"] [])
    (b11 : Binds K e11 ["_law_script", "_law_k"] [])
    (b12 : Binds K e12 ["_law_pot", "_law_upto"] [])
    (b13 : Binds K e13 ["_law_pot", "_law_some"] [])
    (b14 : Binds K e14 ["_law_choice", "_law_stop"] [])
    (b15 : Binds K e15 ["_law_pot"] [])
    (b16 : Binds K e16 ["_law_pot"] [])
    (b17 : Binds K e17 ["_law_word"] [])
    (b18 : Binds K e18 ["_law_text"] [])
    (b19 : Binds K e19 ["_law_text"] [])
    (b20 : Binds K e20 ["_law_value", "_law_due"] [])
    (b21 : Binds K e21 ["_law_pot"] [])
    : ∃ fd : FuncData, (∀ (s : Shared) (u : Value), BindsTo s fd ⟨[u], []⟩ [("_law_script", u)]) ∧ ∀ base : Heap, K.In base → base.Ns mainGlobals mg → FnOkG l.prog w K mg base 8 fa fd ["_law_script"] (spLaw K) := by
  have e := hfa.symm.trans D22.2
  cases e
  have z : ∀ {n : Str}, PySem.W.nsIn K mainGlobals n = some none → mg n = none := fun h => PySem.W.mg_none_of X G h
  refine ⟨e22, hBnd, fun base _ _ => ?_⟩
  have T0 : Nat0 mg := ⟨z z_len, z z_abs, z z_int⟩
  have T : NatR mg := ⟨z z_len, z z_all, z z_int, z z_str, z z_tuple, z z_isinstance, z z_repr, z z_range, z z_max, z z_min, z z_abs⟩
  have U : Kept K mg sA := ⟨⟨_, PySem.W.mg_of X G xL⟩, ⟨_, PySem.W.mg_of X G xD⟩, PySem.W.mg_of X G xW, fun H => .inr ⟨_, _, _, lW, rfl, rfl, zW, vW⟩⟩
  have TE : TopE K mg S := ⟨PySem.W.mg_of X G xS, uS, dS, tS⟩
  have CD : ClsD K := ⟨hn, ht⟩
  have B := EB l.prog w base
  have G0 : FnOk l.prog w K mg base CX0 1 g0 e0 _ _ := ok_spelled D0.1 T U
  have G1 : FnOk l.prog w K mg base CX0 1 g1 e1 _ _ := ok_number D1.1 T U
  have G3 : FnOk l.prog w K mg base CX0 1 g3 e3 _ _ := ok_step D3.1
  have G2 : FnOk l.prog w K mg base CX0 2 g2 e2 _ _ := ok_chText D2.1 G3 D3.2 D3.1.kp b3
  have G6 : FnOk l.prog w K mg base CX0 2 g6 e6 _ _ := ok_names D6.1 T G0 D0.2 D0.1.kp b0
  have G7 : FnOk l.prog w K mg base CX0 2 g7 e7 _ _ := ok_short D7.1 T G1 D1.2 D1.1.kp b1
  have G5 : FnOk l.prog w K mg base CX0 3 g5 e5 _ _ := ok_choice D5.1 T U G6 D6.2 D6.1.kp b6 G0 D0.2 D0.1.kp b0
  have G4 : FnOk l.prog w K mg base CX0 4 g4 e4 _ _ := ok_readCh D4.1 T G5 D5.2 D5.1.kp b5 G7 D7.2 D7.1.kp b7
  have G8 : FnOk l.prog w K mg base CX0 1 g8 e8 _ _ := ok_showWords D8.1
  have G9 : FnOk l.prog w K mg base CX0 3 g9 e9 _ _ := ok_showRun D9.1 G2 D2.2 D2.1.kp b2
  have G10 : FnOk l.prog w K mg base (L2.CX l.prog w) 5 g10 e10 _ _ := ok_readRun D10.1 T B G4 D4.2 D4.1.kp b4
  have G11 : FnOk l.prog w K mg base CX0 1 g11 e11 _ _ := ok_pot D11.1 T0
  have G12 : FnOk l.prog w K mg base CX0 1 g12 e12 _ _ := ok_take D12.1 T0
  have G13 : FnOk l.prog w K mg base CX0 2 g13 e13 _ _ := ok_of D13.1 T0 G12 D12.2 D12.1.kp b12
  have G14 : FnOk l.prog w K mg base CX0 1 g14 e14 _ _ := ok_ltext D14.1 T
  have G15 : FnOk l.prog w K mg base CX0 3 g15 e15 _ _ := ok_lname D15.1 G13 D13.2 D13.1.kp b13
  have G16 : FnOk l.prog w K mg base CX0 4 g16 e16 _ _ := ok_ldrawn D16.1 G13 D13.2 D13.1.kp b13 G12 D12.2 D12.1.kp b12 G15 D15.2 D15.1.kp b15
  have G17 : FnOk l.prog w K mg base CX0 1 g17 e17 _ _ := ok_lisName D17.1 T
  have G18 : FnOk l.prog w K mg base CX0 2 g18 e18 _ _ := ok_lin D18.1 T G17 D17.2 D17.1.kp b17
  have G19 : FnOk l.prog w K mg base CX0 3 g19 e19 _ _ := ok_lrunIn D19.1 T G18 D18.2 D18.1.kp b18
  have G20 : FnOkG l.prog w K mg base 6 g20 e20 _ _ := ok_lrr D20.1 T B.e TE CD G10 D10.2 D10.1.kp b10
  have G21 : FnOkG l.prog w K mg base 7 g21 e21 _ _ := ok_lright D21.1 T G16 D16.2 D16.1.kp b16 G12 D12.2 D12.1.kp b12 G13 D13.2 D13.1.kp b13 G14 D14.2 D14.1.kp b14 G9 D9.2 D9.1.kp b9 G20 D20.2 D20.1.kp b20 G19 D19.2 D19.1.kp b19
  exact ok_law D22.1 T G11 D11.2 D11.1.kp b11 G21 D21.2 D21.1.kp b21 G20 D20.2 D20.1.kp b20 G8 D8.2 D8.1.kp b8
end Sc

set_option maxRecDepth 100000
open PySem PySem.W PyProof.Rows
set_option maxRecDepth 100000 in
set_option maxHeartbeats 0 in
theorem PySem.Challenge.cw_scriptsamid_k57_runs_written_and_read_holds : PySem.Challenge.rw_scriptsamid_k57_runs_written_and_read.Holds := by
  w_on; o_law; k_head; (case hw => w_witness2)
  k_fill
  refine Sc.walkG (l := PySem.Challenge.rw_scriptsamid_k57_runs_written_and_read) (n := 63) (k := 8) (x := "_law_script") (sp := Sc.spLaw) rfl (by decide) rfl ⟨rfl, by decide, by decide⟩ (fun w h Y => PySem.W.kIn_of Y) ?F ?S
  case S =>
    intro K H a ns hl _ hS
    exact ⟨a, ns, rfl, hS, hl, fun _ => rfl⟩
  case F =>
    intro w mg fa h KX G hmg
    refine' Sc.all_mk KX G hmg ?D0 ?D1 ?D2 ?D3 ?D4 ?D5 ?D6 ?D7 ?D8 ?D9 ?D10 ?D11 ?D12 ?D13 ?D14 ?D15 ?D16 ?D17 ?D18 ?D19 ?D20 ?D21 ?D22 ?EB ?xS ?uS ?dS ?tS ?hn ?ht ?xL ?xD ?xW ?lW ?zW ?vW ?z_len ?z_all ?z_int ?z_str ?z_tuple ?z_isinstance ?z_repr ?z_range ?z_max ?z_min ?z_abs ?hBnd ?b0 ?b1 ?b2 ?b3 ?b4 ?b5 ?b6 ?b7 ?b8 ?b9 ?b10 ?b11 ?b12 ?b13 ?b14 ?b15 ?b16 ?b17 ?b18 ?b19 ?b20 ?b21
    (case D0 => refine' Sc.def_mk KX G "is_spelled" Sc.sSpelled ?a1 ?l1 ?c1 ?k1; (case a1 => k_is); (case l1 => k_is); (case c1 => k_is); (case k1 => k_is))
    (case D1 => refine' Sc.def_mk KX G "is_number" Sc.sNumber ?a1 ?l1 ?c1 ?k1; (case a1 => k_is); (case l1 => k_is); (case c1 => k_is); (case k1 => k_is))
    (case D2 => refine' Sc.def_mk KX G "choice_text" Sc.sChText ?a1 ?l1 ?c1 ?k1; (case a1 => k_is); (case l1 => k_is); (case c1 => k_is); (case k1 => k_is))
    (case D3 => refine' Sc.def_mk KX G "step_text" Sc.sStepText ?a1 ?l1 ?c1 ?k1; (case a1 => k_is); (case l1 => k_is); (case c1 => k_is); (case k1 => k_is))
    (case D4 => refine' Sc.def_mk KX G "read_choice" Sc.sReadCh ?a1 ?l1 ?c1 ?k1; (case a1 => k_is); (case l1 => k_is); (case c1 => k_is); (case k1 => k_is))
    (case D5 => refine' Sc.def_mk KX G "choice_of" Sc.sChoiceOf ?a1 ?l1 ?c1 ?k1; (case a1 => k_is); (case l1 => k_is); (case c1 => k_is); (case k1 => k_is))
    (case D6 => refine' Sc.def_mk KX G "are_names" Sc.sAreNames ?a1 ?l1 ?c1 ?k1; (case a1 => k_is); (case l1 => k_is); (case c1 => k_is); (case k1 => k_is))
    (case D7 => refine' Sc.def_mk KX G "is_short_number" Sc.sShort ?a1 ?l1 ?c1 ?k1; (case a1 => k_is); (case l1 => k_is); (case c1 => k_is); (case k1 => k_is))
    (case D8 => refine' Sc.def_mk KX G "show_words" Sc.sShowWords ?a1 ?l1 ?c1 ?k1; (case a1 => k_is); (case l1 => k_is); (case c1 => k_is); (case k1 => k_is))
    (case D9 => refine' Sc.def_mk KX G "show_run" Sc.sShowRun ?a1 ?l1 ?c1 ?k1; (case a1 => k_is); (case l1 => k_is); (case c1 => k_is); (case k1 => k_is))
    (case D10 => refine' Sc.def_mk KX G "read_run" Sc.sReadRun ?a1 ?l1 ?c1 ?k1; (case a1 => k_is); (case l1 => k_is); (case c1 => k_is); (case k1 => k_is))
    (case D11 => refine' Sc.def_mk KX G "_law_pot_of" Sc.sPot ?a1 ?l1 ?c1 ?k1; (case a1 => k_is); (case l1 => k_is); (case c1 => k_is); (case k1 => k_is))
    (case D12 => refine' Sc.def_mk KX G "_law_take" Sc.sTake ?a1 ?l1 ?c1 ?k1; (case a1 => k_is); (case l1 => k_is); (case c1 => k_is); (case k1 => k_is))
    (case D13 => refine' Sc.def_mk KX G "_law_of" Sc.sOf ?a1 ?l1 ?c1 ?k1; (case a1 => k_is); (case l1 => k_is); (case c1 => k_is); (case k1 => k_is))
    (case D14 => refine' Sc.def_mk KX G "_law_choice_text" Sc.sLText ?a1 ?l1 ?c1 ?k1; (case a1 => k_is); (case l1 => k_is); (case c1 => k_is); (case k1 => k_is))
    (case D15 => refine' Sc.def_mk KX G "_law_name" Sc.sLName ?a1 ?l1 ?c1 ?k1; (case a1 => k_is); (case l1 => k_is); (case c1 => k_is); (case k1 => k_is))
    (case D16 => refine' Sc.def_mk KX G "_law_drawn_choice" Sc.sLDrawn ?a1 ?l1 ?c1 ?k1; (case a1 => k_is); (case l1 => k_is); (case c1 => k_is); (case k1 => k_is))
    (case D17 => refine' Sc.def_mk KX G "_law_is_name" Sc.sLIsName ?a1 ?l1 ?c1 ?k1; (case a1 => k_is); (case l1 => k_is); (case c1 => k_is); (case k1 => k_is))
    (case D18 => refine' Sc.def_mk KX G "_law_choice_in" Sc.sLIn ?a1 ?l1 ?c1 ?k1; (case a1 => k_is); (case l1 => k_is); (case c1 => k_is); (case k1 => k_is))
    (case D19 => refine' Sc.def_mk KX G "_law_run_in" Sc.sLRunIn ?a1 ?l1 ?c1 ?k1; (case a1 => k_is); (case l1 => k_is); (case c1 => k_is); (case k1 => k_is))
    (case D20 => refine' Sc.def_mk KX G "_law_read_right" Sc.sLRR ?a1 ?l1 ?c1 ?k1; (case a1 => k_is); (case l1 => k_is); (case c1 => k_is); (case k1 => k_is))
    (case D21 => refine' Sc.def_mk KX G "_law_right" Sc.sLRight ?a1 ?l1 ?c1 ?k1; (case a1 => k_is); (case l1 => k_is); (case c1 => k_is); (case k1 => k_is))
    (case D22 => refine' Sc.def_mk KX G "law" Sc.sLaw ?a1 ?l1 ?c1 ?k1; (case a1 => k_is); (case l1 => k_is); (case c1 => k_is); (case k1 => k_is))
    (case EB => refine' Sc.errR_mk KX G "BadText" "BadText.__init__" Sc.sInitB rfl rfl rfl ?aC ?xLb ?iC ?l1 ?c1 ?k1 ?tI ?sa ?ga ?gg ?nv ?kC ?ty ?ha; (case aC => k_is); (case xLb => k_is); (case iC => k_is); (case l1 => k_is); (case c1 => k_is); (case k1 => k_is); (case tI => k_is); (case sa => k_is); (case ga => k_is); (case gg => k_is); (case nv => k_is); (case kC => k_is); (case ty => k_is); (case ha => k_is))
    (case xS => k_is)
    (case uS => k_is)
    (case dS => k_is)
    (case tS => k_is)
    (case hn => k_is)
    (case ht => k_is)
    (case xL => k_is)
    (case xD => k_is)
    (case xW => k_is)
    (case lW => k_is)
    (case zW => decide)
    (case vW => exact Sc.vals_strs (by rfl))
    (case z_len => k_is)
    (case z_all => k_is)
    (case z_int => k_is)
    (case z_str => k_is)
    (case z_tuple => k_is)
    (case z_isinstance => k_is)
    (case z_repr => k_is)
    (case z_range => k_is)
    (case z_max => k_is)
    (case z_min => k_is)
    (case z_abs => k_is)
    (case hBnd => exact fun s u => .of_eq rfl)
    (case b0 => exact L2.Binds.all fun us hl => match us, hl with | [_], _ => rfl)
    (case b1 => exact L2.Binds.all fun us hl => match us, hl with | [_], _ => rfl)
    (case b2 => exact L2.Binds.all fun us hl => match us, hl with | [_, _], _ => rfl)
    (case b3 => exact L2.Binds.all fun us hl => match us, hl with | [_], _ => rfl)
    (case b4 => exact L2.Binds.all fun us hl => match us, hl with | [_], _ => rfl)
    (case b5 => exact L2.Binds.all fun us hl => match us, hl with | [_], _ => rfl)
    (case b6 => exact L2.Binds.all fun us hl => match us, hl with | [_, _], _ => rfl)
    (case b7 => exact L2.Binds.all fun us hl => match us, hl with | [_], _ => rfl)
    (case b8 => exact L2.Binds.all fun us hl => match us, hl with | [_], _ => rfl)
    (case b9 => exact L2.Binds.all fun us hl => match us, hl with | [_], _ => rfl)
    (case b10 => exact L2.Binds.all fun us hl => match us, hl with | [_], _ => rfl)
    (case b11 => exact L2.Binds.all fun us hl => match us, hl with | [_, _], _ => rfl)
    (case b12 => exact L2.Binds.all fun us hl => match us, hl with | [_, _], _ => rfl)
    (case b13 => exact L2.Binds.all fun us hl => match us, hl with | [_, _], _ => rfl)
    (case b14 => exact L2.Binds.all fun us hl => match us, hl with | [_, _], _ => rfl)
    (case b15 => exact L2.Binds.all fun us hl => match us, hl with | [_], _ => rfl)
    (case b16 => exact L2.Binds.all fun us hl => match us, hl with | [_], _ => rfl)
    (case b17 => exact L2.Binds.all fun us hl => match us, hl with | [_], _ => rfl)
    (case b18 => exact L2.Binds.all fun us hl => match us, hl with | [_], _ => rfl)
    (case b19 => exact L2.Binds.all fun us hl => match us, hl with | [_], _ => rfl)
    (case b20 => exact L2.Binds.all fun us hl => match us, hl with | [_, _], _ => rfl)
    (case b21 => exact L2.Binds.all fun us hl => match us, hl with | [_], _ => rfl)
