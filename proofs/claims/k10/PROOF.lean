import PyProof.Rows.All
import Wide.All
import OpenK.AllK
import Wide.FinOn
import HandS.Nested
import HandS.Codes
import HandS.Base
import HandS.Call
import HandS.List
import HandS.Comp
import HandS.Ends
import HandS.Dict
import HandS.Iter
import HandS.Words
import HandS.WordsList
import HandS.WordsDict
import HandS.Wide
import HandS.Text
import HandS.Zip
import HandS.Flow
import HandS.Style
import HandS.SortInts
import HandS.DictComp
import HandS.More
import HandS.IsInst
import HandS.TupSets
import HandS.SetKeys
import HandS.SetFor
import HandS.TupAny
import HandS.Strs
import HandS.Conv
import KE.KDictList
import PyProof.AutoSeq1
import HandS.Steps
import HandS.ForMost
import HandS.Walk
import HandS.TupMul
import HandS.EndTab
import KE.KNestM
import KE.KLam
import PySem.Challenge.RW_scriptsamid_k10_runs_known_by_hand
set_option Elab.async false
set_option linter.all false
set_option maxRecDepth 100000
set_option maxHeartbeats 4000000
/-! a lambda of some parameters that captures cells, handed to a def that calls it -/
namespace Lm
open PySem PySem.Spec PyProof.Rows L2 LamX NdefX
/-- things that stand untracked in a heap -/
def There (hs : List (Addr × Obj)) (h : Heap) (H : Hp) : Prop := ∀ p ∈ hs, h.get? p.1 = some p.2 ∧ H p.1 = none
/-- code objects that are tracked -/
def Coded (cs : List (Addr × Str)) (H : Hp) : Prop := ∀ p ∈ cs, H p.1 = some (CodeO p.1 p.2)
/-- what a call of the thing u comes to wherever hs, cs stand and its cells hold ws -/
structure Act (P : Program) (w : World) (K : PySem.W.Frag) (mg : Str → Option Value) (base : Heap) (CX : CXT) (k : Nat) (cl : List (Str × Addr)) (fr : List Str) (hs : List (Addr × Obj)) (cs : List (Addr × Str)) (u : Addr) (sp : List (Option V) → Sp) : Prop where
  fn : ∃ oc od fd sl, (u, (⟨oc, od, .func fd, sl⟩ : Obj)) ∈ hs
  run : ∀ (A : Around) (outer : List Env) (s : Shared) (H : Hp) (us : List Value) (vs : List V) (ws : List (Option V)) (Q : VK) (E : XK), Room k A → Env0 P w K mg base A outer s H → There hs s.heap H → Coded cs H →
    CellsAt cl fr ws s.heap H → Vals vs us → sp ws vs H Q E → codeAny (model P w) A (.call (.ref u) ⟨us, []⟩) (CR CX outer P w H s Q E) s
/-- the same of a def that is handed such a thing: the caller's frames are other things -/
def Led (P : Program) (w : World) (K : PySem.W.Frag) (mg : Str → Option Value) (base : Heap) (CX : CXT) (k : Nat) (cl : List (Str × Addr)) (fr : List Str) (hs : List (Addr × Obj)) (cs : List (Addr × Str)) (g : Addr) (sp : List (Option V) → Sp) : Prop :=
  ∀ (A : Around) (outer : List Env) (s : Shared) (H : Hp) (us : List Value) (vs : List V) (ws : List (Option V)) (Q : VK) (E : XK), Room k A → Env0 P w K mg base A outer s H → There hs s.heap H → (∀ p ∈ hs, p.1 ∉ frs outer) →
    (∀ y c, cl.lookup y = some c → c ∉ frs outer) → Coded cs H → CellsAt cl fr ws s.heap H → Vals vs us → sp ws vs H Q E → codeAny (model P w) A (.call (.ref g) ⟨us, []⟩) (CR CX outer P w H s Q E) s
section
variable {P : Program} {w : World} {K : PySem.W.Frag} {mg : Str → Option Value} {base : Heap} {CX : CXT} {k j : Nat} {cl : List (Str × Addr)} {fr : List Str} {hs : List (Addr × Obj)} {cs : List (Addr × Str)} {u : Addr} {sp sp' : List (Option V) → Sp}
theorem Act.mono (a : Act P w K mg base CX j cl fr hs cs u sp) (l : j ≤ k) : Act P w K mg base CX k cl fr hs cs u sp :=
  ⟨a.fn, fun A o s H us vs ws Q E r => a.run A o s H us vs ws Q E (r.mono l)⟩
theorem Act.imp (a : Act P w K mg base CX k cl fr hs cs u sp) (l : ∀ ws vs H Q E, sp' ws vs H Q E → sp ws vs H Q E) : Act P w K mg base CX k cl fr hs cs u sp' :=
  ⟨a.fn, fun A o s H us vs ws Q E r e t c z v q => a.run A o s H us vs ws Q E r e t c z v (l _ _ _ _ _ q)⟩
theorem Led.mono (a : Led P w K mg base CX j cl fr hs cs u sp) (l : j ≤ k) : Led P w K mg base CX k cl fr hs cs u sp :=
  fun A o s H us vs ws Q E r => a A o s H us vs ws Q E (r.mono l)
theorem Led.imp (a : Led P w K mg base CX k cl fr hs cs u sp) (l : ∀ ws vs H Q E, sp' ws vs H Q E → sp ws vs H Q E) : Led P w K mg base CX k cl fr hs cs u sp' :=
  fun A o s H us vs ws Q E r e t n m c z v q => a A o s H us vs ws Q E r e t n m c z v (l _ _ _ _ _ q)
/-- no cells at all -/
theorem cells_none {h : Heap} {H : Hp} : CellsAt [] [] [] h H :=
  ⟨rfl, fun y c e => (nomatch (show (none : Option Addr) = some c from e)), fun x y c e => (nomatch (show (none : Option Addr) = some c from e)), fun i y e => (nomatch (show (([] : List Str)[i]?) = some y from e))⟩
/-- a def of the text is such a thing -/
theorem act_fn {f : Addr} {fd : FuncData} {ps : List Str} {sp : Sp} {oc : Value} {od : Option Addr} {sl : Array (Option Value)} (F : FnOk P w K mg base CX k f fd ps sp) (hb : Binds K fd ps []) :
    Act P w K mg base CX k [] [] [(f, ⟨oc, od, .func fd, sl⟩)] [] f (fun _ => sp) := by
  refine ⟨⟨oc, od, fd, sl, List.mem_cons_self⟩, fun A outer s H us vs ws Q E hr e0 _ _ _ r q => ?_⟩
  have KX : K.In s.heap := e0.mod.kin.keeps fun b o e => (e0.bs b o e).1
  have hl : (us ++ []).length = ps.length := by
    rw [List.append_nil, ← r.length]
    exact F.len _ _ _ _ q
  have B := hb s us KX hl
  rw [List.append_nil] at B
  exact F.run A outer s H ⟨us, []⟩ us vs Q E hr e0 B r q
/-- the words of a made lambda, as those of a made def -/
abbrev lamF (q : Str) (params : Arguments) (scope : Scope) (cl : List (Str × Addr)) (c : Addr) : NF := ⟨"<lambda>", q, params, [], scope, cl, c⟩
/-- a lambda by its body -/
theorem act_lam {N ps : List Str} {q : Str} {params : Arguments} {body : Expr} {scope : Scope} {c' f : Addr} {pm ctv : Value} (S : NScope N ps fr scope)
    (hb : ∀ us : List Value, us.length = ps.length → bindArgs (PySem.W.kla_fn "<lambda>" q params body scope cl pm (.ref c') ctv) ⟨us, []⟩ = pure (ps.zip us))
    (len : ∀ ws vs H Q E, sp ws vs H Q E → vs.length = ps.length)
    (hbody : ∀ (A : Around) (outer : List Env) (s : Shared) (H : Hp) (vs : List V) (ws : List (Option V)) (Q : VK) (E : XK), Room k (A.deeper (envF (lamF q params scope cl c') f s.heap.objs.size)) → ws.length = fr.length → sp ws vs H Q E →
      ∃ t, PE (ncx CX P w K mg base N (lamF q params scope cl c') f A outer s H E) body t ∧ t (startF N vs ws) H Q) :
    Act P w K mg base CX (k + 1) cl fr [(f, PySem.W.kla_obj "<lambda>" q params body scope cl pm c' ctv)] [(c', q)] f sp := by
  refine ⟨⟨_, _, _, _, List.mem_cons_self⟩, fun A outer s H us vs ws Q E hr e0 th hc C r hsp => ?_⟩
  have lim : s.heap.NoLimit := e0.mod.nolimit.keeps fun b o e => (e0.bs b o e).1
  have hu : us.length = ps.length := by
    rw [← r.length]
    exact len _ _ _ _ _ hsp
  refine PySem.W.kla_callFunE hr.depth (th _ List.mem_cons_self).1 rfl S.co S.gen rfl (codeO_at e0.hok (hc _ List.mem_cons_self)) ?_
  rw [hb us hu]
  refine wpAny_pure (wpAny_newFunctionEnv S.nocell (fun p hp => S.par p.1 (List.of_mem_zip hp).1) (fun g gns gsb => ⟨lim.fresh _ gsb, ?_⟩) S.kind)
  obtain ⟨t, ht, hq⟩ := hbody A outer s H vs ws Q E (hr.deeper _) C.len hsp
  have kp : ∀ b o, s.heap.get? b = some o → g.get? b = some o := fun b o e => by
    have lt := Heap.lt_size e
    exact gsb.extBut b o (Nat.ne_of_lt lt) (Heap.get?_push_of_some _ e)
  have I : Inv (ncx CX P w K mg base N (lamF q params scope cl c') f A outer s H E) [] (startF N vs ws) H { s with heap := g, toks := s.toks + (ps.zip us).length } :=
    inv_startN (F := lamF q params scope cl c') S hr.hd e0 (len _ _ _ _ _ hsp) r C gns kp
  refine PySem.W.kla_codeExpr (env := envF (lamF q params scope cl c') f s.heap.objs.size) (wpAny_mono (ht.run [] _ (startF N vs ws) H Q I hq) (fun v s' z => ?_) fun e s' z => z)
  obtain ⟨v1, H1, J, rv, qv⟩ := z
  exact ⟨v1, H1, J.os, J.bare, J.base, J.hok, rv, qv⟩
end
/-! ### x(..), x a parameter that holds such a thing -/
def tAct (i : Nat) (u : Addr) (cs : List (Addr × Str)) (ws : List (Option V)) (sp : List (Option V) → Sp) (E : XK) (t : TA) : TE := fun σ H Q =>
  σ[i]? = some (some (.ref u)) ∧ t σ H fun vs H1 => Coded cs H1 ∧ sp ws vs H1 Q E
section
variable {X : Cx} {CX : CXT} {k j i : Nat} {cl : List (Str × Addr)} {fr : List Str} {hs : List (Addr × Obj)} {cs : List (Addr × Str)} {u : Addr} {sp : List (Option V) → Sp} {ws : List (Option V)} {x : Str} {E : XK} {t : TA} {e : Expr} {es : List Expr} {p pos : Pos}
/-- what stood at the running def's entry stands still -/
theorem There.later {pins : List (Addr × Obj)} {σ : L2.St} {H : Hp} {s : Shared} (th : There hs X.s_0.heap X.H_0) (nf : ∀ q ∈ hs, q.1 ∉ X.fs) (nx : X.ex = []) (I : Inv X pins σ H s) : There hs s.heap H := fun q hq => by
  obtain ⟨e1, e2⟩ := th q hq
  have no : q.1 ∉ X.ex := by
    rw [nx]
    exact fun z => nomatch z
  exact ⟨I.base.keep _ _ e1 e2 (nf q hq) no, I.base.free _ _ e1 e2 no⟩
theorem pe_act1 (a : Act X.prog X.w X.K X.mg X.base CX k cl fr hs cs u sp) (hr : Room j X.A) (hk : k ≤ j) (hx : Passes CX X E) (th : There hs X.s_0.heap X.H_0) (nf : ∀ q ∈ hs, q.1 ∉ X.fs) (cf : ∀ y c, cl.lookup y = some c → c ∉ X.fs) (nx : X.ex = [])
    (C : CellsAt cl fr ws X.s_0.heap X.H_0) (hN : X.N[i]? = some x) (hv : Vis X.env.scope x) (ha : PA X (e :: es) t) (hd : (x == ("__debug__" : Str)) = false := by decide) (hcd : (x == ("__classdict__" : Str)) = false := by decide)
    (he : starEach (e :: es) X.env = (false, eval e X.env) :: starEach es X.env := by rfl) (hpl : (backTo pos (starEach es X.env)).any (·.1) = false := by rfl) :
    PE X (.Call (.Name x p) (e :: es) [] pos) (tAct i u cs ws sp E t) := by
  have fnAt : ∀ {pins σ H s}, Inv X pins σ H s → PySem.W.FnAt u s.heap := fun {pins σ H s} I => by
    obtain ⟨oc, od, fd, sl, hm⟩ := a.fn
    exact ⟨oc, od, fd, sl, (th.later nf nx I _ hm).1⟩
  refine ⟨fun pins s σ H Q I h => ?_⟩
  obtain ⟨hs0, ht⟩ := h
  have hvar := (pe_var (pos := p) hN hv hd hcd).run pins s σ H (fun v G => v = .ref u ∧ G = H) I ⟨_, hs0, rfl, rfl⟩
  refine wpAny_Call_Name_kw (thn hvar fun b s1 ⟨v, G, I1, rv, hvu, hG⟩ => ?_)
  subst hvu hG
  obtain rfl : b = Value.ref u := rv
  refine PySem.W.callWith_F (first := []) (fnAt I1) (thn (ha.run pos pins s1 σ _ _ I1 ht) fun us s2 ⟨vs, H2, I2, r, hc, q⟩ => ⟨fnAt I2, ?_⟩) he hpl
  show wpAny _ _ (call (.ref u) us) _ _ _
  have C2 : CellsAt cl fr ws s2.heap H2 := CellsAt.later C cf (fun y c _ => by
    rw [nx]
    exact fun z => nomatch z) I2
  refine wpAny_call (codeAny_mono (a.run X.A X.stack s2 H2 us vs ws Q E (hr.mono hk) I2.env0 (th.later nf nx I2) hc C2 r q) fun res s3 z => ?_)
  cases res with
  | error x => exact hx pins σ H2 s2 x s3 I2 z
  | ok fl => cases fl with
    | ret b => exact I2.after z
    | next => exact z.elim
    | brk => exact z.elim
    | cont => exact z.elim
end
/-! ### g(lambda ..: .., e, ..) and g(f, e, ..) -/
def tLed (T : List (Addr × Str)) (q : Str) (js : List Nat) (sp : Addr → Addr → List (Option V) → Sp) (E : XK) (t : TA) : TE := fun σ H Q =>
  Tabs T H ∧ ∀ (f c' : Addr) (H1 : Hp), ExtN H H1 → Tabs T H1 → H1 f = none → H1 c' = some (CodeO c' q) → t σ H1 fun vs H2 => H2 c' = some (CodeO c' q) ∧ sp f c' (js.map (slotAt σ)) (.ref f :: vs) H2 Q E
section
variable {X : Cx} {CX : CXT} {k j : Nat} {fr : List Str} {g c P : Addr} {T : List (Addr × Str)} {js : List Nat} {sp : Addr → Addr → List (Option V) → Sp} {x : Str} {E : XK} {t : TA} {es : List Expr} {p lpos pos : Pos} {params : Arguments} {body : Expr} {scope : Scope}
/-- a frame's cells are no frames -/
theorem cells_apart {pins : List (Addr × Obj)} {σ : L2.St} {H : Hp} {s : Shared} (I : Inv X pins σ H s) (hfn : ∀ y, X.fn y = true) {y : Str} {a : Addr} (e : X.env.cells.lookup y = some a) : a ∉ frs X.stack := fun z => by
  rcases List.mem_cons.mp (I.stkSub a z) with h | h
  · exact I.cne y a e h
  · obtain ⟨_, o, ho, _⟩ := I.ok.funs.mem h
    exact Nat.lt_irrefl _ (Nat.lt_of_lt_of_le (Heap.lt_size ho) (I.ok.cab y a (hfn y) e))
theorem pe_led (L : ∀ (f c' : Addr) (pm ctv : Value), Led X.prog X.w X.K X.mg X.base CX k (cloFrom X.env.cells scope.names []) fr [(f, PySem.W.kla_obj "<lambda>" (X.env.qual ++ "<lambda>") params body scope (cloFrom X.env.cells scope.names []) pm c' ctv)] [(c', X.env.qual ++ "<lambda>")] g (sp f c'))
    (hr : Room j X.A) (hkj : k ≤ j) (hx : Passes CX X E) (hg : Gl X x) (hm : X.mg x = some (.ref g)) (hk : PySem.W.keepIn X.K (.ref g) = true) (TB : TabB X.base X.mg c P) (hcode : X.env.code = .ref c) (hmT : (P, X.env.qual ++ "<lambda>") ∈ T) (hu : ∀ r ∈ T, r.1 = P → r.2 = X.env.qual ++ "<lambda>")
    (hfn : ∀ y, X.fn y = true) (cap : X.Ok → Caps X (cloFrom X.env.cells scope.names []) fr js) (hfree : X.Ok → ∀ y ∈ scope.names, y.2 = .free → ∃ c, X.env.cells.lookup y.1 = some c) (hdef : defaultsOf params X.env = ([], [])) (ha : PA X es t)
    (hdb : (x == ("__debug__" : Str)) = false := by decide) (he : starEach (.Lambda params body scope lpos :: es) X.env = (false, eval (.Lambda params body scope lpos) X.env) :: starEach es X.env := by rfl) (hpl : (backTo pos (starEach es X.env)).any (·.1) = false := by rfl) :
    PE X (.Call (.Name x p) (.Lambda params body scope lpos :: es) [] pos) (tLed T (X.env.qual ++ "<lambda>") js sp E t) := by
  refine ⟨fun pins s σ H Q I h => ?_⟩
  obtain ⟨hT, h⟩ := h
  refine wpAny_Call_Name_kw (ld_glob I hg hm ?_ hdb)
  refine PySem.W.callWith_K (h₀ := X.base) I.ok.mod.kin hk ?_ he hpl
  rw [he]
  show wpAny _ _ (spliced ((false, eval (.Lambda params body scope lpos) X.env) :: backTo pos (starEach es X.env))) _ _ s
  refine Calls.spliced_cons (lam_make2 I TB hcode hmT hu hT hdef (hfree I.ok) fun f c' pm ctv H1 s1 I1 eN T1 hf hfn1 hfr hco => ?_)
  have ft := h f c' H1 eN T1 hfn1 hco
  have pinned : Inv X ([(f, PySem.W.kla_obj "<lambda>" (X.env.qual ++ "<lambda>") params body scope (cloFrom X.env.cells scope.names []) pm c' ctv)] ++ pins) σ H1 s1 := by
    refine I1.pins_of fun q hq => ?_
    rcases List.mem_append.mp hq with z | z
    · rw [List.mem_singleton.mp z]
      refine ⟨hf, hfn1, fun e => ?_, fun m => ?_, fun v e => nomatch e⟩
      · obtain ⟨m, ⟨o, es1, ep1, ho, hd, _⟩, _⟩ := I1.loc
        rw [← e] at ho
        have ho : s1.heap.get? f = some o := ho
        rw [hf] at ho
        cases ho
        cases hd
      · have m : f ∈ X.fs := m
        refine hfr ?_
        rcases I1.ok.stk with z | ⟨z, _⟩
        · rw [z]
          exact m
        · rw [z]
          unfold frs
          rw [List.filterMap_cons]
          split
          · exact m
          · exact List.mem_cons_of_mem _ m
    · exact I1.pin q (List.mem_append_right _ z)
  refine thn (ha.run pos _ s1 σ H1 _ pinned ft) fun us s2 ⟨vs, H2, I2, r, hc2, q⟩ => ⟨I2.kIn, ?_⟩
  have I3 : Inv X pins σ H2 s2 := I2.pins_of fun q hq => I2.pin q (List.mem_append_right _ (List.mem_append_right _ hq))
  have pf := I2.pin _ (List.mem_append_right _ (List.mem_append_left _ List.mem_cons_self))
  have cp := cap I3.ok
  have lead := L f c' pm ctv X.A X.stack s2 H2 (.ref f :: us) (.ref f :: vs) (js.map (slotAt σ)) Q E (hr.mono hkj) I3.env0
    (fun q hq => by
      rw [List.mem_singleton.mp hq]
      exact ⟨pf.1, pf.2.1⟩)
    (fun q hq => by
      rw [List.mem_singleton.mp hq]
      exact hfr)
    (fun y a e => cells_apart I3 hfn (cp.sub y a e))
    (fun q hq => by
      rw [List.mem_singleton.mp hq]
      exact hc2)
    (cells_of I3 cp) (.cons rfl r) q
  show wpAny _ _ (call (.ref g) (.ref f :: us)) _ _ _
  refine wpAny_call (codeAny_mono lead fun res s3 z => ?_)
  cases res with
  | error x => exact hx pins σ H2 s2 x s3 I3 z
  | ok fl => cases fl with
    | ret b => exact I3.after z
    | next => exact z.elim
    | brk => exact z.elim
    | cont => exact z.elim
/-- g(e, ..), the first one a thing that needs no cells -/
def tLed0 (cs : List (Addr × Str)) (u : Addr) (sp : List (Option V) → Sp) (E : XK) (t : TA) : TE := fun σ H Q => t σ H fun vs H1 => vs.head? = some (.ref u) ∧ Coded cs H1 ∧ sp [] vs H1 Q E
theorem pe_led0 {hs : List (Addr × Obj)} {cs : List (Addr × Str)} {u : Addr} {sp : List (Option V) → Sp} {e : Expr} (L : Led X.prog X.w X.K X.mg X.base CX k [] [] hs cs g sp) (hb : ∀ q ∈ hs, X.base.get? q.1 = some q.2) (hr : Room j X.A) (hkj : k ≤ j) (hx : Passes CX X E)
    (hg : Gl X x) (hm : X.mg x = some (.ref g)) (hk : PySem.W.keepIn X.K (.ref g) = true) (ha : PA X (e :: es) t) (hdb : (x == ("__debug__" : Str)) = false := by decide)
    (he : starEach (e :: es) X.env = (false, eval e X.env) :: starEach es X.env := by rfl) (hpl : (backTo pos (starEach es X.env)).any (·.1) = false := by rfl) :
    PE X (.Call (.Name x p) (e :: es) [] pos) (tLed0 cs u sp E t) := by
  refine ⟨fun pins s σ H Q I h => ?_⟩
  refine wpAny_Call_Name_kw (ld_glob I hg hm ?_ hdb)
  refine PySem.W.callWith_K (h₀ := X.base) I.ok.mod.kin hk (thn (ha.run pos pins s σ H _ I h) fun us s2 ⟨vs, H2, I2, r, _, hc, q⟩ => ⟨I2.kIn, ?_⟩) he hpl
  have lead := L X.A X.stack s2 H2 us vs [] Q E (hr.mono hkj) I2.env0 (fun q hq => I2.bs _ _ (hb q hq))
    (fun q hq z => by
      rcases List.mem_cons.mp (I2.stkSub _ z) with h1 | h1
      · have a1 := Heap.lt_size (hb q hq)
        rw [h1] at a1
        exact Nat.lt_irrefl _ (Nat.lt_of_lt_of_le a1 (Nat.le_trans I2.ok.bsz I2.ok.above))
      · exact I2.ok.nofr (hb q hq) h1)
    (fun y a e1 => nomatch (show (none : Option Addr) = some a from e1)) hc cells_none r q
  show wpAny _ _ (call (.ref g) us) _ _ _
  refine wpAny_call (codeAny_mono lead fun res s3 z => ?_)
  cases res with
  | error x => exact hx pins σ H2 s2 x s3 I2 z
  | ok fl => cases fl with
    | ret b => exact I2.after z
    | next => exact z.elim
    | brk => exact z.elim
    | cont => exact z.elim
end
end Lm

namespace Sc
open PySem L2 PySem.Spec PyProof.Rows
def top (i : Nat) : Stmt := PySem.Challenge.pw_scriptsamid_k10_runs_known_by_hand.main.body.getD i (.Pass ⟨0, 0, 0, 0⟩)
/-- all that was tracked stays -/
def Same (H H' : Hp) : Prop := ∀ a o, H a = some o → H' a = some o
theorem Same.refl (H : Hp) : Same H H := fun _ _ e => e
theorem Same.trans {H H1 H2 : Hp} (a : Same H H1) (b : Same H1 H2) : Same H H2 := fun c o e => b c o (a c o e)
theorem same_new {H : Hp} {p : Addr} {o : HO} (h : H p = none) : Same H (upd H p o) := fun c u e => by
  rw [upd_ne (ne_of_none e h)]
  exact e
/-- a new list is filled: what was there ahead of it stays -/
theorem same_fill {H H1 : Hp} {p : Addr} {o : HO} (h : H p = none) (s : Same H H1) : Same H (upd H1 p o) := fun c u e => by
  rw [upd_ne (ne_of_none e h)]
  exact s c u e
theorem SqL.same {K : PySem.W.Frag} {H H' : Hp} {a : Addr} {xs : List V} (h : SqL K H a xs) (s : Same H H') : SqL K H' a xs := by
  rcases h with (h | ⟨o, h⟩) | h
  · exact .inl (.inl (s _ _ h))
  · exact .inl (.inr ⟨o, s _ _ h⟩)
  · exact .inr h
theorem SqT.same {K : PySem.W.Frag} {H H' : Hp} {a : Addr} {xs : List V} (h : SqT K H a xs) (s : Same H H') : SqT K H' a xs := by
  rcases h with (h | ⟨o, h⟩) | h
  · exact .inl (.inl (s _ _ h))
  · exact .inl (.inr ⟨o, s _ _ h⟩)
  · exact .inr h
/-- an element's reading that comes to y and leaves what there is -/
def Elt (te : TE) (σ : L2.St) (H : Hp) (y : V) : Prop := ∀ Q : VK, (∀ H', Same H H' → Q y H') → te σ H Q
/-- [e for c in x], x a text -/
theorem lc_str {x : Str} {i : Nat} {te : TE} {vs : List Nat} {σ : L2.St} {H : Hp} {D : Addr} {Qd : Hp → Prop} (ys : List V) (hn : H D = none) (hl : ys.length = x.cps.size) (h1 : x.cps.size ≤ sizeLine)
    (hi : ∀ v, wipe ((wipe σ vs).set i (some v)) vs = wipe σ vs)
    (hs : ∀ (n : Nat) (c : Nat) (y : V) (H' : Hp), x.cps[n]? = some c → ys[n]? = some y → Same H H' → Elt te ((wipe σ vs).set i (some (.str ⟨#[c]⟩))) H' y) (hd : ∀ H', Same H H' → H' D = some (.lst ys) → Qd H') :
    ∃ W : Nat → Nat → Hp → Prop, (∃ m, W 0 m (upd H D (.lst []))) ∧ ∀ n m H1, W n m H1 →
      ((Its x).stop n H1 ∧ Qd H1) ∨ ((Its x).go n H1 ∧ ∃ Nx : Hp → Prop, (∀ H', Nx H' → ∃ m', m' < m ∧ W (n + 1) m' H') ∧ ∀ v H', (Its x).yld n H1 v H' → gName i v (wipe σ vs) H' fun σ2 H2 => wipe σ2 vs = wipe σ vs ∧ tYes σ2 H2 fun b H3 =>
        if b = true then te σ2 H3 fun y H4 => ∃ acc, H4 D = some (.lst acc) ∧ acc.length < sizeLine ∧ Nx (upd H4 D (.lst (acc ++ [y]))) else Nx H3) := by
  refine ⟨fun n m H1 => m = x.cps.size - n ∧ n ≤ x.cps.size ∧ Same H H1 ∧ H1 D = some (.lst (ys.take n)), ⟨_, rfl, Nat.zero_le _, same_new hn, by rw [upd_same, List.take_zero]⟩, ?_⟩
  rintro n m H1 ⟨rfl, hle, s1, hD⟩
  by_cases h : n < x.cps.size
  · refine .inr ⟨h, fun H' => Same H H' ∧ H' D = some (.lst (ys.take (n + 1))), fun H' ⟨a, b⟩ => ⟨x.cps.size - (n + 1), by omega, rfl, h, a, b⟩, ?_⟩
    rintro v H' ⟨rfl, c, hc, rfl⟩
    have hy : n < ys.length := by omega
    refine ⟨hi _, ?_⟩
    show te _ _ _
    refine hs n c ys[n] H' hc (List.getElem?_eq_getElem hy) s1 _ fun H4 s4 => ⟨ys.take n, s4 _ _ hD, ?_, same_fill hn (s1.trans s4), ?_⟩
    · rw [List.length_take]
      omega
    · rw [upd_same, List.take_succ_eq_append_getElem hy]
  · obtain rfl : n = x.cps.size := by omega
    refine .inl ⟨Nat.le_refl _, hd H1 s1 ?_⟩
    rw [hD, ← hl, List.take_length]
end Sc

namespace Sc
open PySem L2 PySem.Spec PyProof.Rows
/-! ### forms: names and numbers -/
def letters : Str := "abcdefghijklmnopqrstuvwxyz"
def digits : Str := "0123456789"
def reserved : List Str := ["cell", "own", "package", "edition", "needs", "lays", "before", "behind", "leaves", "gone", "back", "at", "set", "copy", "to", "wake", "fail", "if", "else"]
/-- the names that the package uses stand for the built-ins -/
structure NatR (mg : Str → Option Value) : Prop where
  len : mg "len" = none
  all : mg "all" = none
  any : mg "any" = none
  zip : mg "zip" = none
  int : mg "int" = none
  str : mg "str" = none
  list : mg "list" = none
  tuple : mg "tuple" = none
  sorted : mg "sorted" = none
  enum : mg "enumerate" = none
  max : mg "max" = none
  set : mg "set" = none
  isi : mg "isinstance" = none
/-- the module's texts and rows of texts -/
structure Kept (K : PySem.W.Frag) (mg : Str → Option Value) (rA : Addr) : Prop where
  letters : ∃ t, mg "LETTERS" = some (.str letters t)
  digits : ∃ t, mg "DIGITS" = some (.str digits t)
  res : mg "RESERVED" = some (.ref rA)
  resT : ∀ H, SqT K H rA (reserved.map V.str)
abbrev sSpelled : Stmt := top 20
abbrev sName : Stmt := top 21
abbrev sNumber : Stmt := top 22
theorem scSpelled : FnScope ["word", "sign"] ["word"] (defScope sSpelled) := ⟨rfl, rfl, rfl, by decide +kernel, rfl, by decide +kernel, by decide +kernel⟩
theorem scName : FnScope ["word"] ["word"] (defScope sName) := ⟨rfl, rfl, rfl, by decide +kernel, rfl, by decide +kernel, by decide +kernel⟩
theorem scNumber : FnScope ["word", "sign"] ["word"] (defScope sNumber) := ⟨rfl, rfl, rfl, by decide +kernel, rfl, by decide +kernel, by decide +kernel⟩
def allIn (w z : Str) : Bool := w.cps.toList.all fun c => decide (c ∈ z.cps.toList)
def spelled (w : Str) : Bool := decide (1 ≤ w.length) && decide (w.length ≤ 8) && allIn w letters
def named (w : Str) : Bool := spelled w && !reserved.contains w
def number (w : Str) : Bool := if (w == ("" : Str)) || !allIn w digits then false else (w == ("0" : Str)) || !(w.cps.toList.head? == some 48)
/-- a text's look: it answers b and leaves what there is -/
def spLook (b : Str → Bool) : Sp := fun vs H Q _ => ∃ x : Str, vs = [.str x] ∧ x.length ≤ 20000 ∧ ∀ H', Same H H' → Q (.bl (b x)) H'
theorem inV_str (w : Str) (xs : List Str) : inV (.str w) (xs.map V.str) = xs.contains w := by
  induction xs with
  | nil => rfl
  | cons x r ih =>
    show (x == w || inV (.str w) (r.map V.str)) = _
    rw [ih, List.contains_cons]
    congr 1
    by_cases h : x = w
    · subst h
      rw [beq_self_eq_true]
    · rw [beq_eq_false_iff_ne.mpr h, beq_eq_false_iff_ne.mpr (Ne.symm h)]
theorem all_map (x : Str) (p : Nat → Bool) : ((x.cps.toList.map p).all id) = x.cps.toList.all p := by
  rw [List.all_map]
  rfl
/-- [.. for sign in word], each answer that of a test of the sign -/
theorem signs_go {te : TE} {vs : List Nat} {i j : Nat} {σ : L2.St} {H : Hp} {Q : VK} {x : Str} (p : Nat → Bool) (hj : σ[j]? = some (some (.str x))) (h1 : x.length ≤ sizeLine) (hi : ∀ v, wipe ((wipe σ vs).set i (some v)) vs = wipe σ vs)
    (hs : ∀ (c : Nat) (H' : Hp), Elt te ((wipe σ vs).set i (some (.str ⟨#[c]⟩))) H' (.bl (p c))) (hd : ∀ D H', Same H H' → H' D = some (.lst ((x.cps.toList.map p).map V.bl)) → Q (.ref D) H') :
    tLc (iStr (tVar j)) (gName i) tYes te vs σ H Q := by
  refine ⟨_, hj, x, rfl, fun D hn => lc_str ((x.cps.toList.map p).map V.bl) hn (by simp) h1 hi (fun n c y H' hc hy s => ?_) (hd D)⟩
  have e : y = .bl (p c) := by
    have hc2 : x.cps.toList[n]? = some c := by
      rw [Array.getElem?_toList]
      exact hc
    rw [List.getElem?_map, List.getElem?_map, hc2] at hy
    exact (Option.some.inj hy).symm
  rw [e]
  exact hs c H'
/-- all(..) of a list of answers that was just made -/
theorem all_go {K : PySem.W.Frag} {t : TE} {σ : L2.St} {H : Hp} {Q : VK} (bs : List Bool) (h : ∀ R : VK, (∀ D H', Same H H' → H' D = some (.lst (bs.map V.bl)) → R (.ref D) H') → t σ H R) (q : ∀ H', Same H H' → Q (.bl (bs.all id)) H') :
    tCB (rAll K) (tCons t tNil) σ H Q :=
  h _ fun D H' s e => ⟨D, bs, rfl, .inl (.inl e), q H' s⟩
theorem tst_go {c : Bool} {F G : Prop} (h : if c = true then F else G) : ∃ k, V.bl c = V.bl k ∧ if k = true then F else G := ⟨c, rfl, h⟩
section
variable {P : Program} {w : World} {K : PySem.W.Frag} {mg : Str → Option Value} {base : Heap} {rA : Addr}
theorem sz {x : Str} (h : x.length ≤ 20000) : x.length ≤ sizeLine := Nat.le_trans h (by rw [sizeLine_eq]; decide)
theorem ok_spelled {f : Addr} {fd : FuncData} (F : Fun K "is_spelled" "is_spelled" sSpelled f fd) (T : NatR mg) (U : Kept K mg rA) : FnOk P w K mg base CX0 1 f fd ["word"] (spLook spelled) := by
  obtain ⟨tl, hL⟩ := U.letters
  refine F.ok scSpelled (fun vs H Q E h => ?_) (fun cdv A outer s H vs Q E hr h => ?_)
  · obtain ⟨x, rfl, _⟩ := h
    rfl
  · obtain ⟨x, rfl, hx, q⟩ := h
    refine ⟨_, pss_one (ps_ret (pe_and (pe_chain op_le op_le pe_int (pe_callB call_len_str (by rfl) T.len PySem.boot_len (pa_cons (pv 0) pa_nil)) pe_int)
      (pe_one (pe_callB (cr_all rfl) (by rfl) T.all (by decide +kernel) (pa_cons
        (pe_lc (own := [("sign", 1)]) (g := gName 1) (tt := tYes) rfl scSpelled.nd (pi_str (pv 0)) (blkOk_by (own := [("sign", 1)]) (N := ["word", "sign"]) (sc := defScope sSpelled) (by decide +kernel))
          (fun _ _ _ _ _ => pg_name (i := 1) scSpelled.nd rfl (Or.inl rfl)) (fun _ _ _ _ _ => pts_nil) (fun _ _ _ _ _ => pe_cmpR op_in_sign (pv 1) (pe_glob (v := .str letters) (by rfl) hL ⟨_, rfl⟩) (by rfl))) pa_nil))))), ?_⟩
    have h1 : x.cps.size ≤ sizeLine := sz hx
    have fin : ∀ H', Same H H' → ∀ b, b = spelled x → Q (.bl b) H' := fun H' s b e => e ▸ q H' s
    refine ⟨_, rfl, x, rfl, sz hx, _, _, rfl, rfl, _, rfl, ?_⟩
    refine ite2 (fun a1 => ?_) (fun a1 => ?_)
    · refine ⟨_, _, rfl, rfl, _, rfl, ite2 (fun a2 => ?_) (fun a2 => ?_)⟩
      · refine all_go (x.cps.toList.map fun c => decide (c ∈ letters.cps.toList)) (fun R k => signs_go (fun c => decide (c ∈ letters.cps.toList)) rfl h1 (fun v => rfl) (fun c H' R2 k2 => ⟨_, rfl, c, letters, rfl, rfl, k2 H' (Same.refl _)⟩) k) fun H' s => ?_
        refine fin H' s _ ?_
        rw [all_map]
        unfold spelled
        rw [show decide (1 ≤ x.length) = true from decide_eq_true (by have := of_decide_eq_true a1; omega), show decide (x.length ≤ 8) = true from decide_eq_true (by have := of_decide_eq_true a2; omega)]
        rfl
      · refine fin H (Same.refl H) _ ?_
        unfold spelled
        rw [show decide (x.length ≤ 8) = false from decide_eq_false (fun h => a2 (decide_eq_true (by omega)))]
        simp
    · refine ⟨false, rfl, ?_⟩
      refine fin H (Same.refl H) _ ?_
      unfold spelled
      rw [show decide (1 ≤ x.length) = false from decide_eq_false (fun h => a1 (decide_eq_true (by omega)))]
      simp
theorem ok_name {f fS : Addr} {fd fdS : FuncData} (F : Fun K "is_name" "is_name" sName f fd) (U : Kept K mg rA) (GS : FnOk P w K mg base CX0 1 fS fdS ["word"] (spLook spelled)) (gS : mg "is_spelled" = some (.ref fS)) (kS : PySem.W.keepIn K (.ref fS) = true) (bS : Binds K fdS ["word"] []) :
    FnOk P w K mg base CX0 2 f fd ["word"] (spLook named) := by
  refine F.ok scName (fun vs H Q E h => ?_) (fun cdv A outer s H vs Q E hr h => ?_)
  · obtain ⟨x, rfl, _⟩ := h
    rfl
  · obtain ⟨x, rfl, hx, q⟩ := h
    refine ⟨_, pss_one (ps_ret (pe_and (pe_call GS hr (by rfl) gS kS bS .nil pass0 (pa_cons (pv 0) pa_nil)) (pe_one (pe_cmpR op_notIn_seq (pv 0) (pe_glob (v := .ref rA) (by rfl) U.res rfl) (by rfl))))), ?_⟩
    have fin : ∀ H', Same H H' → ∀ b, b = named x → Q (.bl b) H' := fun H' s b e => e ▸ q H' s
    refine ⟨_, rfl, x, rfl, hx, fun H' s => tst_go (ite2 (fun a => ?_) fun a => ?_)⟩
    · refine ⟨_, rfl, rA, _, rfl, .inr (U.resT H'), rfl, ?_, ?_⟩
      · rw [List.all_map]
        exact List.all_eq_true.mpr fun _ _ => rfl
      · refine fin H' s _ ?_
        rw [inV_str]
        unfold named
        rw [a]
        rfl
    · refine fin H' s _ ?_
      unfold named
      rw [show spelled x = false by simpa using a]
      rfl
theorem sign_zero (c : Nat) : decide (V.str ⟨#[c]⟩ = V.str ("0" : Str)) = (c == 48) := by
  have e : ("0" : Str) = ⟨#[48]⟩ := by decide
  rw [e, dec_str]
  by_cases h : c = 48
  · subst h
    rfl
  · rw [beq_eq_false_iff_ne.mpr h]
    refine beq_eq_false_iff_ne.mpr fun z => h ?_
    have z1 := congrArg (fun s : Str => s.cps.toList) z
    simpa using z1
theorem ok_number {f : Addr} {fd : FuncData} (F : Fun K "is_number" "is_number" sNumber f fd) (T : NatR mg) (U : Kept K mg rA) : FnOk P w K mg base CX0 1 f fd ["word"] (spLook number) := by
  obtain ⟨tl, hL⟩ := U.digits
  refine F.ok scNumber (fun vs H Q E h => ?_) (fun cdv A outer s H vs Q E hr h => ?_)
  · obtain ⟨x, rfl, _⟩ := h
    rfl
  · obtain ⟨x, rfl, hx, q⟩ := h
    have h1 : x.cps.size ≤ sizeLine := sz hx
    have fin : ∀ H', Same H H' → ∀ b, b = number x → Q (.bl b) H' := fun H' s b e => e ▸ q H' s
    refine ⟨_, pss_cons (ps_if (PW.pt (pw_or (pt_cmpR op_eq (pv 0) pe_str (nomark _)) (pw_or1 (pt_not (pt_val (pe_callB (cr_all rfl) (by rfl) T.all (by decide +kernel) (pa_cons
        (pe_lc (own := [("sign", 1)]) (g := gName 1) (tt := tYes) rfl scNumber.nd (pi_str (pv 0)) (blkOk_by (own := [("sign", 1)]) (N := ["word", "sign"]) (sc := defScope sNumber) (by decide +kernel))
          (fun _ _ _ _ _ => pg_name (i := 1) scNumber.nd rfl (Or.inl rfl)) (fun _ _ _ _ _ => pts_nil) (fun _ _ _ _ _ => pe_cmpR op_in_sign (pv 1) (pe_glob (v := .str digits) (by rfl) hL ⟨_, rfl⟩) (by rfl))) pa_nil)))))))
        (pss_one (ps_ret pe_bl)) pss_nil)
      (pss_one (ps_ret (pe_or (pe_cmpR op_eq (pv 0) pe_str (nomark _)) (pe_one (pe_cmpR op_ne (pe_ix ix_str (pv 0) pe_int (fun _ _ => rfl)) pe_str (nomark _)))))), ?_⟩
    refine ⟨_, rfl, rfl, _, rfl, ite2 (fun a => ite2 (fun _ => ?_) fun n => absurd rfl n) fun a => ?_⟩
    · refine fin H (Same.refl H) _ ?_
      rw [dec_str] at a
      unfold number
      rw [a]
      rfl
    · have a2 : (x == ("" : Str)) = false := by
        rw [dec_str] at a
        simpa using a
      refine all_go (x.cps.toList.map fun c => decide (c ∈ digits.cps.toList)) (fun R k => signs_go (fun c => decide (c ∈ digits.cps.toList)) rfl h1 (fun v => rfl) (fun c H' R2 k2 => ⟨_, rfl, c, digits, rfl, rfl, k2 H' (Same.refl _)⟩) k) fun H' s => ?_
      rw [all_map]
      refine ⟨_, rfl, ite2 (fun b => ?_) fun b => ?_⟩
      · refine fin H' s _ ?_
        have b2 : allIn x digits = false := by
          unfold allIn
          simpa using b
        unfold number
        rw [a2, b2]
        rfl
      · have b2 : allIn x digits = true := by
          unfold allIn
          simpa using b
        have nonempty : x.cps.toList ≠ [] := fun z => by
          have e : x = ("" : Str) := by
            have e2 : x.cps = #[] := by
              rw [← Array.toArray_toList (xs := x.cps), z]
            cases x with
            | mk c =>
              have e2 : c = #[] := e2
              subst e2
              rfl
          rw [e] at a2
          exact absurd a2 (by decide)
        obtain ⟨c, r, hc⟩ := List.exists_cons_of_ne_nil nonempty
        refine ⟨_, rfl, rfl, _, rfl, ite2 (fun d => ?_) fun d => ?_⟩
        · refine fin H' s _ ?_
          rw [dec_str] at d
          unfold number
          rw [a2, b2, d]
          rfl
        · refine ⟨_, rfl, x, 0, c, rfl, rfl, h1, ?_, rfl, ?_⟩
          · rw [hc]
            exact atI_nat (j := 0) rfl
          · refine fin H' s _ ?_
            rw [dec_str] at d
            have d2 : (x == ("0" : Str)) = false := by simpa using d
            rw [sign_zero]
            unfold number
            rw [a2, b2, d2, hc]
            show (!(c == 48)) = (!(some c == some 48))
            rfl
end
end Sc

namespace Sc
open PySem L2 PySem.Spec PyProof.Rows
abbrev sFits : Stmt := top 23
abbrev sPlain : Stmt := top 26
theorem scFits : FnScope ["words", "form", "parts", "word", "part"] ["words", "form"] (defScope sFits) := ⟨rfl, rfl, rfl, by decide +kernel, rfl, by decide +kernel, by decide +kernel⟩
theorem scPlain : FnScope ["words", "form"] ["words"] (defScope sPlain) := ⟨rfl, rfl, rfl, by decide +kernel, rfl, by decide +kernel, by decide +kernel⟩
def fitsW (w p : Str) : Bool := if p == ("NAME" : Str) then named w else w == p
def fitsM (ws : List Str) (form : Str) : Bool := ws.length == (Txt.split form " ").length && (ws.zip (Txt.split form " ")).all fun q => fitsW q.1 q.2
/-- a text of fair length, of Python's signs -/
def TxtOk (x : Str) : Prop := x.length ≤ 20000 ∧ PyData.strOk x = true
/-- a list of texts stands at a -/
def Words (K : PySem.W.Frag) (H : Hp) (a : Addr) (ws : List Str) : Prop := SqL K H a (ws.map V.str) ∧ ws.length ≤ 20002 ∧ ∀ x ∈ ws, TxtOk x
/-- a form: few short parts -/
def formOk (form : Str) : Bool := decide (form.length ≤ 100) && decide ((Txt.split form " ").length ≤ 100) && (Txt.split form " ").all fun x => decide (x.length ≤ 100)
def spFits (K : PySem.W.Frag) : Sp := fun vs H Q _ => ∃ (a : Addr) (ws : List Str) (form : Str), vs = [.ref a, .str form] ∧ Words K H a ws ∧ formOk form = true ∧ ∀ H', Same H H' → Q (.bl (fitsM ws form)) H'
theorem map_get {xs : List Str} {n : Nat} {x : V} (h : (xs.map V.str)[n]? = some x) : ∃ u, xs[n]? = some u ∧ x = .str u := by
  rw [List.getElem?_map] at h
  cases e : xs[n]? with
  | none =>
    rw [e] at h
    cases h
  | some u =>
    rw [e] at h
    exact ⟨u, rfl, (Option.some.inj h).symm⟩
/-- [e for x, y in zip(xs, ys)], two lists of one length -/
theorem zips_go {K : PySem.W.Frag} {te : TE} {vs : List Nat} {i j p q : Nat} {σ : L2.St} {H : Hp} {Q : VK} {a b : Addr} {xs ys : List V} (rs : List V) (hp : σ[p]? = some (some (.ref a))) (hq : σ[q]? = some (some (.ref b))) (hx : SqL K H a xs) (hy : SqL K H b ys)
    (hl : xs.length = ys.length) (hr : rs.length = xs.length) (hz : xs.length ≤ sizeLine) (hi : ∀ u v, wipe (((wipe σ vs).set i (some u)).set j (some v)) vs = wipe σ vs)
    (hs : ∀ (n : Nat) (x y r : V) (H' : Hp), xs[n]? = some x → ys[n]? = some y → rs[n]? = some r → Same H H' → Elt te (((wipe σ vs).set i (some x)).set j (some y)) H' r)
    (hd : ∀ D H', Same H H' → H' D = some (.lst rs) → Q (.ref D) H') :
    tLc (iZip K (tCons (tVar p) (tCons (tVar q) tNil))) (gTup K 2 (gCons (gName i) (gCons (gName j) gNil))) tYes te vs σ H Q := by
  refine ⟨_, hp, _, hq, a, b, xs, ys, rfl, hx, hy, fun D hn => ?_⟩
  refine ⟨fun n m H1 => m = xs.length - n ∧ n ≤ xs.length ∧ Same H H1 ∧ H1 D = some (.lst (rs.take n)), ⟨_, rfl, Nat.zero_le _, same_new hn, by rw [upd_same, List.take_zero]⟩, ?_⟩
  rintro n m H1 ⟨rfl, hle, s1, hD⟩
  by_cases h : n < xs.length
  · have h2 : n < ys.length := by omega
    have h3 : n < rs.length := by omega
    have ex := List.getElem?_eq_getElem h
    have ey := List.getElem?_eq_getElem h2
    refine .inr ⟨⟨xs, ys, _, _, SqL.same hx s1, SqL.same hy s1, ex, ey⟩, fun H' => Same H H' ∧ H' D = some (.lst (rs.take (n + 1))), fun H' ⟨c, d⟩ => ⟨xs.length - (n + 1), by omega, rfl, h, c, d⟩, ?_⟩
    rintro v H' ⟨T, x, y, rfl, hT, rfl, f1, f2⟩
    have sT := same_new (o := .tup [x, y]) hT
    refine ⟨T, [x, y], rfl, .inl (.inl upd_same), rfl, x, [y], rfl, y, [], rfl, rfl, hi _ _, ?_⟩
    show te _ _ _
    refine hs n x y rs[n] _ (f1 xs (SqL.same hx s1)) (f2 ys (SqL.same hy s1)) (List.getElem?_eq_getElem h3) (s1.trans sT) _ fun H4 s4 => ⟨rs.take n, s4 _ _ (sT _ _ hD), ?_, same_fill hn ((s1.trans sT).trans s4), ?_⟩
    · rw [List.length_take]
      omega
    · rw [upd_same, List.take_succ_eq_append_getElem h3]
  · obtain rfl : n = xs.length := by omega
    refine .inl ⟨⟨xs, ys, SqL.same hx s1, SqL.same hy s1, .inl (Nat.le_refl _)⟩, hd D H1 s1 ?_⟩
    rw [hD, ← hr, List.take_length]
section
variable {P : Program} {w : World} {K : PySem.W.Frag} {mg : Str → Option Value} {base : Heap} {rA : Addr}
theorem ok_fits {f fN : Addr} {fd fdN : FuncData} (F : Fun K "fits" "fits" sFits f fd) (T : NatR mg) (GN : FnOk P w K mg base CX0 2 fN fdN ["word"] (spLook named)) (gN : mg "is_name" = some (.ref fN)) (kN : PySem.W.keepIn K (.ref fN) = true) (bN : Binds K fdN ["word"] []) :
    FnOk P w K mg base CX0 3 f fd ["words", "form"] (spFits K) := by
  refine F.ok scFits (fun vs H Q E h => ?_) (fun cdv A outer s H vs Q E hr h => ?_)
  · obtain ⟨a, ws, form, rfl, _⟩ := h
    rfl
  · obtain ⟨a, ws, form, rfl, hw, hf, q⟩ := h
    refine ⟨_, pss_cons (ps_set (i := 2) scFits.nd rfl (Or.inl rfl) (pe_split (pv 1) pe_str))
      (pss_cons (ps_if (pt_cmpR op_ne (pe_callB call_len_seq (by rfl) T.len PySem.boot_len (pa_cons (pv 0) pa_nil)) (pe_callB call_len_seq (by rfl) T.len PySem.boot_len (pa_cons (pv 2) pa_nil)) (nomark _)) (pss_one (ps_ret pe_bl)) pss_nil)
      (pss_one (ps_ret (pe_callB (cr_all rfl) (by rfl) T.all (by decide +kernel) (pa_cons
        (pe_lc (own := [("word", 3), ("part", 4)]) (g := gTup K 2 (gCons (gName 3) (gCons (gName 4) gNil))) (tt := tYes) rfl scFits.nd (pi_zip (by rfl) T.zip (pa_cons (pv 0) (pa_cons (pv 2) pa_nil))) (blkOk_by (own := [("word", 3), ("part", 4)]) (N := ["words", "form", "parts", "word", "part"]) (sc := defScope sFits) (by decide +kernel))
          (fun _ _ _ _ _ => pg_tup rfl (pgs_cons (pg_name (i := 3) scFits.nd rfl (Or.inl rfl)) (pgs_cons (pg_name (i := 4) scFits.nd rfl (Or.inl rfl)) pgs_nil))) (fun _ _ _ _ _ => pts_nil)
          (fun _ _ _ _ _ => pe_ifExp (pt_cmpR op_eq (pv 4) pe_str (nomark _)) (pe_call GN hr (by rfl) gN kN bN .nil pass0 (pa_cons (pv 3) pa_nil)) (pe_cmpR op_eq (pv 3) (pv 4) (nomark _)))) pa_nil))))), ?_⟩
    unfold formOk at hf
    simp only [Bool.and_eq_true, decide_eq_true_eq, List.all_eq_true] at hf
    obtain ⟨⟨hf0, hf1⟩, hf2⟩ := hf
    obtain ⟨hw0, hw1, hw2⟩ := hw
    have fin : ∀ H', Same H H' → ∀ b, b = fitsM ws form → Q (.bl b) H' := fun H' s b e => e ▸ q H' s
    refine ⟨_, rfl, ⟨_, rfl⟩, form, _, rfl, rfl, rfl, ?_, fun p hp => ?_⟩
    · rw [sizeLine_eq]
      omega
    unfold fitsM at fin
    generalize Txt.split form (" " : Str) = ps at hf1 hf2 fin ⊢
    have s1 := same_new (o := .lst (ps.map V.str)) hp
    have hp1 : SqL K (upd H p (.lst (ps.map V.str))) p (ps.map V.str) := .inl (.inl upd_same)
    have ha1 := SqL.same hw0 s1
    generalize upd H p (.lst (ps.map V.str)) = H1 at s1 hp1 ha1 ⊢
    refine ⟨_, rfl, a, _, rfl, .inl ha1, _, rfl, p, _, rfl, .inl hp1, rfl, _, rfl, ite2 (fun b => ?_) fun b => ?_⟩
    · refine fin H1 s1 _ ?_
      rw [dec_int, List.length_map, List.length_map] at b
      rw [show (ws.length == ps.length) = false from beq_eq_false_iff_ne.mpr fun z => by simp [z] at b]
      rfl
    · have hl : ws.length = ps.length := by
        rw [dec_int, List.length_map, List.length_map] at b
        have b2 : (ws.length : Int) = ps.length := by simpa using b
        omega
      refine all_go ((ws.zip ps).map fun q => fitsW q.1 q.2) (fun R k => zips_go (((ws.zip ps).map fun q => fitsW q.1 q.2).map V.bl) rfl rfl ha1 hp1 (by rw [List.length_map, List.length_map, hl]) (by rw [List.length_map, List.length_map, List.length_map, List.length_zip, hl, Nat.min_self])
        (by rw [List.length_map, sizeLine_eq]; omega) (fun u v => rfl) (fun n x y r H' hx hy hr' s => ?_) k) fun H' s => ?_
      · obtain ⟨u, hu, rfl⟩ := map_get hx
        obtain ⟨v, hv, rfl⟩ := map_get hy
        have e : r = .bl (fitsW u v) := by
          rw [List.getElem?_map, List.getElem?_map, (List.getElem?_zip_eq_some (z := (u, v))).mpr ⟨hu, hv⟩] at hr'
          exact (Option.some.inj hr').symm
        subst e
        intro R k
        refine ⟨_, rfl, rfl, _, rfl, ite2 (fun c => ?_) fun c => ?_⟩
        · rw [dec_str] at c
          refine ⟨_, rfl, u, rfl, (hw2 u (List.mem_of_getElem? hu)).1, fun H2 s2 => ?_⟩
          have k2 := k H2 s2
          unfold fitsW at k2
          rw [c] at k2
          exact k2
        · rw [dec_str] at c
          refine ⟨_, rfl, _, rfl, rfl, ?_⟩
          have k2 := k H' (Same.refl H')
          unfold fitsW at k2
          rw [show (v == ("NAME" : Str)) = false by simpa using c] at k2
          rw [dec_str]
          exact k2
      · refine fin H' (s1.trans s) _ ?_
        rw [hl, beq_self_eq_true, List.all_map]
        rfl
end
end Sc

namespace Sc
open PySem L2 PySem.Spec PyProof.Rows
/-- [e for x in xs], the items of a list or tuple that stands still -/
theorem items_go {J : It} {te : TE} {vs : List Nat} {i : Nat} {σ : L2.St} {H : Hp} {Q : VK} {xs : List V} (rs : List V) (hr : rs.length = xs.length) (hz : xs.length ≤ sizeLine) (hi : ∀ u, wipe ((wipe σ vs).set i (some u)) vs = wipe σ vs)
    (go : ∀ n H', Same H H' → n < xs.length → J.go n H') (yld : ∀ n H' v H2, Same H H' → J.yld n H' v H2 → H2 = H' ∧ xs[n]? = some v) (stop : ∀ H', Same H H' → J.stop xs.length H')
    (hs : ∀ (n : Nat) (x r : V) (H' : Hp), xs[n]? = some x → rs[n]? = some r → Same H H' → Elt te ((wipe σ vs).set i (some x)) H' r)
    (hd : ∀ D H', Same H H' → H' D = some (.lst rs) → Q (.ref D) H') (D : Addr) (hn : H D = none) :
    ∃ W : Nat → Nat → Hp → Prop, (∃ m, W 0 m (upd H D (.lst []))) ∧ ∀ n m H1, W n m H1 →
      (J.stop n H1 ∧ Q (.ref D) H1) ∨ (J.go n H1 ∧ ∃ Nx : Hp → Prop, (∀ H', Nx H' → ∃ m', m' < m ∧ W (n + 1) m' H') ∧ ∀ v H', J.yld n H1 v H' → gName i v (wipe σ vs) H' fun σ2 H2 => wipe σ2 vs = wipe σ vs ∧ tYes σ2 H2 fun b H3 =>
        if b = true then te σ2 H3 fun y H4 => ∃ acc, H4 D = some (.lst acc) ∧ acc.length < sizeLine ∧ Nx (upd H4 D (.lst (acc ++ [y]))) else Nx H3) := by
  refine ⟨fun n m H1 => m = xs.length - n ∧ n ≤ xs.length ∧ Same H H1 ∧ H1 D = some (.lst (rs.take n)), ⟨_, rfl, Nat.zero_le _, same_new hn, by rw [upd_same, List.take_zero]⟩, ?_⟩
  rintro n m H1 ⟨rfl, hle, s1, hD⟩
  by_cases h : n < xs.length
  · have h3 : n < rs.length := by omega
    refine .inr ⟨go n H1 s1 h, fun H' => Same H H' ∧ H' D = some (.lst (rs.take (n + 1))), fun H' ⟨c, d⟩ => ⟨xs.length - (n + 1), by omega, rfl, h, c, d⟩, fun v H' y => ?_⟩
    obtain ⟨rfl, hx⟩ := yld n H1 v H' s1 y
    refine ⟨hi _, ?_⟩
    show te _ _ _
    refine hs n v rs[n] H' hx (List.getElem?_eq_getElem h3) s1 _ fun H4 s4 => ⟨rs.take n, s4 _ _ hD, ?_, same_fill hn (s1.trans s4), ?_⟩
    · rw [List.length_take]
      omega
    · rw [upd_same, List.take_succ_eq_append_getElem h3]
  · obtain rfl : n = xs.length := by omega
    refine .inl ⟨stop H1 s1, hd D H1 s1 ?_⟩
    rw [hD, ← hr, List.take_length]
theorem look_get {ws : List Str} {p : Str → Bool} {n : Nat} {x r : V} (hx : (ws.map V.str)[n]? = some x) (hr : ((ws.map p).map V.bl)[n]? = some r) : ∃ u, u ∈ ws ∧ x = .str u ∧ r = .bl (p u) := by
  obtain ⟨u, hu, rfl⟩ := map_get hx
  refine ⟨u, List.mem_of_getElem? hu, rfl, ?_⟩
  rw [List.getElem?_map, List.getElem?_map, hu] at hr
  exact (Option.some.inj hr).symm
/-- [look(word) for word in words], a list of texts -/
theorem words_go {K : PySem.W.Frag} {te tl : TE} {vs : List Nat} {i : Nat} {σ : L2.St} {H : Hp} {Q : VK} {a : Addr} {ws : List Str} (p : Str → Bool) (hl : ∀ R : VK, (∀ b H', Same H H' → SqL K H' b (ws.map V.str) → R (.ref b) H') → tl σ H R) (hz : ws.length ≤ sizeLine)
    (hi : ∀ u, wipe ((wipe σ vs).set i (some u)) vs = wipe σ vs) (hs : ∀ u H', u ∈ ws → Elt te ((wipe σ vs).set i (some (.str u))) H' (.bl (p u)))
    (hd : ∀ D H', Same H H' → H' D = some (.lst ((ws.map p).map V.bl)) → Q (.ref D) H') : tLc (iList K tl) (gName i) tYes te vs σ H Q := by
  refine hl _ fun b H1 s1 hb => ⟨b, rfl, ⟨_, hb⟩, fun D hn => items_go (J := Itl K b) (xs := ws.map V.str) ((ws.map p).map V.bl) (by simp) (by rw [List.length_map]; exact hz) hi
    (fun n H' s h => ⟨_, _, SqL.same hb s, List.getElem?_eq_getElem h⟩) (fun n H' v H2 s y => ⟨y.1, y.2 _ (SqL.same hb s)⟩) (fun H' s => ⟨_, SqL.same hb s, Nat.le_refl _⟩) (fun n x r H' hx hr s => ?_) (fun D H' s => hd D H' (s1.trans s)) D hn⟩
  obtain ⟨u, hu, rfl, rfl⟩ := look_get hx hr
  exact hs u H' hu
/-- the same over a tuple of texts that the module has -/
theorem forms_go {K : PySem.W.Frag} {te : TE} {vs : List Nat} {i : Nat} {σ : L2.St} {H : Hp} {Q : VK} {a : Addr} {ws : List Str} (p : Str → Bool) (ha : ∀ H', SqT K H' a (ws.map V.str)) (hz : ws.length ≤ sizeLine)
    (hi : ∀ u, wipe ((wipe σ vs).set i (some u)) vs = wipe σ vs) (hs : ∀ u H', u ∈ ws → Same H H' → Elt te ((wipe σ vs).set i (some (.str u))) H' (.bl (p u)))
    (hd : ∀ D H', Same H H' → H' D = some (.lst ((ws.map p).map V.bl)) → Q (.ref D) H') : tLc (iTup K (tC (.ref a))) (gName i) tYes te vs σ H Q := by
  refine ⟨a, rfl, ⟨_, ha H⟩, fun D hn => items_go (J := Itt K a) (xs := ws.map V.str) ((ws.map p).map V.bl) (by simp) (by rw [List.length_map]; exact hz) hi
    (fun n H' s h => ⟨_, _, ha H', List.getElem?_eq_getElem h⟩) (fun n H' v H2 s y => ⟨y.1, y.2 _ (ha H')⟩) (fun H' s => ⟨_, ha H', Nat.le_refl _⟩) (fun n x r H' hx hr s => ?_) hd D hn⟩
  obtain ⟨u, hu, rfl, rfl⟩ := look_get hx hr
  exact hs u H' hu s
/-- any(..) of a list of answers that was just made -/
theorem any_go {K : PySem.W.Frag} {t : TE} {σ : L2.St} {H : Hp} {Q : VK} (bs : List Bool) (h : ∀ R : VK, (∀ D H', Same H H' → H' D = some (.lst (bs.map V.bl)) → R (.ref D) H') → t σ H R) (q : ∀ H', Same H H' → Q (.bl (bs.any id)) H') :
    tCB (rAny K) (tCons t tNil) σ H Q :=
  h _ fun D H' s e => ⟨D, bs, rfl, .inl (.inl e), q H' s⟩
/-! ### is_plain_command -/
def plainForms : List Str := ["set NAME NAME", "copy NAME to NAME", "wake NAME", "fail"]
def plainM (ws : List Str) : Bool := plainForms.any fun f => fitsM ws f
/-- a look at a row of words -/
def spRow (K : PySem.W.Frag) (b : List Str → Bool) : Sp := fun vs H Q _ => ∃ (a : Addr) (ws : List Str), vs = [.ref a] ∧ Words K H a ws ∧ ∀ H', Same H H' → Q (.bl (b ws)) H'
theorem Words.same {K : PySem.W.Frag} {H H' : Hp} {a : Addr} {ws : List Str} (h : Words K H a ws) (s : Same H H') : Words K H' a ws := ⟨SqL.same h.1 s, h.2⟩
section
variable {P : Program} {w : World} {K : PySem.W.Frag} {mg : Str → Option Value} {base : Heap} {rA : Addr}
theorem ok_plain {f fF pA : Addr} {fd fdF : FuncData} (F : Fun K "is_plain_command" "is_plain_command" sPlain f fd) (T : NatR mg) (hP : mg "PLAIN_COMMANDS" = some (.ref pA)) (hPt : ∀ H, SqT K H pA (plainForms.map V.str))
    (GF : FnOk P w K mg base CX0 3 fF fdF ["words", "form"] (spFits K)) (gF : mg "fits" = some (.ref fF)) (kF : PySem.W.keepIn K (.ref fF) = true) (bF : Binds K fdF ["words", "form"] []) :
    FnOk P w K mg base CX0 4 f fd ["words"] (spRow K plainM) := by
  refine F.ok scPlain (fun vs H Q E h => ?_) (fun cdv A outer s H vs Q E hr h => ?_)
  · obtain ⟨a, ws, rfl, _⟩ := h
    rfl
  · obtain ⟨a, ws, rfl, hw, q⟩ := h
    refine ⟨_, pss_one (ps_ret (pe_callB (cr_any rfl) (by rfl) T.any (by decide +kernel) (pa_cons
        (pe_lc (own := [("form", 1)]) (g := gName 1) (tt := tYes) rfl scPlain.nd (pi_tup (pe_glob (v := .ref pA) (by rfl) hP rfl)) (blkOk_by (own := [("form", 1)]) (N := ["words", "form"]) (sc := defScope sPlain) (by decide +kernel))
          (fun _ _ _ _ _ => pg_name (i := 1) scPlain.nd rfl (Or.inl rfl)) (fun _ _ _ _ _ => pts_nil) (fun _ _ _ _ _ => pe_call GF hr (by rfl) gF kF bF .nil pass0 (pa_cons (pv 0) (pa_cons (pv 1) pa_nil)))) pa_nil))), ?_⟩
    refine any_go (plainForms.map fun f => fitsM ws f) (fun R k => forms_go (fun f => fitsM ws f) hPt (by rw [sizeLine_eq]; decide) (fun u => rfl) (fun u H' hu s R k => ?_) k) fun H' s => ?_
    · have hok : formOk u = true := by
        have all : plainForms.all formOk = true := by decide +kernel
        exact List.all_eq_true.mp all u hu
      exact ⟨_, rfl, _, rfl, a, ws, u, rfl, hw.same s, hok, fun H2 s2 => k H2 s2⟩
    · rw [List.any_map]
      exact q H' s
end
end Sc

namespace Sc
open PySem L2 PySem.Spec PyProof.Rows
abbrev sCellLine : Stmt := top 24
theorem scCellLine : FnScope ["words", "names", "word"] ["words"] (defScope sCellLine) := ⟨rfl, rfl, rfl, by decide +kernel, rfl, by decide +kernel, by decide +kernel⟩
/-- a row's piece -/
def cutW (ws : List Str) (lo hi : Option Int) : List Str := (ws.drop (HT.sIx ws.length 0 lo)).take (HT.sIx ws.length ws.length hi - HT.sIx ws.length 0 lo)
theorem cutV_map (ws : List Str) (lo hi : Option Int) : cutV (ws.map V.str) lo hi = (cutW ws lo hi).map V.str := by
  unfold cutV cutW
  rw [List.length_map, List.map_take, List.map_drop]
theorem cutW_sub (ws : List Str) (lo hi : Option Int) : (cutW ws lo hi).length ≤ ws.length ∧ ∀ x ∈ cutW ws lo hi, x ∈ ws := by
  constructor
  · unfold cutW
    rw [List.length_take, List.length_drop]
    omega
  · intro x h
    exact List.mem_of_mem_drop (List.mem_of_mem_take h)
theorem Words.cut {K : PySem.W.Frag} {H : Hp} {a p : Addr} {ws : List Str} (h : Words K H a ws) (hp : H p = none) (lo hi : Option Int) : Words K (upd H p (.lst (cutV (ws.map V.str) lo hi))) p (cutW ws lo hi) := by
  refine ⟨.inl (.inl ?_), Nat.le_trans (cutW_sub ws lo hi).1 h.2.1, fun x hx => h.2.2 x ((cutW_sub ws lo hi).2 x hx)⟩
  rw [upd_same, cutV_map]
def lastIs (ws : List Str) (x : Str) : Bool := ws.getLast? == some x
def cellNames (ws : List Str) : List Str := if lastIs (cutW ws (some 1) none) "own" then cutW (cutW ws (some 1) none) none (some (-1)) else cutW ws (some 1) none
def cellLine (ws : List Str) : Bool := (cutW ws none (some 1) == [("cell" : Str)]) && (decide (3 ≤ (cellNames ws).length) && decide ((cellNames ws).length ≤ 5)) && (cellNames ws).all named
/-- the data of a row of texts -/
theorem dpAll_strs {K : PySem.W.Frag} {H : Hp} : ∀ ws : List Str, DpAll K H (ws.map V.str) (ws.map PyData.str)
  | [] => .nil
  | x :: r => .cons (.str x) (dpAll_strs r)
theorem dp_words {K : PySem.W.Frag} {H : Hp} {a : Addr} {ws : List Str} (h : SqL K H a (ws.map V.str)) : Dp K H (.ref a) (.list (ws.map PyData.str)) := .lst h (dpAll_strs ws)
theorem eqvAll_strs : ∀ xs ys : List Str, PyData.eqvAll (xs.map PyData.str) (ys.map PyData.str) = (xs == ys)
  | [], [] => rfl
  | [], _ :: _ => rfl
  | _ :: _, [] => rfl
  | x :: xs, y :: ys => by
    show ((x == y) && PyData.eqvAll (xs.map PyData.str) (ys.map PyData.str)) = _
    rw [eqvAll_strs xs ys]
    rfl
theorem eqv_strs (xs ys : List Str) : PyData.eqv (.list (xs.map PyData.str)) (.list (ys.map PyData.str)) = (xs == ys) := eqvAll_strs xs ys
theorem canLay_strs : ∀ ws : List Str, (∀ x ∈ ws, PyData.strOk x = true) → PyData.canLayAll0 (ws.map PyData.str) = true
  | [], _ => rfl
  | x :: r, h => by
    show (PyData.strOk x && PyData.canLayAll0 (r.map PyData.str)) = true
    rw [h x List.mem_cons_self, canLay_strs r fun y hy => h y (List.mem_cons_of_mem _ hy)]
    rfl
theorem depth_strs : ∀ ws : List Str, PyData.depthAll (ws.map PyData.str) = 0
  | [] => rfl
  | x :: r => by
    show max 0 (PyData.depthAll (r.map PyData.str)) = 0
    rw [depth_strs r]
    rfl
theorem shaped_strs (ws : List Str) (h : ∀ x ∈ ws, PyData.strOk x = true) : SeqAt.shaped (.list (ws.map PyData.str)) = true := by
  show (PyData.canLayAll0 (ws.map PyData.str) && decide (PyData.depthAll (ws.map PyData.str) + 1 ≤ 64)) = true
  rw [canLay_strs ws h, depth_strs]
  rfl
theorem last_get {ws : List Str} (h : ws ≠ []) : ∃ x, ws.getLast? = some x ∧ x ∈ ws ∧ atI (ws.map V.str) (-1) = some (.str x) := by
  refine ⟨ws.getLast h, List.getLast?_eq_some_getLast h, List.getLast_mem h, ?_⟩
  have e : ws.dropLast.map V.str ++ [V.str (ws.getLast h)] = ws.map V.str := by
    have e2 := congrArg (List.map V.str) (List.dropLast_concat_getLast h)
    rw [List.map_append] at e2
    exact e2
  rw [← e]
  exact atI_last _ _
/-- the first two statements: the names behind the word cell, without own at the end -/
theorem cell_names {K : PySem.W.Frag} {a : Addr} {ws : List Str} {H : Hp} {D : Ends} {u : TS} (hw : Words K H a ws) (k : ∀ (H1 : Hp) (n : Addr), Same H H1 → Words K H1 n (cellNames ws) → u D [some (.ref a), some (.ref n), none] H1) :
    tSeq (tAsg (tSl (rSlL K) (tVar 0) (tPart (tC (.int 1))) tNoPart) (gName 1)) (tSeq (tIfS (tAnd (fun σ H Q => tVar 1 σ H fun x H' => ∃ k, TruV K x H' k ∧ Q k H')
      (tTest (tOp rEq (tOp (rIxL K) (tVar 1) (tUn (rU fun i => .int (-i)) (tC (.int 1)))) (tC (.str "own"))))) (tAsg (tSl (rSlL K) (tVar 1) tNoPart (tPart (tUn (rU fun i => .int (-i)) (tC (.int 1))))) (gName 1)) tNext) u) D [some (.ref a), none, none] H := by
  refine ⟨_, rfl, 1, rfl, a, _, rfl, hw.1, fun n hn => ?_⟩
  have s1 := same_new (o := .lst (cutV (ws.map V.str) (some 1) none)) hn
  have w1 := hw.cut hn (some 1) none
  unfold cellNames at k
  generalize upd H n (.lst (cutV (ws.map V.str) (some 1) none)) = H1 at s1 w1 ⊢
  generalize cutW ws (some 1) none = ns at w1 k ⊢
  refine ⟨_, rfl, !ns.isEmpty, .inl ⟨_, w1.1, by rw [List.isEmpty_map]⟩, ite2 (fun c => ?_) fun c => ?_⟩
  · have ne : ns ≠ [] := fun z => by
      rw [z] at c
      exact absurd c (by decide)
    obtain ⟨x, e1, e2, e3⟩ := last_get ne
    refine ⟨_, rfl, _, rfl, n, _, _, _, rfl, rfl, w1.1, e3, rfl, _, rfl, ite2 (fun d => ?_) fun d => ?_⟩
    · rw [dec_str] at d
      refine ⟨_, rfl, _, rfl, _, rfl, n, _, rfl, w1.1, fun m hm => ?_⟩
      have k2 := k _ m (s1.trans (same_new hm)) (by
        have l1 : lastIs ns ("own" : Str) = true := by
          unfold lastIs
          rw [e1]
          simpa using d
        rw [if_pos l1]
        exact w1.cut hm none (some (-1)))
      exact k2
    · rw [dec_str] at d
      have l1 : ¬ lastIs ns ("own" : Str) = true := by
        unfold lastIs
        rw [e1]
        simpa using d
      rw [if_neg l1] at k
      exact k H1 n s1 w1
  · have e : ns = [] := by simpa using c
    have l1 : ¬ lastIs ns ("own" : Str) = true := by
      rw [e]
      decide
    rw [if_neg l1] at k
    exact k H1 n s1 w1
section
variable {P : Program} {w : World} {K : PySem.W.Frag} {mg : Str → Option Value} {base : Heap} {rA : Addr}
theorem ok_cellLine {f fN : Addr} {fd fdN : FuncData} (F : Fun K "is_cell_line" "is_cell_line" sCellLine f fd) (T : NatR mg) (GN : FnOk P w K mg base CX0 2 fN fdN ["word"] (spLook named)) (gN : mg "is_name" = some (.ref fN)) (kN : PySem.W.keepIn K (.ref fN) = true) (bN : Binds K fdN ["word"] []) :
    FnOk P w K mg base CX0 3 f fd ["words"] (spRow K cellLine) := by
  refine F.ok scCellLine (fun vs H Q E h => ?_) (fun cdv A outer s H vs Q E hr h => ?_)
  · obtain ⟨a, ws, rfl, _⟩ := h
    rfl
  · obtain ⟨a, ws, rfl, hw, q⟩ := h
    refine ⟨_, pss_cons (ps_set (i := 1) scCellLine.nd rfl (Or.inl rfl) (pe_slice sl_list (pv 0) (po_some pe_int) po_none))
      (pss_cons (ps_if (PW.pt (pw_and (pt_truth (pv 1) (by intro _; rfl)) (pw_and1 (pt_cmpR op_eq (pe_ix ix_list (pv 1) (pe_un un_neg pe_int) (fun _ _ => rfl)) pe_str (nomark _)))))
        (pss_one (ps_set (i := 1) scCellLine.nd rfl (Or.inl rfl) (pe_slice sl_list (pv 1) po_none (po_some (pe_un un_neg pe_int))))) pss_nil)
      (pss_one (ps_ret (pe_and (pe_cmpR (op_eqD hr.units) (pe_slice sl_list (pv 0) po_none (po_some pe_int)) (pe_lst (pa_cons pe_str pa_nil)) (nomark _))
        (pe_and (pe_chain op_le op_le pe_int (pe_callB call_len_seq (by rfl) T.len PySem.boot_len (pa_cons (pv 1) pa_nil)) pe_int)
        (pe_one (pe_callB (cr_all rfl) (by rfl) T.all (by decide +kernel) (pa_cons
          (pe_lc (own := [("word", 2)]) (g := gName 2) (tt := tYes) rfl scCellLine.nd (pi_list (pv 1)) (blkOk_by (own := [("word", 2)]) (N := ["words", "names", "word"]) (sc := defScope sCellLine) (by decide +kernel))
            (fun _ _ _ _ _ => pg_name (i := 2) scCellLine.nd rfl (Or.inl rfl)) (fun _ _ _ _ _ => pts_nil) (fun _ _ _ _ _ => pe_call GN hr (by rfl) gN kN bN .nil pass0 (pa_cons (pv 2) pa_nil))) pa_nil)))))))), ?_⟩
    have nl : ∀ {xs : List Str}, xs.length ≤ 20002 → xs.length ≤ sizeLine := fun h => by
      rw [sizeLine_eq]
      omega
    refine cell_names hw fun H1 n s1 hn => ?_
    have fin : ∀ H', Same H1 H' → ∀ b, b = cellLine ws → Q (.bl b) H' := fun H' s b e => e ▸ q H' (s1.trans s)
    have hw1 := hw.same s1
    refine ⟨_, rfl, _, rfl, a, _, rfl, hw1.1, fun p hp => ?_⟩
    have s2 := same_new (o := .lst (cutV (ws.map V.str) none (some 1))) hp
    have w2 := hw1.cut hp none (some 1)
    have hn2 := hn.same s2
    generalize upd H1 p (.lst (cutV (ws.map V.str) none (some 1))) = H2 at s2 w2 hn2 ⊢
    refine ⟨by decide, fun r hr2 => ?_⟩
    have s3 := same_new (o := .lst [V.str ("cell" : Str)]) hr2
    have w3 := w2.same s3
    have hn3 := hn2.same s3
    have hc3 : SqL K (upd H2 r (.lst [V.str ("cell" : Str)])) r ([("cell" : Str)].map V.str) := .inl (.inl upd_same)
    generalize upd H2 r (.lst [V.str ("cell" : Str)]) = H3 at s3 w3 hn3 hc3 ⊢
    have s4 := s2.trans s3
    refine ⟨_, _, dp_words w3.1, dp_words hc3, shaped_strs _ fun x hx => (w3.2.2 x hx).2, shaped_strs _ (by decide +kernel), ?_⟩
    rw [eqv_strs]
    unfold cellLine at fin
    refine tst_go (ite2 (fun c => ?_) fun c => ?_)
    · rw [c] at fin
      refine ⟨_, rfl, n, _, rfl, .inl hn3.1, _, _, rfl, rfl, _, rfl, ite2 (fun c3 => ?_) fun c3 => ?_⟩
      · refine ⟨_, _, rfl, rfl, tst_go (ite2 (fun c5 => ?_) fun c5 => ?_)⟩
        · rw [List.length_map] at c3 c5
          rw [show decide (3 ≤ (cellNames ws).length) = true from decide_eq_true (by have := of_decide_eq_true c3; omega), show decide ((cellNames ws).length ≤ 5) = true from decide_eq_true (by have := of_decide_eq_true c5; omega)] at fin
          refine all_go ((cellNames ws).map named) (fun R k => words_go (a := n) named (fun R2 k2 => ⟨_, rfl, k2 n H3 (Same.refl H3) hn3.1⟩) (nl hn3.2.1) (fun u => rfl) (fun u H' hu R3 k3 => ⟨_, rfl, u, rfl, (hn3.2.2 u hu).1, fun H4 s5 => k3 H4 s5⟩) k) fun H' s => ?_
          refine fin H' (s4.trans s) _ ?_
          rw [List.all_map]
          rfl
        · rw [List.length_map] at c5
          rw [show decide ((cellNames ws).length ≤ 5) = false from decide_eq_false fun h => c5 (decide_eq_true (by omega))] at fin
          exact fin H3 s4 _ (by simp)
      · refine ⟨false, rfl, ?_⟩
        rw [List.length_map] at c3
        rw [show decide (3 ≤ (cellNames ws).length) = false from decide_eq_false fun h => c3 (decide_eq_true (by omega))] at fin
        exact fin H3 s4 _ (by simp)
    · rw [show (cutW ws none (some 1) == [("cell" : Str)]) = false by simpa using c] at fin
      exact fin H3 s4 _ rfl
end
end Sc

namespace Sc
open PySem L2 PySem.Spec PyProof.Rows
/-! ### xs[lo:hi:step] of a list -/
def stepIx (n : Nat) (lo hi st : Option Int) : List Nat := sliceRange (sliceBounds lo hi st n).1 (sliceBounds lo hi st n).2.1 (sliceBounds lo hi st n).2.2
def stepV (xs : List V) (lo hi st : Option Int) : List V := (stepIx xs.length lo hi st).filterMap fun i => xs[i]?
def stepW (ws : List Str) (lo hi st : Option Int) : List Str := (stepIx ws.length lo hi st).filterMap fun i => ws[i]?
theorem vals_pick {xs : List V} {its : List Value} (r : Vals xs its) : ∀ ix : List Nat, Vals (ix.filterMap fun i => xs[i]?) (ix.filterMap fun i => its[i]?)
  | [] => .nil
  | i :: ix => by
    cases e : xs[i]? with
    | none =>
      have hl := r.length
      have e2 : its[i]? = none := by
        rw [List.getElem?_eq_none_iff] at e ⊢
        omega
      rw [List.filterMap_cons_none e, List.filterMap_cons_none e2]
      exact vals_pick r ix
    | some v =>
      obtain ⟨u, hu, rv⟩ := r.get e
      rw [List.filterMap_cons_some e, List.filterMap_cons_some hu]
      exact .cons rv (vals_pick r ix)
theorem stepV_map (ws : List Str) (lo hi st : Option Int) : stepV (ws.map V.str) lo hi st = (stepW ws lo hi st).map V.str := by
  unfold stepV stepW
  rw [List.length_map, List.map_filterMap]
  congr 1
  funext i
  rw [List.getElem?_map]
def tStep (K : PySem.W.Frag) (te : TE) (tl th ts : TO) : TE := fun σ H Q => te σ H fun x H1 => tl σ H1 fun l H2 => th σ H2 fun u H3 => ts σ H3 fun d H4 =>
  ∃ a xs, x = .ref a ∧ SqL K H4 a xs ∧ d ≠ some 0 ∧ (stepV xs l u d).length ≤ sizeLine ∧ ∀ p, H4 p = none → Q (.ref p) (upd H4 p (.lst (stepV xs l u d)))
theorem pe_step {X : Cx} {e d : Expr} {lo hi : Option Expr} {te : TE} {tl th ts : TO} {p2 pos : Pos} (he : PE X e te) (hl : PO X lo tl) (hu : PO X hi th) (hs : PO X (some d) ts) :
    PE X (.Subscript e (.Slice lo hi (some d) p2) pos) (tStep X.K te tl th ts) := by
  constructor
  intro pins s σ H Q I h
  refine Subscript_ (thn (he.run pins s σ H _ I h) fun v s1 ⟨x, H1, I1, r1, q1⟩ => ?_)
  refine wpAny_Slice (thn (hl.run pins s1 σ H1 _ I1 q1) fun vl s2 ⟨l, H2, I2, pl, q2⟩ => thn (hu.run pins s2 σ H2 _ I2 q2) fun vu s3 ⟨u, H3, I3, pu, q3⟩ => thn (hs.run pins s3 σ H3 _ I3 q3) fun vd s4 ⟨dv, H4, I4, pd, q4⟩ => ?_)
  obtain ⟨a, xs, rfl, hx, h0, hz1, q⟩ := q4
  cases r1
  have I5 : Inv X pins σ H4 { s4 with heap := s4.heap.push { cls := .type "slice", data := .fields #[vl, vu, vd] } } := I4.kept (t' := s4.toks) fun b ob z => Heap.get?_push_of_some _ z
  obtain ⟨its, r, ht, hz⟩ := I5.list hx
  have hlen := r.length
  show wpAny (model X.prog X.w) X.A (subscriptTail e (.Slice lo hi (some d) p2) (.ref a) (.ref s4.heap.objs.size)) (EP X pins σ Q) X.xe { s4 with heap := s4.heap.push { cls := .type "slice", data := .fields #[vl, vu, vd] } }
  refine tail_any (ops := [.ref a, .ref s4.heap.objs.size]) ht.isList.typeIs PySem.slot_list_getitem.lookup ?_ (by with_unfolding_all rfl)
  refine wpAny_getItem_list_slice ht.isList (Heap.IsSliceOf.new _ vl vu vd) pl pu pd h0 ?_ (by rw [List.size_toArray]; omega)
  have e1 : slicePick its.toArray l u dv = ((stepIx xs.length l u dv).filterMap fun i => its[i]?).toArray := by
    unfold slicePick stepIx
    rw [List.size_toArray, ← hlen]
    congr 1
    congr 1
    funext i
    simp
  rw [e1]
  refine ⟨.ref _, _, I5.laid (t' := s4.toks) (o := .lst (stepV xs l u dv)) (fun b ob z => Heap.get?_push_of_some _ z) (Nat.le_refl _) ?_, rfl, q _ (I5.hok.fresh (Nat.le_refl _))⟩
  exact ⟨hz1, _, 0, vals_pick r _, Heap.get?_push_size _ rfl⟩
end Sc

namespace Sc
open PySem L2 PySem.Spec PyProof.Rows
abbrev sSetLine : Stmt := top 25
theorem scSetLine : FnScope ["words", "word"] ["words"] (defScope sSetLine) := ⟨rfl, rfl, rfl, by decide +kernel, rfl, by decide +kernel, by decide +kernel⟩
theorem stepW_sub (ws : List Str) (k : Nat) : (stepW ws (some k) none (some 2)).length ≤ ws.length ∧ ∀ x ∈ stepW ws (some k) none (some 2), x ∈ ws := by
  constructor
  · unfold stepW
    refine Nat.le_trans (List.length_filterMap_le _ _) ?_
    unfold stepIx
    refine sliceRange_length_le _ _ _ _ (fun _ => ?_) fun h => ?_
    · simp only [sliceBounds, Option.getD_some]
      refine ⟨?_, ?_⟩
      · rw [if_pos (show (2 : Int) > 0 by decide)]
        exact Int.le_max_left _ _
      · rw [if_pos (show (2 : Int) > 0 by decide)]
        exact Int.le_refl _
    · exact absurd (show (2 : Int) > 0 by decide) h
  · intro x hx
    unfold stepW at hx
    obtain ⟨i, _, hi⟩ := List.mem_filterMap.mp hx
    exact List.mem_of_getElem? hi
theorem Words.step {K : PySem.W.Frag} {H : Hp} {a p : Addr} {ws : List Str} (h : Words K H a ws) (hp : H p = none) (k : Nat) : Words K (upd H p (.lst (stepV (ws.map V.str) (some (k : Int)) none (some 2)))) p (stepW ws (some (k : Int)) none (some 2)) := by
  refine ⟨.inl (.inl ?_), Nat.le_trans (stepW_sub ws k).1 h.2.1, fun x hx => h.2.2 x ((stepW_sub ws k).2 x hx)⟩
  rw [upd_same, stepV_map]
/-- the names, the numbers behind a set's name -/
def members (ws : List Str) : List Str := stepW ws (some 2) none (some 2)
def editions (ws : List Str) : List Str := stepW ws (some 3) none (some 2)
def setLine (ws : List Str) : Bool := if !fitsM (cutW ws none (some 2)) "set NAME" || decide ((cutW ws (some 2) none).length % 2 = 1) then false else (members ws).all named && (editions ws).all number
/-- words[k::2] -/
theorem step_go {K : PySem.W.Frag} {H : Hp} {a : Addr} {ws : List Str} {σ : L2.St} {i k : Nat} {Q : VK} (hs : σ[i]? = some (some (.ref a))) (hw : Words K H a ws) (q : ∀ p H', Same H H' → Words K H' p (stepW ws (some (k : Int)) none (some 2)) → H p = none → Q (.ref p) H') :
    tStep K (tVar i) (tPart (tC (.int (k : Nat)))) tNoPart (tPart (tC (.int 2))) σ H Q := by
  refine ⟨_, hs, _, rfl, _, rfl, a, _, rfl, hw.1, by decide, ?_, fun p hp => q p _ (same_new hp) (hw.step hp k) hp⟩
  rw [stepV_map, List.length_map, sizeLine_eq]
  have := (stepW_sub ws k).1
  have := hw.2.1
  omega
section
variable {P : Program} {w : World} {K : PySem.W.Frag} {mg : Str → Option Value} {base : Heap} {rA : Addr}
theorem ok_setLine {f fF fN fU : Addr} {fd fdF fdN fdU : FuncData} (F : Fun K "is_set_line" "is_set_line" sSetLine f fd) (T : NatR mg)
    (GF : FnOk P w K mg base CX0 3 fF fdF ["words", "form"] (spFits K)) (gF : mg "fits" = some (.ref fF)) (kF : PySem.W.keepIn K (.ref fF) = true) (bF : Binds K fdF ["words", "form"] [])
    (GN : FnOk P w K mg base CX0 2 fN fdN ["word"] (spLook named)) (gN : mg "is_name" = some (.ref fN)) (kN : PySem.W.keepIn K (.ref fN) = true) (bN : Binds K fdN ["word"] [])
    (GU : FnOk P w K mg base CX0 1 fU fdU ["word"] (spLook number)) (gU : mg "is_number" = some (.ref fU)) (kU : PySem.W.keepIn K (.ref fU) = true) (bU : Binds K fdU ["word"] []) :
    FnOk P w K mg base CX0 4 f fd ["words"] (spRow K setLine) := by
  refine F.ok scSetLine (fun vs H Q E h => ?_) (fun cdv A outer s H vs Q E hr h => ?_)
  · obtain ⟨a, ws, rfl, _⟩ := h
    rfl
  · obtain ⟨a, ws, rfl, hw, q⟩ := h
    refine ⟨_, pss_cons (ps_if (PW.pt (pw_or (pt_not (pt_val (pe_call GF hr (by rfl) gF kF bF .nil pass0 (pa_cons (pe_slice sl_list (pv 0) po_none (po_some pe_int)) (pa_cons pe_str pa_nil)))))
        (pw_or1 (pt_cmpR op_eq (pe_op op_mod (pe_callB call_len_seq (by rfl) T.len PySem.boot_len (pa_cons (pe_slice sl_list (pv 0) (po_some pe_int) po_none) pa_nil)) pe_int) pe_int (nomark _))))) (pss_one (ps_ret pe_bl)) pss_nil)
      (pss_one (ps_ret (pe_and (pe_callB (cr_all rfl) (by rfl) T.all (by decide +kernel) (pa_cons
          (pe_lc (own := [("word", 1)]) (g := gName 1) (tt := tYes) rfl scSetLine.nd (pi_list (pe_step (pv 0) (po_some pe_int) po_none (po_some pe_int))) (blkOk_by (own := [("word", 1)]) (N := ["words", "word"]) (sc := defScope sSetLine) (by decide +kernel))
            (fun _ _ _ _ _ => pg_name (i := 1) scSetLine.nd rfl (Or.inl rfl)) (fun _ _ _ _ _ => pts_nil) (fun _ _ _ _ _ => pe_call GN (hr.mono (by decide)) (by rfl) gN kN bN .nil pass0 (pa_cons (pv 1) pa_nil))) pa_nil))
        (pe_one (pe_callB (cr_all rfl) (by rfl) T.all (by decide +kernel) (pa_cons
          (pe_lc (own := [("word", 1)]) (g := gName 1) (tt := tYes) rfl scSetLine.nd (pi_list (pe_step (pv 0) (po_some pe_int) po_none (po_some pe_int))) (blkOk_by (own := [("word", 1)]) (N := ["words", "word"]) (sc := defScope sSetLine) (by decide +kernel))
            (fun _ _ _ _ _ => pg_name (i := 1) scSetLine.nd rfl (Or.inl rfl)) (fun _ _ _ _ _ => pts_nil) (fun _ _ _ _ _ => pe_call GU (hr.mono (by decide)) (by rfl) gU kU bU .nil pass0 (pa_cons (pv 1) pa_nil))) pa_nil)))))), ?_⟩
    have fin : ∀ H', Same H H' → ∀ b, b = setLine ws → Q (.bl b) H' := fun H' s b e => e ▸ q H' s
    unfold setLine at fin
    refine ⟨_, rfl, 2, rfl, a, _, rfl, hw.1, fun p hp => ?_⟩
    have s1 := same_new (o := .lst (cutV (ws.map V.str) none (some 2))) hp
    have w1 := hw.cut hp none (some 2)
    refine ⟨p, _, _, rfl, w1, by decide +kernel, fun H1 s2 => ⟨_, rfl, ?_⟩⟩
    have s3 := s1.trans s2
    refine ite2 (fun b => ite2 (fun _ => ?_) fun n => absurd rfl n) fun b => ?_
    · rw [b] at fin
      exact fin H1 s3 _ rfl
    rw [show (!fitsM (cutW ws none (some 2)) ("set NAME" : Str)) = false by simpa using b] at fin
    have hw3 := hw.same s3
    refine ⟨_, rfl, 2, rfl, a, _, rfl, hw3.1, fun r hr2 => ?_⟩
    have s4 := s3.trans (same_new (o := .lst (cutV (ws.map V.str) (some 2) none)) hr2)
    have w4 := hw3.cut hr2 (some 2) none
    generalize upd H1 r (.lst (cutV (ws.map V.str) (some 2) none)) = H2 at s4 w4 ⊢
    have par : decide (V.int (((cutW ws (some 2) none).map V.str).length % 2) = V.int 1) = decide ((cutW ws (some 2) none).length % 2 = 1) := by
      rw [dec_int, List.length_map, Bool.eq_iff_iff, beq_iff_eq, decide_eq_true_eq]
      omega
    refine ⟨r, _, rfl, .inl w4.1, _, _, rfl, rfl, (by show (0 : Int) < _; decide), rfl, _, rfl, ite2 (fun c => ?_) fun c => ?_⟩
    · have c1 := par.symm.trans c
      rw [c1] at fin
      exact fin H2 s4 _ rfl
    have c1 : decide ((cutW ws (some 2) none).length % 2 = 1) = false := by
      have c2 := fun z => c (par.trans z)
      simpa using c2
    rw [c1] at fin
    have hw4 := hw.same s4
    have nl : ∀ {xs : List Str}, xs.length ≤ 20002 → xs.length ≤ sizeLine := fun h => by
      rw [sizeLine_eq]
      omega
    refine all_go ((members ws).map named) (fun R k => words_go (a := a) named (fun R2 k2 => step_go (k := 2) rfl hw4 fun p H' s w0 _ => k2 p H' s w0.1) (nl (Nat.le_trans (stepW_sub ws 2).1 hw.2.1)) (fun u => rfl)
      (fun u H' hu R3 k3 => ⟨_, rfl, u, rfl, (hw.2.2 u ((stepW_sub ws 2).2 u hu)).1, fun H5 s5 => k3 H5 s5⟩) k) fun H5 s5 => tst_go (ite2 (fun d => ?_) fun d => ?_)
    · refine all_go ((editions ws).map number) (fun R k => words_go (a := a) number (fun R2 k2 => step_go (k := 3) rfl (hw4.same s5) fun p H' s w0 _ => k2 p H' s w0.1) (nl (Nat.le_trans (stepW_sub ws 3).1 hw.2.1)) (fun u => rfl)
        (fun u H' hu R3 k3 => ⟨_, rfl, u, rfl, (hw.2.2 u ((stepW_sub ws 3).2 u hu)).1, fun H5 s5 => k3 H5 s5⟩) k) fun H6 s6 => ?_
      refine fin H6 ((s4.trans s5).trans s6) _ ?_
      rw [List.all_map] at d ⊢
      rw [show (members ws).all named = true from d]
      rfl
    · refine fin H5 (s4.trans s5) _ ?_
      rw [List.all_map] at d
      rw [show (members ws).all named = false by simpa using d]
      rfl
end
end Sc

namespace Sc
open PySem L2 PySem.Spec PyProof.Rows
/-! ### the draft -/
def mth (c i : Nat) : Stmt := (C8.clsBody (top c)).getD i (.Pass ⟨0, 0, 0, 0⟩)
abbrev sLineWords : Stmt := mth 49 1
abbrev sTake : Stmt := mth 49 2
theorem scLineWords : FnScope ["self", "depth"] ["self", "depth"] (defScope sLineWords) := ⟨rfl, rfl, rfl, by decide +kernel, rfl, by decide +kernel, by decide +kernel⟩
theorem scTake : FnScope ["self", "kind", "words"] ["self", "kind", "words"] (defScope sTake) := ⟨rfl, rfl, rfl, by decide +kernel, rfl, by decide +kernel, by decide +kernel⟩
/-- what stays: all but the things F -/
def Off (F : List Addr) (H H' : Hp) : Prop := ∀ a o, a ∉ F → H a = some o → H' a = some o
theorem Off.refl (F : List Addr) (H : Hp) : Off F H H := fun _ _ _ e => e
theorem Off.trans {F : List Addr} {H H1 H2 : Hp} (a : Off F H H1) (b : Off F H1 H2) : Off F H H2 := fun c o n e => b c o n (a c o n e)
theorem Same.off {F : List Addr} {H H' : Hp} (s : Same H H') : Off F H H' := fun a o _ e => s a o e
theorem Off.more {F G : List Addr} {H H' : Hp} (s : Off F H H') (g : ∀ a ∈ F, a ∈ G) : Off G H H' := fun a o n e => s a o (fun z => n (g a z)) e
theorem off_upd {F : List Addr} {H : Hp} {p : Addr} {o : HO} (h : p ∈ F) : Off F H (upd H p o) := fun a u n e => by
  rw [upd_ne (fun z => n (by rw [z]; exact h))]
  exact e
/-- the draft's things -/
structure Dr where
  d : Addr
  dx : Addr
  lines : Addr
  rows : Addr
  cells : Addr
  owned : Addr
  packages : Addr
  triggers : Addr
  sets : Addr
/-- those that change -/
def Dr.own (x : Dr) : List Addr := [x.d, x.rows, x.cells, x.owned, x.packages, x.triggers, x.sets]
/-- its fields -/
def Dr.fields (x : Dr) (n : Nat) : List (Str × V) := [("lines", .ref x.lines), ("line", .int n), ("rows", .ref x.rows), ("cells", .ref x.cells), ("owned", .ref x.owned), ("packages", .ref x.packages), ("triggers", .ref x.triggers), ("sets", .ref x.sets)]
/-- the draft's object and its lines -/
structure Dr.At (x : Dr) (C : Addr) (ls : List Str) (n : Nat) (H : Hp) : Prop where
  obj : H x.d = some (.ins C x.dx (x.fields n))
  lines : H x.lines = some (.lst (ls.map V.str))
  len : ls.length ≤ 20002
  ok : ∀ l ∈ ls, TxtOk l
  pos : n ≤ ls.length
  apart : x.lines ∉ x.own
theorem Dr.At.off {x : Dr} {C : Addr} {ls : List Str} {n : Nat} {H H' : Hp} (a : x.At C ls n H) (s : Same H H') : x.At C ls n H' := ⟨s _ _ a.obj, s _ _ a.lines, a.len, a.ok, a.pos, a.apart⟩
/-- so many blanks -/
abbrev blanks (k : Nat) : Str := Txt.mul " " (k : Nat)
/-- the words of the next line behind so many blanks -/
def lineWords (ls : List Str) (n k : Nat) : List Str := match ls[n]? with
  | none => []
  | some l => if Txt.startswith l (blanks k) = true then Txt.split (cutS l (some (k : Int)) none) " " else []
theorem lineWords_at {ls : List Str} {n k : Nat} {l : Str} (h : ls[n]? = some l) : lineWords ls n k = if Txt.startswith l (blanks k) = true then Txt.split (cutS l (some (k : Int)) none) " " else [] := by
  unfold lineWords
  rw [h]
theorem op_mulS {X : Cx} : OpR X (binaryOp .Mult) (fun x y H Q => ∃ (z : Str) (n : Int), x = .str z ∧ y = .int n ∧ MulOk z n ∧ Q (.str (Txt.mul z n)) H) := by
  intro pins s σ H x y v u Q I rx ry h
  obtain ⟨z, n, rfl, rfl, hok, q⟩ := h
  obtain ⟨t, rfl⟩ := rx
  obtain ⟨t2, rfl⟩ := ry
  exact SB.mul hok fun t' k => ⟨.str _, H, I.tok k, ⟨t', rfl⟩, q⟩
/-! parts of a text -/
theorem strOk_iff {x : Str} : PyData.strOk x = true ↔ ∀ c ∈ x.cps.toList, c < 0x110000 := by
  unfold PyData.strOk
  rw [← Array.all_toList, List.all_eq_true]
  constructor
  · intro h c hc
    exact of_decide_eq_true (h c hc)
  · intro h c hc
    exact decide_eq_true (h c hc)
theorem TxtOk.sub {x : Str} (h : TxtOk x) (i j : Nat) : TxtOk (Builtin.Str.strSub x i j) := by
  obtain ⟨h1, h2⟩ := h
  rw [strOk_iff] at h2
  have h1 : x.cps.size ≤ 20000 := h1
  refine ⟨?_, strOk_iff.mpr fun c hc => h2 c ?_⟩
  · show (x.cps.extract i j).size ≤ 20000
    rw [Array.size_extract]
    omega
  · have hc : c ∈ (x.cps.extract i j).toList := hc
    rw [Array.toList_extract] at hc
    exact List.mem_of_mem_drop (List.mem_of_mem_take (by simpa [List.extract] using hc))
theorem TxtOk.cut {x : Str} (h : TxtOk x) (lo hi : Option Int) : TxtOk (cutS x lo hi) := by
  obtain ⟨h1, h2⟩ := h
  rw [strOk_iff] at h2
  have h1 : x.cps.toList.length ≤ 20000 := by
    rw [Array.length_toList]
    exact h1
  refine ⟨?_, strOk_iff.mpr fun c hc => h2 c ?_⟩
  · show (List.toArray _).size ≤ 20000
    rw [List.size_toArray, List.length_take, List.length_drop]
    omega
  · unfold cutS at hc
    exact List.mem_of_mem_drop (List.mem_of_mem_take hc)
theorem split_ok {x : Str} (h : TxtOk x) (sep : Str) : (Txt.split x sep).length ≤ 20002 ∧ ∀ y ∈ Txt.split x sep, TxtOk y := by
  constructor
  · have := PyProof.Rows.split_le x sep
    have := h.1
    omega
  · intro y hy
    unfold Txt.split at hy
    split at hy
    · rw [List.mem_singleton.mp hy]
      exact h
    · split at hy
      · rw [List.mem_singleton.mp hy]
        exact h
      · unfold Builtin.Str.partsBetween at hy
        obtain ⟨p, _, rfl⟩ := List.mem_map.mp hy
        exact h.sub _ _
theorem lineWords_ok {ls : List Str} (h : ∀ l ∈ ls, TxtOk l) (n k : Nat) : (lineWords ls n k).length ≤ 20002 ∧ ∀ y ∈ lineWords ls n k, TxtOk y := by
  unfold lineWords
  split
  · exact ⟨Nat.zero_le _, fun y hy => nomatch hy⟩
  · rename_i l hl
    split
    · exact split_ok ((h l (List.mem_of_getElem? hl)).cut _ _) _
    · exact ⟨Nat.zero_le _, fun y hy => nomatch hy⟩
/-! ### line_words -/
/-- the class's words -/
structure Own (K : PySem.W.Frag) (C : Addr) (fs : List Str) : Prop where
  cl : Cls K C
  no : ∀ f ∈ fs, NoAttr K C f
def drNames : List Str := ["lines", "line", "rows", "cells", "owned", "packages", "triggers", "sets"]
def spLine (K : PySem.W.Frag) (C : Addr) : Sp := fun vs H Q _ => ∃ (x : Dr) (ls : List Str) (n k : Nat), vs = [.ref x.d, .int (k : Nat)] ∧ x.At C ls n H ∧ MulOk " " (k : Nat) ∧ ∀ p H', Words K H' p (lineWords ls n k) → H' p = some (.lst ((lineWords ls n k).map V.str)) → H p = none → Same H H' → Q (.ref p) H'
theorem Dr.lk_lines (x : Dr) (n : Nat) : (x.fields n).lookup ("lines" : Str) = some (V.ref x.lines) := by rfl
theorem Dr.lk_line (x : Dr) (n : Nat) : (x.fields n).lookup ("line" : Str) = some (V.int n) := by rfl
theorem Dr.lk_rows (x : Dr) (n : Nat) : (x.fields n).lookup ("rows" : Str) = some (V.ref x.rows) := by rfl
theorem Dr.lk_cells (x : Dr) (n : Nat) : (x.fields n).lookup ("cells" : Str) = some (V.ref x.cells) := by rfl
theorem Dr.lk_owned (x : Dr) (n : Nat) : (x.fields n).lookup ("owned" : Str) = some (V.ref x.owned) := by rfl
theorem Dr.lk_packages (x : Dr) (n : Nat) : (x.fields n).lookup ("packages" : Str) = some (V.ref x.packages) := by rfl
theorem Dr.lk_triggers (x : Dr) (n : Nat) : (x.fields n).lookup ("triggers" : Str) = some (V.ref x.triggers) := by rfl
theorem Dr.lk_sets (x : Dr) (n : Nat) : (x.fields n).lookup ("sets" : Str) = some (V.ref x.sets) := by rfl
theorem Dr.put_line (x : Dr) (n m : Nat) : putF ("line" : Str) (.int m) (x.fields n) = x.fields m := by rfl
section
variable {D : Ends} {σ : L2.St} {H : Hp} {Q : VK} {R : Bool → Hp → Prop} {t u v : TS} {a b : TT} {e e2 : TE} {l : TA} {r : R2} {c : List V → Hp → VK → Prop}
theorem seq_go (h : t { D with nx := u D } σ H) : tSeq t u D σ H := h
theorem ifs_go (h : a σ H fun k H1 => if k = true then t D σ H1 else u D σ H1) : tIfS a t u D σ H := h
theorem or_go (h : a σ H fun k H1 => if k = true then R true H1 else b σ H1 R) : tOr a b σ H R := h
theorem and_go (h : a σ H fun k H1 => if k = true then b σ H1 R else R false H1) : tAnd a b σ H R := h
theorem test_go (h : e σ H fun x H1 => ∃ k, x = .bl k ∧ R k H1) : tTest e σ H R := h
theorem val_go (h : e σ H fun x H1 => ∃ k, x = .bl k ∧ R k H1) : tB e σ H R := h
theorem not_go (h : a σ H fun k H1 => R (!k) H1) : tNot a σ H R := h
theorem op_go (h : e σ H fun x H1 => e2 σ H1 fun y H2 => r x y H2 Q) : tOp r e e2 σ H Q := h
theorem cb_go (h : l σ H fun xs H1 => c xs H1 Q) : tCB c l σ H Q := h
theorem cons_go {ta : TE} {tr : TA} {P : List V → Hp → Prop} (h : ta σ H fun x H1 => tr σ H1 fun xs H2 => P (x :: xs) H2) : tCons ta tr σ H P := h
theorem drop_go (h : e σ H fun _ H1 => D.nx σ H1) : tDrop e D σ H := h
theorem bm_go {K : PySem.W.Frag} {T : String} {m : V → List V → Hp → VK → Prop} (h : e σ H fun x H1 => tyV K T x H1 ∧ l σ H1 fun xs H2 => m x xs H2 Q) : tBM K T m e l σ H Q := h
theorem next_go (h : D.nx σ H) : tNext D σ H := h
theorem ret_go (h : e σ H D.rt) : tRet e D σ H := h
end
/-- a field of the draft is read -/
theorem fld_go {K : PySem.W.Frag} {C : Addr} {x : Dr} {ls : List Str} {n i : Nat} {σ : L2.St} {H : Hp} {Q : VK} {f : Str} {v : V} (O : Own K C drNames) (hx : x.At C ls n H) (hs : σ[i]? = some (some (.ref x.d))) (hf : f ∈ drNames) (hl : (x.fields n).lookup f = some v) (q : Q v H) : tFld K (tVar i) f σ H Q :=
  ⟨_, hs, x.d, C, x.dx, _, v, rfl, hx.obj, O.cl, O.no f hf, hl, q⟩
section
variable {P : Program} {w : World} {K : PySem.W.Frag} {mg : Str → Option Value} {base : Heap} {C : Addr}
theorem ok_line {f : Addr} {fd : FuncData} (F : Fun K "line_words" "Draft.line_words" sLineWords f fd) (T : NatR mg) (O : Own K C drNames) : FnOk P w K mg base CX0 1 f fd ["self", "depth"] (spLine K C) := by
  refine F.ok scLineWords (fun vs H Q E h => ?_) (fun cdv A outer s H vs Q E hr h => ?_)
  · obtain ⟨x, ls, n, k, rfl, _⟩ := h
    rfl
  · obtain ⟨x, ls, n, k, rfl, hx, hk, q⟩ := h
    refine ⟨_, pss_cons (ps_if (PW.pt (pw_or (pt_cmpR op_eq (pe_fld (pv 0) rfl) (pe_callB call_len_seq (by rfl) T.len PySem.boot_len (pa_cons (pe_fld (pv 0) rfl) pa_nil)) (nomark _))
        (pw_or1 (pt_not (pt_val (pe_m1 PySem.F.slot_str_startswith PySem.F.type_str_startswith mt_startswith (pe_ix ix_list (pe_fld (pv 0) rfl) (pe_fld (pv 0) rfl) (fun _ _ => rfl)) (pe_op op_mulS pe_str (pv 1))))))))
        (pss_one (ps_ret (pe_lst pa_nil))) pss_nil)
      (pss_one (ps_ret (pe_split (pe_slice sl_str (pe_ix ix_list (pe_fld (pv 0) rfl) (pe_fld (pv 0) rfl) (fun _ _ => rfl)) (po_some (pv 1)) po_none) pe_str))), ?_⟩
    have hsz : ∀ {l : Str}, TxtOk l → l.length ≤ sizeLine := fun h => sz h.1
    -- the next line's place, its text
    have inLine : ∀ {l : Str} {σ : L2.St} {R : VK}, ls[n]? = some l → σ[0]? = some (some (.ref x.d)) → R (.str l) H → tOp (rIxL K) (tFld K (tVar 0) "lines") (tFld K (tVar 0) "line") σ H R := fun {l σ R} hl hs k =>
      fld_go O hx hs (by decide) (x.lk_lines n) (fld_go O hx hs (by decide) (x.lk_line n) ⟨x.lines, _, _, .str l, rfl, rfl, .inl (.inl hx.lines), atI_nat (by rw [List.getElem?_map, hl]; rfl), k⟩)
    have none_ : ls[n]? = none → ∀ p H', Same H H' → H p = none → H' p = some (.lst []) → Q (.ref p) H' := fun e p H' s hp hl => q p H' (by
      unfold lineWords
      rw [e]
      exact ⟨.inl (.inl hl), Nat.zero_le _, fun y hy => nomatch hy⟩) (by
      unfold lineWords
      rw [e]
      exact hl) hp s
    refine seq_go (ifs_go (or_go (test_go (op_go (fld_go O hx rfl (by decide) (x.lk_line n) (cb_go (cons_go (fld_go O hx rfl (by decide) (x.lk_lines n) ?_))))))))
    refine ⟨x.lines, _, rfl, .inl (.inl (.inl hx.lines)), rfl, _, rfl, ite2 (fun a => ite2 (fun _ => ?_) fun z => absurd rfl z) fun a => ?_⟩
    · have e : ls[n]? = none := by
        rw [dec_int, List.length_map] at a
        rw [List.getElem?_eq_none_iff]
        have a2 : (n : Int) = ls.length := by simpa using a
        omega
      exact ⟨by decide, fun p hp => none_ e p _ (same_new hp) hp upd_same⟩
    · have lt : n < ls.length := by
        rw [dec_int, List.length_map] at a
        have a2 : ¬ (n : Int) = ls.length := by simpa using a
        have := hx.pos
        omega
      have el := List.getElem?_eq_getElem lt
      have okl := hx.ok _ (List.mem_of_getElem? el)
      refine inLine el rfl ?_
      refine ⟨⟨_, rfl⟩, _, rfl, _, _, rfl, rfl, hk, _, _, rfl, rfl, _, rfl, ite2 (fun b => ?_) fun b => ?_⟩
      · refine ⟨by decide, fun p hp => q p _ ?_ (by rw [lineWords_at el, if_neg (by simpa using b)]; exact upd_same) hp (same_new hp)⟩
        rw [lineWords_at el, if_neg (by simpa using b)]
        exact ⟨.inl (.inl upd_same), Nat.zero_le _, fun y hy => nomatch hy⟩
      · refine next_go ?_
        dsimp only
        refine ret_go ?_
        refine inLine el rfl ?_
        refine ⟨_, rfl, _, rfl, _, rfl, hsz okl, ⟨_, rfl⟩, _, _, rfl, rfl, rfl, ?_, fun p hp => q p _ ?_ (by rw [lineWords_at el, if_pos (by simpa using b)]; exact upd_same) hp (same_new hp)⟩
        · have := (okl.cut (some (k : Int)) none).1
          rw [sizeLine_eq]
          omega
        · have ok2 := lineWords_ok hx.ok n k
          have e2 := lineWords_at (k := k) el
          rw [if_pos (by simpa using b)] at e2
          rw [e2] at ok2 ⊢
          exact ⟨.inl (.inl upd_same), ok2⟩
end
end Sc

namespace Sc
open PySem L2 PySem.Spec PyProof.Rows
/-! ### take -/
def spTake (C : Addr) : Sp := fun vs H Q _ => ∃ (x : Dr) (ls : List Str) (n : Nat) (kind : Str) (W : Addr) (rs : List V), vs = [.ref x.d, .str kind, .ref W] ∧ x.At C ls n H ∧ n < ls.length ∧ H x.rows = some (.lst rs) ∧ rs.length ≤ 20002 ∧
  ∀ p H', H p = none → Off [x.d, x.rows] H H' → x.At C ls (n + 1) H' → H' p = some (.tup [.str kind, .ref W]) → H' x.rows = some (.lst (rs ++ [.ref p])) → Q .non H'
section
variable {P : Program} {w : World} {K : PySem.W.Frag} {mg : Str → Option Value} {base : Heap} {C : Addr}
theorem ok_take {f : Addr} {fd : FuncData} (G : Fun K "take" "Draft.take" sTake f fd) (O : Own K C drNames) : FnOk P w K mg base CX0 1 f fd ["self", "kind", "words"] (spTake C) := by
  refine G.ok scTake (fun vs H Q E h => ?_) (fun cdv A outer s H vs Q E hr h => ?_)
  · obtain ⟨x, ls, n, kind, W, rs, rfl, _⟩ := h
    rfl
  · obtain ⟨x, ls, n, kind, W, rs, rfl, hx, hn, hrs, hl, q⟩ := h
    refine ⟨_, pss_cons (ps_expr (pe_bm PySem.F.plainAttrs_list PySem.F.slot_list_append PySem.F.type_list_append mt_append (pe_fld (pv 0) rfl) (pa_cons (pe_tup (pa_cons (pv 1) (pa_cons (pv 2) pa_nil))) pa_nil)))
      (pss_one (ps_fldaug (pv 0) pe_int in_add)), ?_⟩
    refine seq_go (drop_go (bm_go ?_))
    refine fld_go O hx rfl (by decide) (x.lk_rows n) ?_
    refine ⟨.inl ⟨rfl, _, .inl (.inl hrs)⟩, _, rfl, _, rfl, (by show 2 ≤ sizeLine; decide), fun p hp => ?_⟩
    have ne1 : x.rows ≠ p := ne_of_none hrs hp
    have ne2 : x.d ≠ p := ne_of_none hx.obj hp
    have ne3 : x.d ≠ x.rows := ne_of hx.obj hrs fun z => by cases z
    have ne4 : x.lines ≠ x.rows := fun z => hx.apart (by rw [z]; simp [Dr.own])
    have ne5 : x.lines ≠ x.d := fun z => hx.apart (by rw [z]; simp [Dr.own])
    refine ⟨x.rows, _, _, rfl, rfl, (upd_ne ne1).trans hrs, ?_, ?_⟩
    · rw [sizeLine_eq]
      omega
    · have o1 : (upd (upd H p (.tup [.str kind, .ref W])) x.rows (.lst (rs ++ [.ref p]))) x.d = some (.ins C x.dx (x.fields n)) := by
        rw [upd_ne ne3, upd_ne ne2]
        exact hx.obj
      refine ⟨_, rfl, x.d, C, x.dx, _, _, rfl, o1, O.cl, O.no _ (by decide), x.lk_line n, _, _, rfl, rfl, x.dx, _, o1, ?_, ?_⟩
      · show 8 < 1000
        decide
      · dsimp only
        refine q p _ hp (fun a o na ha => ?_) ⟨?_, ?_, hx.len, hx.ok, hn, hx.apart⟩ ?_ ?_
        · have n1 : a ≠ x.d := fun z => na (by rw [z]; simp)
          have n2 : a ≠ x.rows := fun z => na (by rw [z]; simp)
          rw [upd_ne n1, upd_ne n2, upd_ne (ne_of_none ha hp)]
          exact ha
        · rw [upd_same]
          rfl
        · rw [upd_ne ne5, upd_ne ne4, upd_ne (ne_of_none hx.lines hp)]
          exact hx.lines
        · rw [upd_ne (Ne.symm ne2), upd_ne (Ne.symm ne1), upd_same]
        · rw [upd_ne (Ne.symm ne3), upd_same]
end
end Sc

namespace Sc
open PySem L2 PySem.Spec PyProof.Rows
/-! ### the rows that were read -/
structure Row where
  kind : Str
  words : List Str
/-- a row's words: a tuple, or a list that none of Z is -/
def WordsAt (Z : List Addr) (H : Hp) (k : Str) (q : Addr) (ws : List Str) : Prop := (k = "command" ∧ H q = some (.tup (ws.map V.str))) ∨ (k ≠ "command" ∧ H q = some (.lst (ws.map V.str)) ∧ q ∉ Z)
def RowAt (Z : List Addr) (H : Hp) (r : V) (m : Row) : Prop := ∃ p q, r = .ref p ∧ H p = some (.tup [.str m.kind, .ref q]) ∧ WordsAt Z H m.kind q m.words
def RowsAt (Z : List Addr) (H : Hp) : List V → List Row → Prop
  | [], [] => True
  | r :: rs, m :: ms => RowAt Z H r m ∧ RowsAt Z H rs ms
  | _, _ => False
/-- no thing of F is a tuple; all of F are in Z -/
def Soft (F Z : List Addr) (H : Hp) : Prop := ∀ a ∈ F, a ∈ Z ∧ ∀ xs, H a ≠ some (.tup xs)
theorem Soft.tup {F Z : List Addr} {H H' : Hp} {p : Addr} {xs : List V} (f : Soft F Z H) (o : Off F H H') (h : H p = some (.tup xs)) : H' p = some (.tup xs) := o _ _ (fun z => (f p z).2 xs h) h
theorem WordsAt.off {F Z : List Addr} {H H' : Hp} {k : Str} {q : Addr} {ws : List Str} (h : WordsAt Z H k q ws) (f : Soft F Z H) (o : Off F H H') : WordsAt Z H' k q ws := by
  rcases h with ⟨k, h⟩ | ⟨k, h, n⟩
  · exact .inl ⟨k, f.tup o h⟩
  · exact .inr ⟨k, o _ _ (fun z => n (f q z).1) h, n⟩
theorem RowAt.off {F Z : List Addr} {H H' : Hp} {r : V} {m : Row} (h : RowAt Z H r m) (f : Soft F Z H) (o : Off F H H') : RowAt Z H' r m := by
  obtain ⟨p, q, e, hp, hq⟩ := h
  exact ⟨p, q, e, f.tup o hp, hq.off f o⟩
theorem RowsAt.off {F Z : List Addr} {H H' : Hp} : ∀ {rs : List V} {ms : List Row}, RowsAt Z H rs ms → Soft F Z H → Off F H H' → RowsAt Z H' rs ms
  | [], [], _, _, _ => True.intro
  | _ :: _, _ :: _, ⟨a, b⟩, f, o => ⟨a.off f o, RowsAt.off b f o⟩
  | [], _ :: _, h, _, _ => h
  | _ :: _, [], h, _, _ => h
theorem RowsAt.snoc {Z : List Addr} {H : Hp} {r : V} {m : Row} : ∀ {rs : List V} {ms : List Row}, RowsAt Z H rs ms → RowAt Z H r m → RowsAt Z H (rs ++ [r]) (ms ++ [m])
  | [], [], _, h => ⟨h, True.intro⟩
  | _ :: _, _ :: _, ⟨a, b⟩, h => ⟨a, RowsAt.snoc b h⟩
  | [], _ :: _, z, _ => z.elim
  | _ :: _, [], z, _ => z.elim
theorem RowsAt.len {Z : List Addr} {H : Hp} : ∀ {rs : List V} {ms : List Row}, RowsAt Z H rs ms → rs.length = ms.length
  | [], [], _ => rfl
  | _ :: _, _ :: _, ⟨_, b⟩ => by rw [List.length_cons, List.length_cons, RowsAt.len b]
  | [], _ :: _, z => z.elim
  | _ :: _, [], z => z.elim
/-- Z grows by things that were not there -/
theorem RowsAt.more {Z Y : List Addr} {H : Hp} (n : ∀ a ∈ Y, a ∉ Z → H a = none) : ∀ {rs : List V} {ms : List Row}, RowsAt Z H rs ms → RowsAt Y H rs ms
  | [], [], _ => True.intro
  | _ :: _, _ :: _, ⟨⟨p, q, e, hp, hq⟩, b⟩ => ⟨⟨p, q, e, hp, hq.imp id fun ⟨k, h, nz⟩ => ⟨k, h, fun y => by
      rw [n q y nz] at h
      cases h⟩⟩, RowsAt.more n b⟩
  | [], _ :: _, h => h
  | _ :: _, [], h => h
/-- the state of the reading: the draft at line n, its rows rm; all of Z is there and is no words' list -/
structure Rd (Z : List Addr) (x : Dr) (C : Addr) (ls : List Str) (rm : List Row) (H : Hp) : Prop where
  at_ : x.At C ls rm.length H
  rows : ∃ rs, H x.rows = some (.lst rs) ∧ RowsAt Z H rs rm
  own : ∀ a ∈ x.own, a ∈ Z
  there : ∀ a ∈ Z, ∃ o, H a = some o ∧ ∀ ps, o ≠ .tbl ps
  lines : x.lines ∉ Z
theorem Rd.soft {Z : List Addr} {x : Dr} {C : Addr} {ls : List Str} {rm : List Row} {H : Hp} (R : Rd Z x C ls rm H) : Soft [x.d, x.rows] Z H := fun a ha => by
  obtain ⟨rs, hrs, _⟩ := R.rows
  simp at ha
  rcases ha with rfl | rfl
  · exact ⟨R.own _ (by simp [Dr.own]), fun xs e => by
      rw [R.at_.obj] at e
      cases e⟩
  · exact ⟨R.own _ (by simp [Dr.own]), fun xs e => by
      rw [hrs] at e
      cases e⟩
theorem WordsAt.ext {Z : List Addr} {H H' : Hp} {k : Str} {q : Addr} {ws : List Str} (h : WordsAt Z H k q ws) (s : LamX.ExtN H H') : WordsAt Z H' k q ws := by
  rcases h with ⟨k, h⟩ | ⟨k, h, n⟩
  · exact .inl ⟨k, s _ _ h (fun ps z => by cases z)⟩
  · exact .inr ⟨k, s _ _ h (fun ps z => by cases z), n⟩
theorem RowsAt.ext {Z : List Addr} {H H' : Hp} : ∀ {rs : List V} {ms : List Row}, RowsAt Z H rs ms → LamX.ExtN H H' → RowsAt Z H' rs ms
  | [], [], _, _ => True.intro
  | _ :: _, _ :: _, ⟨⟨p, q, e, hp, hq⟩, b⟩, s => ⟨⟨p, q, e, s _ _ hp (fun ps z => by cases z), hq.ext s⟩, RowsAt.ext b s⟩
  | [], _ :: _, h, _ => h
  | _ :: _, [], h, _ => h
/-- all but tables stay -/
theorem Rd.ext {Z : List Addr} {x : Dr} {C : Addr} {ls : List Str} {rm : List Row} {H H' : Hp} (R : Rd Z x C ls rm H) (s : LamX.ExtN H H') : Rd Z x C ls rm H' := by
  obtain ⟨rs, hrs, hr⟩ := R.rows
  have a := R.at_
  exact ⟨⟨s _ _ a.obj (fun ps z => by cases z), s _ _ a.lines (fun ps z => by cases z), a.len, a.ok, a.pos, a.apart⟩, ⟨rs, s _ _ hrs (fun ps z => by cases z), hr.ext s⟩, R.own, fun b hb => let ⟨o, e, n⟩ := R.there b hb; ⟨o, s _ _ e n, n⟩, R.lines⟩
theorem Same.ext {H H' : Hp} (s : Same H H') : LamX.ExtN H H' := fun a o e _ => s a o e
/-- new things alone -/
theorem Rd.same {Z : List Addr} {x : Dr} {C : Addr} {ls : List Str} {rm : List Row} {H H' : Hp} (R : Rd Z x C ls rm H) (s : Same H H') : Rd Z x C ls rm H' := R.ext s.ext
/-- a new thing is none of Z -/
theorem Rd.new {Z : List Addr} {x : Dr} {C : Addr} {ls : List Str} {rm : List Row} {H : Hp} (R : Rd Z x C ls rm H) {p : Addr} (h : H p = none) : p ∉ Z := fun z => by
  obtain ⟨o, e, _⟩ := R.there p z
  rw [h] at e
  cases e
/-- behind a take -/
theorem Rd.took {Z : List Addr} {x : Dr} {C : Addr} {ls : List Str} {rm : List Row} {H H' : Hp} {kind : Str} {W p : Addr} {ws : List Str} {rs : List V} (R : Rd Z x C ls rm H) (hrs : H x.rows = some (.lst rs)) (hW : WordsAt Z H kind W ws) (hp : H p = none) (o : Off [x.d, x.rows] H H')
    (a : x.At C ls (rm.length + 1) H') (ht : H' p = some (.tup [.str kind, .ref W])) (hr : H' x.rows = some (.lst (rs ++ [.ref p]))) : Rd Z x C ls (rm ++ [⟨kind, ws⟩]) H' := by
  obtain ⟨rs2, hrs2, hrr⟩ := R.rows
  rw [hrs] at hrs2
  cases hrs2
  refine ⟨by rw [List.length_append]; exact a, ⟨_, hr, (hrr.off R.soft o).snoc ⟨p, W, rfl, ht, hW.off R.soft o⟩⟩, R.own, fun b hb => ?_, R.lines⟩
  by_cases h1 : b = x.d
  · rw [h1]
    exact ⟨_, a.obj, (fun ps z => by cases z)⟩
  by_cases h2 : b = x.rows
  · rw [h2]
    exact ⟨_, hr, (fun ps z => by cases z)⟩
  obtain ⟨u, e, n⟩ := R.there b hb
  exact ⟨u, o b u (by simp [h1, h2]) e, n⟩
end Sc

namespace Sc
open PySem L2 PySem.Spec PyProof.Rows
/-! ### commands as data -/
inductive Cmd where
  | plain (ws : List Str)
  | cond (cell word : Str) (first second : List Cmd)
mutual
def CmdAt (H : Hp) : V → Cmd → Prop
  | r, .plain ws => ∃ p, r = .ref p ∧ H p = some (.tup (ws.map V.str))
  | r, .cond c w f s => ∃ p a b fa sb, r = .ref p ∧ H p = some (.tup [.str "if", .str c, .str w, .ref a, .ref b]) ∧ H a = some (.tup fa) ∧ CmdsAt H fa f ∧ H b = some (.tup sb) ∧ CmdsAt H sb s
def CmdsAt (H : Hp) : List V → List Cmd → Prop
  | [], [] => True
  | r :: rs, c :: cs => CmdAt H r c ∧ CmdsAt H rs cs
  | [], _ :: _ => False
  | _ :: _, [] => False
end
def ProgAt (H : Hp) (a : Addr) (cs : List Cmd) : Prop := ∃ rs, H a = some (.tup rs) ∧ CmdsAt H rs cs
/-- tuples stay -/
def Tups (H H' : Hp) : Prop := ∀ a xs, H a = some (.tup xs) → H' a = some (.tup xs)
theorem Soft.tups {F Z : List Addr} {H H' : Hp} (f : Soft F Z H) (o : Off F H H') : Tups H H' := fun _ _ e => f.tup o e
theorem Same.tups {H H' : Hp} (s : Same H H') : Tups H H' := fun a xs e => s a _ e
theorem Tups.trans {H H1 H2 : Hp} (a : Tups H H1) (b : Tups H1 H2) : Tups H H2 := fun c xs e => b c xs (a c xs e)
mutual
theorem CmdAt.keep {H H' : Hp} (t : Tups H H') : ∀ {r : V} {c : Cmd}, CmdAt H r c → CmdAt H' r c
  | r, .plain ws, h => by
    unfold CmdAt at h ⊢
    obtain ⟨p, e, hp⟩ := h
    exact ⟨p, e, t _ _ hp⟩
  | r, .cond c w f s, h => by
    unfold CmdAt at h ⊢
    obtain ⟨p, a, b, fa, sb, e, hp, ha, hf, hb, hs⟩ := h
    exact ⟨p, a, b, fa, sb, e, t _ _ hp, t _ _ ha, CmdsAt.keep t hf, t _ _ hb, CmdsAt.keep t hs⟩
theorem CmdsAt.keep {H H' : Hp} (t : Tups H H') : ∀ {rs : List V} {cs : List Cmd}, CmdsAt H rs cs → CmdsAt H' rs cs
  | [], [], h => by
    unfold CmdsAt
    exact True.intro
  | r :: rs, c :: cs, h => by
    unfold CmdsAt at h ⊢
    exact ⟨CmdAt.keep t h.1, CmdsAt.keep t h.2⟩
  | [], _ :: _, h => by
    unfold CmdsAt at h
    exact h.elim
  | _ :: _, [], h => by
    unfold CmdsAt at h
    exact h.elim
end
theorem CmdsAt.snoc {H : Hp} {r : V} {c : Cmd} : ∀ {rs : List V} {cs : List Cmd}, CmdsAt H rs cs → CmdAt H r c → CmdsAt H (rs ++ [r]) (cs ++ [c])
  | [], [], _, h => by
    show CmdsAt H [r] [c]
    unfold CmdsAt
    exact ⟨h, by unfold CmdsAt; exact True.intro⟩
  | _ :: _, _ :: _, h, k => by
    unfold CmdsAt at h
    show CmdsAt H (_ :: (_ ++ [r])) (_ :: (_ ++ [c]))
    unfold CmdsAt
    exact ⟨h.1, CmdsAt.snoc h.2 k⟩
  | [], _ :: _, h, _ => by
    unfold CmdsAt at h
    exact h.elim
  | _ :: _, [], h, _ => by
    unfold CmdsAt at h
    exact h.elim
theorem CmdsAt.len {H : Hp} : ∀ {rs : List V} {cs : List Cmd}, CmdsAt H rs cs → rs.length = cs.length
  | [], [], _ => rfl
  | _ :: _, _ :: _, h => by
    unfold CmdsAt at h
    rw [List.length_cons, List.length_cons, CmdsAt.len h.2]
  | [], _ :: _, h => by
    unfold CmdsAt at h
    exact h.elim
  | _ :: _, [], h => by
    unfold CmdsAt at h
    exact h.elim
theorem CmdsAt.none {H : Hp} : CmdsAt H [] [] := by
  unfold CmdsAt
  exact True.intro
/-! ### what the reading of commands comes to -/
/-- up to so many commands one behind the other, with the rows that are read; none where a line is refused -/
def mLoop (cmd : Nat → Option (Option (Cmd × List Row))) : Nat → Nat → Option (List Cmd × List Row)
  | 0, _ => some ([], [])
  | k + 1, n => match cmd n with
    | none => none
    | some none => some ([], [])
    | some (some (c, r)) => match mLoop cmd k (n + r.length) with
      | none => none
      | some (cs, r2) => some (c :: cs, r ++ r2)
def mCommands (cmd : Nat → Option (Option (Cmd × List Row))) (most n : Nat) : Option (List Cmd × List Row) := match mLoop cmd most n with
  | some (c :: cs, r) => some (c :: cs, r)
  | _ => none
def noTo (ws : List Str) : List Str := ws.filter fun w => !(w == ("to" : Str))
/-- both parts of an if, its own line being read already -/
def mIf (cmd : Nat → Option (Option (Cmd × List Row))) (ls : List Str) (depth n : Nat) (ws : List Str) : Option (Cmd × List Row) := match mCommands cmd 4 n with
  | none => none
  | some (f, r1) =>
    if (lineWords ls (n + r1.length) depth == [("else" : Str)]) = true then
      match mCommands cmd 4 (n + r1.length + 1) with
      | none => none
      | some (s, r2) => some (.cond (ws.getD 1 "") (ws.getD 3 "") f s, r1 ++ ⟨"else", [("else" : Str)]⟩ :: r2)
    else some (.cond (ws.getD 1 "") (ws.getD 3 "") f [], r1)
def mCommand (ls : List Str) : Nat → Nat → Nat → Option (Option (Cmd × List Row))
  | 0, depth, n => if plainM (lineWords ls n depth) = true then some (some (.plain (noTo (lineWords ls n depth)), [⟨"command", noTo (lineWords ls n depth)⟩])) else some none
  | i + 1, depth, n =>
    if plainM (lineWords ls n depth) = true then some (some (.plain (noTo (lineWords ls n depth)), [⟨"command", noTo (lineWords ls n depth)⟩])) else
    if fitsM (lineWords ls n depth) "if NAME = NAME" = true then
      match mIf (mCommand ls i (depth + 2)) ls depth (n + 1) (lineWords ls n depth) with
      | none => none
      | some (c, r) => some (some (c, ⟨"if", lineWords ls n depth⟩ :: r))
    else some none
theorem mulOk_small : ∀ k, k < 21 → MulOk (" " : Str) ((k : Nat) : Int) := by
  unfold MulOk
  decide +kernel
theorem plain_nil : plainM [] = false := by decide +kernel
theorem line_there {ls : List Str} {n k : Nat} (h : lineWords ls n k ≠ []) : n < ls.length := by
  cases e : ls[n]? with
  | none =>
    unfold lineWords at h
    rw [e] at h
    exact absurd rfl h
  | some l => exact (List.getElem?_eq_some_iff.mp e).1
end Sc

namespace Sc
open PySem L2 PySem.Spec PyProof.Rows
abbrev sCommands : Stmt := top 60
abbrev sCommand : Stmt := top 61
abbrev sIf : Stmt := top 62
theorem scCommand : FnScope ["draft", "depth", "ifs", "words", "command", "word"] ["draft", "depth", "ifs"] (defScope sCommand) := ⟨rfl, rfl, rfl, by decide +kernel, rfl, by decide +kernel, by decide +kernel⟩
theorem scCommands : FnScope ["draft", "depth", "most", "ifs", "commands", "command"] ["draft", "depth", "most", "ifs"] (defScope sCommands) := ⟨rfl, rfl, rfl, by decide +kernel, rfl, by decide +kernel, by decide +kernel⟩
theorem scIf : FnScope ["draft", "depth", "ifs", "words", "first", "second"] ["draft", "depth", "ifs", "words"] (defScope sIf) := ⟨rfl, rfl, rfl, by decide +kernel, rfl, by decide +kernel, by decide +kernel⟩
/-- [word for word in words if ..] -/
theorem filt_go {K : PySem.W.Frag} {te : TE} {tt : TT} {vs : List Nat} {i j : Nat} {σ : L2.St} {H : Hp} {Q : VK} {a : Addr} {ws : List Str} (p : Str → Bool) (hj : σ[j]? = some (some (.ref a))) (hw : SqL K H a (ws.map V.str)) (hz : ws.length ≤ sizeLine)
    (hi : ∀ u, wipe ((wipe σ vs).set i (some u)) vs = wipe σ vs) (ht : ∀ (u : Str) (H' : Hp) (R : Bool → Hp → Prop), R (p u) H' → tt ((wipe σ vs).set i (some (.str u))) H' R)
    (he : ∀ (u : Str) (H' : Hp) (R : VK), R (.str u) H' → te ((wipe σ vs).set i (some (.str u))) H' R) (hd : ∀ D H', Same H H' → H D = none → H' D = some (.lst ((ws.filter p).map V.str)) → Q (.ref D) H') :
    tLc (iList K (tVar j)) (gName i) tt te vs σ H Q := by
  refine ⟨_, hj, a, rfl, ⟨_, hw⟩, fun D hn => ?_⟩
  refine ⟨fun n m H1 => m = ws.length - n ∧ n ≤ ws.length ∧ Same H H1 ∧ H1 D = some (.lst (((ws.take n).filter p).map V.str)), ⟨_, rfl, Nat.zero_le _, same_new hn, by rw [upd_same]; rfl⟩, ?_⟩
  rintro n m H1 ⟨rfl, hle, s1, hD⟩
  have hw1 := SqL.same hw s1
  by_cases h : n < ws.length
  · have hl : n < (ws.map V.str).length := by
      rw [List.length_map]
      exact h
    refine .inr ⟨⟨_, _, hw1, List.getElem?_eq_getElem hl⟩, fun H' => Same H H' ∧ H' D = some (.lst (((ws.take (n + 1)).filter p).map V.str)), fun H' ⟨c, d⟩ => ⟨ws.length - (n + 1), by omega, rfl, h, c, d⟩, ?_⟩
    rintro v H' ⟨rfl, hv⟩
    obtain ⟨u, hu, rfl⟩ := map_get (hv _ hw1)
    have et : ws.take (n + 1) = ws.take n ++ [u] := by
      rw [List.take_succ_eq_append_getElem h, (List.getElem?_eq_some_iff.mp hu).2]
    refine ⟨hi _, ht u H' _ ?_⟩
    refine ite2 (fun c => he u H' _ ⟨_, hD, ?_, same_fill hn s1, ?_⟩) fun c => ⟨s1, ?_⟩
    · rw [List.length_map]
      refine Nat.lt_of_le_of_lt (List.length_filter_le _ _) ?_
      rw [List.length_take]
      omega
    · rw [upd_same, et, List.filter_append, List.filter_cons_of_pos c, List.filter_nil, List.map_append]
      rfl
    · rw [et, List.filter_append, List.filter_cons_of_neg c, List.filter_nil, List.append_nil]
      exact hD
  · obtain rfl : n = ws.length := by omega
    refine .inl ⟨⟨_, hw1, by rw [List.length_map]; exact Nat.le_refl _⟩, hd D H1 s1 hn ?_⟩
    rw [hD, List.take_length]
abbrev Dr.two (x : Dr) : List Addr := [x.d, x.rows]
def spCommand (C : Addr) (ls : List Str) (ifs : Nat) : Sp := fun vs H Q _ => ∃ (x : Dr) (Z : List Addr) (rm : List Row) (depth : Nat), vs = [.ref x.d, .int (depth : Nat), .int (ifs : Nat)] ∧ Rd Z x C ls rm H ∧ depth + 2 * ifs < 19 ∧
  ∃ res, mCommand ls ifs depth rm.length = some res ∧ (res = none → ∀ H', Off x.two H H' → Rd Z x C ls rm H' → Q .non H') ∧
    ∀ c r2, res = some (c, r2) → ∀ p H', Off x.two H H' → Rd Z x C ls (rm ++ r2) H' → CmdAt H' (.ref p) c → Q (.ref p) H'
def spCommands (C : Addr) (ls : List Str) (ifs : Nat) : Sp := fun vs H Q _ => ∃ (x : Dr) (Z : List Addr) (rm : List Row) (depth most : Nat), vs = [.ref x.d, .int (depth : Nat), .int (most : Nat), .int (ifs : Nat)] ∧ Rd Z x C ls rm H ∧ depth + 2 * ifs < 19 ∧ most < 100 ∧
  ∃ cs r2, mCommands (mCommand ls ifs depth) most rm.length = some (cs, r2) ∧ ∀ a H', Off x.two H H' → Rd Z x C ls (rm ++ r2) H' → ProgAt H' a cs → Q (.ref a) H'
def spIf (C : Addr) (ls : List Str) (i : Nat) : Sp := fun vs H Q _ => ∃ (x : Dr) (Z : List Addr) (rm : List Row) (depth : Nat) (W : Addr) (ws : List Str), vs = [.ref x.d, .int (depth : Nat), .int (i : Nat), .ref W] ∧ Rd Z x C ls rm H ∧ depth + 2 + 2 * i < 19 ∧
  H W = some (.lst (ws.map V.str)) ∧ W ∉ Z ∧ ws.length = 4 ∧ ∃ c r2, mIf (mCommand ls i (depth + 2)) ls depth rm.length ws = some (c, r2) ∧ ∀ p H', Off x.two H H' → Rd Z x C ls (rm ++ r2) H' → CmdAt H' (.ref p) c → Q (.ref p) H'
/-- draft.line_words(depth) -/
theorem line_go {K : PySem.W.Frag} {C : Addr} {ls : List Str} {x : Dr} {Z : List Addr} {rm : List Row} {σ : L2.St} {H : Hp} {Q : VK} {E : XK} {i j depth : Nat} (R : Rd Z x C ls rm H) (h0 : σ[i]? = some (some (.ref x.d))) (h1 : σ[j]? = some (some (.int (depth : Nat)))) (hd : depth < 21)
    (q : ∀ p H', Words K H' p (lineWords ls rm.length depth) → H' p = some (.lst ((lineWords ls rm.length depth).map V.str)) → p ∉ Z → Same H H' → Q (.ref p) H') : tMeth C "line_words" (spLine K C) [] E (tVar i) (tCons (tVar j) tNil) σ H Q :=
  ⟨_, h0, x.d, x.dx, _, rfl, R.at_.obj, by rfl, _, h1, x, ls, rm.length, depth, rfl, R.at_, mulOk_small depth hd, fun p H' w0 e0 hp s => q p H' w0 e0 (R.new hp) s⟩
/-- draft.take(kind, words) -/
theorem take_go {C : Addr} {ls : List Str} {x : Dr} {Z : List Addr} {rm : List Row} {σ : L2.St} {H : Hp} {Q : VK} {E : XK} {i j : Nat} {kind : Str} {W : Addr} {ws : List Str} (R : Rd Z x C ls rm H) (h0 : σ[i]? = some (some (.ref x.d))) (h1 : σ[j]? = some (some (.ref W))) (hW : WordsAt Z H kind W ws)
    (hn : rm.length < ls.length) (q : ∀ H', Off x.two H H' → Rd Z x C ls (rm ++ [⟨kind, ws⟩]) H' → Q .non H') : tMeth C "take" (spTake C) [] E (tVar i) (tCons (tC (.str kind)) (tCons (tVar j) tNil)) σ H Q := by
  obtain ⟨rs, hrs, hr⟩ := R.rows
  refine ⟨_, h0, x.d, x.dx, _, rfl, R.at_.obj, by rfl, _, h1, x, ls, rm.length, kind, W, rs, rfl, R.at_, hn, hrs, ?_, fun p H' hp o a ht hr2 => q H' o (R.took hrs hW hp o a ht hr2)⟩
  rw [hr.len]
  have := R.at_.len
  omega
/-- the branch of a plain command -/
theorem plain_go {K : PySem.W.Frag} {C : Addr} {ls : List Str} {x : Dr} {Z : List Addr} {rm : List Row} {H : Hp} {D : Ends} {E : XK} {v1 v2 : V} {p : Addr} {ws : List Str} (R : Rd Z x C ls rm H) (hw : Words K H p ws) (hn : rm.length < ls.length)
    (q : ∀ t H', Off x.two H H' → Rd Z x C ls (rm ++ [⟨"command", noTo ws⟩]) H' → CmdAt H' (.ref t) (.plain (noTo ws)) → D.rt (.ref t) H') :
    tSeq (tAsg (tCB (fun xs H Q => ∃ p ys, xs = [.ref p] ∧ ((SqL K H p ys ∧ ∀ l, H l = none → Q (.ref l) (upd H l (.tup ys))) ∨ (SqT K H p ys ∧ Q (.ref p) H))) (tCons (tLc (iList K (tVar 3)) (gName 5) (tTest (tOp rNe (tVar 5) (tC (.str "to")))) (tVar 5) [5]) tNil)) (gName 4))
      (tSeq (tDrop (tMeth C "take" (spTake C) [] E (tVar 0) (tCons (tC (.str "command")) (tCons (tVar 4) tNil)))) (tRet (tVar 4))) D [some (.ref x.d), some v1, some v2, some (.ref p), none, none] H := by
  refine seq_go (cb_go (cons_go (filt_go (fun w => !(w == ("to" : Str))) rfl hw.1 ?_ (fun u => rfl) (fun u H' R2 k => ⟨_, rfl, rfl, _, rfl, ?_⟩) (fun u H' R2 k => ⟨_, rfl, k⟩) fun L H1 s1 hL e1 => ?_)))
  · rw [sizeLine_eq]
    have := hw.2.1
    omega
  · rw [dec_str]
    exact k
  · refine ⟨L, _, rfl, .inl ⟨.inl (.inl e1), fun t ht => ?_⟩⟩
    have s2 := s1.trans (same_new (o := .tup ((noTo ws).map V.str)) ht)
    have t2 : (upd H1 t (.tup ((noTo ws).map V.str))) t = some (.tup ((noTo ws).map V.str)) := upd_same
    have R2 := R.same s2
    show tSeq _ _ _ _ (upd H1 t (.tup ((noTo ws).map V.str)))
    generalize upd H1 t (.tup ((noTo ws).map V.str)) = H2 at s2 t2 R2 ⊢
    refine seq_go (drop_go (take_go R2 rfl rfl (.inl ⟨rfl, t2⟩) hn fun H3 o R3 => ?_))
    refine ⟨_, rfl, q t H3 (s2.off.trans o) R3 ?_⟩
    unfold CmdAt
    exact ⟨t, rfl, R2.soft.tup o t2⟩
/-- the draft's class and its methods -/
structure DrFns (P : Program) (w : World) (K : PySem.W.Frag) (mg : Str → Option Value) (base : Heap) (C fL fT : Addr) (fdL fdT : FuncData) : Prop where
  own : Own K C drNames
  line : FnOk P w K mg base CX0 1 fL fdL ["self", "depth"] (spLine K C)
  mLine : Meth K C "line_words" fL
  bLine : Binds K fdL ["self", "depth"] []
  take : FnOk P w K mg base CX0 1 fT fdT ["self", "kind", "words"] (spTake C)
  mTake : Meth K C "take" fT
  bTake : Binds K fdT ["self", "kind", "words"] []
section
variable {P : Program} {w : World} {K : PySem.W.Frag} {mg : Str → Option Value} {base : Heap} {C fL fT : Addr} {fdL fdT : FuncData}
theorem ok_command0 {ls : List Str} {f fP fF : Addr} {fd fdP fdF : FuncData} (G : Fun K "read_command" "read_command" sCommand f fd) (T : NatR mg) (Dn : DrFns P w K mg base C fL fT fdL fdT)
    (GP : FnOk P w K mg base CX0 4 fP fdP ["words"] (spRow K plainM)) (gP : mg "is_plain_command" = some (.ref fP)) (kP : PySem.W.keepIn K (.ref fP) = true) (bP : Binds K fdP ["words"] []) :
    FnOk P w K mg base CX0 5 f fd ["draft", "depth", "ifs"] (spCommand C ls 0) := by
  refine G.ok scCommand (fun vs H Q E h => ?_) (fun cdv A outer s H vs Q E hr h => ?_)
  · obtain ⟨x, Z, rm, depth, rfl, _⟩ := h
    rfl
  · obtain ⟨x, Z, rm, depth, rfl, R, hd, res, hres, q1, q2⟩ := h
    have hr1 := hr.mono (show 1 ≤ 4 by decide)
    refine ⟨_, pss_cons (ps_set (i := 3) scCommand.nd rfl (Or.inl rfl) (pe_meth (pv 0) Dn.own.cl Dn.mLine Dn.line hr1 Dn.bLine .nil pass0 (pa_cons (pv 1) pa_nil)))
      (pss_cons (ps_if (pt_val (pe_call GP hr (by rfl) gP kP bP .nil pass0 (pa_cons (pv 3) pa_nil)))
        (pss_cons (ps_set (i := 4) scCommand.nd rfl (Or.inl rfl) (pe_callTy call_tuple_of (by rfl) T.tuple (by decide +kernel) (pa_cons
            (pe_lc (own := [("word", 5)]) (g := gName 5) rfl scCommand.nd (pi_list (pv 3)) (blkOk_by (own := [("word", 5)]) (N := ["draft", "depth", "ifs", "words", "command", "word"]) (sc := defScope sCommand) (by decide +kernel))
              (fun _ _ _ _ _ => pg_name (i := 5) scCommand.nd rfl (Or.inl rfl)) (fun _ _ _ _ _ => pts_one (pt_cmpR op_ne (pv 5) pe_str (nomark _))) (fun _ _ _ _ _ => pv 5)) pa_nil)))
          (pss_cons (ps_expr (pe_meth (pv 0) Dn.own.cl Dn.mTake Dn.take hr1 Dn.bTake .nil pass0 (pa_cons pe_str (pa_cons (pv 4) pa_nil)))) (pss_one (ps_ret (pv 4))))) pss_nil)
      (pss_cons (ps_if (PW.pt (pw_and (pt_cmpR op_gt (pv 2) pe_int (nomark _)) (pw_and1 (tA := fun _ _ _ => False) ⟨fun _ _ _ _ _ _ z => z.elim⟩))) pss_never pss_nil)
      (pss_one (ps_ret pe_non)))), ?_⟩
    refine seq_go (line_go R rfl rfl (by omega) fun p H1 w1 e1 hp s1 => ?_)
    have R1 := R.same s1
    unfold mCommand at hres
    dsimp only
    refine seq_go (ifs_go (val_go ?_))
    refine ⟨_, rfl, p, _, rfl, w1, fun H2 s2 => ⟨_, rfl, ite2 (fun c => ?_) fun c => ?_⟩⟩
    · rw [if_pos c] at hres
      cases hres
      have hn : rm.length < ls.length := line_there fun z => by
        rw [z, plain_nil] at c
        cases c
      refine plain_go (R1.same s2) (w1.same s2) hn fun t H3 o R3 hc => q2 _ _ rfl t H3 ((s1.trans s2).off.trans o) R3 hc
    · rw [if_neg c] at hres
      cases hres
      refine next_go ?_
      dsimp only
      refine seq_go (ifs_go (and_go (test_go ?_)))
      refine ⟨_, rfl, _, _, rfl, rfl, _, rfl, ite2 (fun z => absurd z (by decide)) fun _ => ite2 (fun z => absurd z (by decide)) fun _ => ?_⟩
      refine next_go ?_
      dsimp only
      refine ret_go ?_
      exact q1 rfl H2 (s1.trans s2).off (R1.same s2)
end
end Sc

namespace Sc
open PySem L2 PySem.Spec PyProof.Rows
theorem Rd.less {Z Y : List Addr} {x : Dr} {C : Addr} {ls : List Str} {rm : List Row} {H : Hp} (R : Rd Y x C ls rm H) (s : ∀ a ∈ Z, a ∈ Y) (o : ∀ a ∈ x.own, a ∈ Z) : Rd Z x C ls rm H := by
  obtain ⟨rs, hrs, hr⟩ := R.rows
  refine ⟨R.at_, ⟨rs, hrs, ?_⟩, o, fun a ha => R.there a (s a ha), fun z => R.lines (s _ z)⟩
  have go : ∀ {rs : List V} {ms : List Row}, RowsAt Y H rs ms → RowsAt Z H rs ms := by
    intro rs
    induction rs with
    | nil =>
      intro ms h
      cases ms with
      | nil => exact True.intro
      | cons m ms => exact h
    | cons r rs ih =>
      intro ms h
      cases ms with
      | nil => exact h
      | cons m ms =>
        obtain ⟨⟨p, q, e, hp, hq⟩, b⟩ := h
        exact ⟨⟨p, q, e, hp, hq.imp id fun ⟨k, h, n⟩ => ⟨k, h, fun z => n (s q z)⟩⟩, ih b⟩
  exact go hr
/-- a new thing is added to Z -/
theorem Rd.add {Z : List Addr} {x : Dr} {C : Addr} {ls : List Str} {rm : List Row} {H : Hp} {L : Addr} {o : HO} (R : Rd Z x C ls rm H) (hL : H L = none) (no : ∀ ps, o ≠ .tbl ps := by intro _ z; cases z) : Rd (L :: Z) x C ls rm (upd H L o) := by
  have R1 := R.same (same_new (o := o) hL)
  obtain ⟨rs, hrs, hr⟩ := R.rows
  refine ⟨R1.at_, ⟨rs, same_new hL _ _ hrs, ?_⟩, fun a ha => List.mem_cons_of_mem _ (R.own a ha), fun a ha => ?_, fun z => ?_⟩
  · have h1 : RowsAt (L :: Z) H rs rm := hr.more fun a ha nz => by
      rcases List.mem_cons.mp ha with z | z
      · rw [z]
        exact hL
      · exact absurd z nz
    refine h1.off (F := []) (fun a ha => nomatch ha) (fun a u _ e => same_new hL a u e)
  · rcases List.mem_cons.mp ha with z | z
    · rw [z]
      exact ⟨_, upd_same, no⟩
    · exact R1.there a z
  · rcases List.mem_cons.mp z with z | z
    · have := R.at_.lines
      rw [z, hL] at this
      cases this
    · exact R.lines z
/-- a thing of Z that is none of the draft's is changed -/
theorem Rd.put {Z : List Addr} {x : Dr} {C : Addr} {ls : List Str} {rm : List Row} {H : Hp} {L : Addr} {o u : HO} (R : Rd Z x C ls rm H) (hL : L ∈ Z) (hn : L ∉ x.own) (he : H L = some u) (nt : ∀ xs, u ≠ .tup xs) (no : ∀ ps, o ≠ .tbl ps := by intro _ z; cases z) : Rd Z x C ls rm (upd H L o) := by
  obtain ⟨rs, hrs, hr⟩ := R.rows
  have of : Off [L] H (upd H L o) := off_upd List.mem_cons_self
  have sf : Soft [L] Z H := fun a ha => by
    rw [List.mem_singleton.mp ha]
    refine ⟨hL, fun xs e => ?_⟩
    rw [he] at e
    exact nt xs (Option.some.inj e)
  have nd : ∀ a ∈ x.own, a ∉ [L] := fun a ha z => hn (by rw [← List.mem_singleton.mp z]; exact ha)
  have nl : x.lines ∉ [L] := fun z => R.lines (by rw [List.mem_singleton.mp z]; exact hL)
  refine ⟨⟨of _ _ (nd _ (by simp [Dr.own])) R.at_.obj, of _ _ nl R.at_.lines, R.at_.len, R.at_.ok, R.at_.pos, R.at_.apart⟩, ⟨rs, of _ _ (nd _ (by simp [Dr.own])) hrs, hr.off sf of⟩, R.own, fun a ha => ?_, R.lines⟩
  by_cases h : a = L
  · rw [h]
    exact ⟨_, upd_same, no⟩
  · obtain ⟨v, e, n⟩ := R.there a ha
    exact ⟨v, (upd_ne h).trans e, n⟩
theorem tups_upd {H : Hp} {L : Addr} {o u : HO} (he : H L = some u) (nt : ∀ xs, u ≠ .tup xs) : Tups H (upd H L o) := fun a xs e => by
  have n : a ≠ L := fun z => by
    rw [z, he] at e
    exact nt xs (Option.some.inj e)
  rw [upd_ne n]
  exact e
/-- what stays from the entry on, when a thing made since is changed -/
theorem Off.made {F : List Addr} {H H1 : Hp} {L : Addr} {o : HO} (s : Off F H H1) (hL : H L = none) : Off F H (upd H1 L o) := fun a u n e => by
  rw [upd_ne (ne_of_none e hL)]
  exact s a u n e
end Sc

namespace Sc
open PySem L2 PySem.Spec PyProof.Rows
theorem mLoop_len {cmd : Nat → Option (Option (Cmd × List Row))} : ∀ {k n : Nat} {cs : List Cmd} {r : List Row}, mLoop cmd k n = some (cs, r) → cs.length ≤ k
  | 0, n, cs, r, h => by
    unfold mLoop at h
    cases h
    exact Nat.le_refl _
  | k + 1, n, cs, r, h => by
    unfold mLoop at h
    split at h
    · cases h
    · cases h
      exact Nat.zero_le _
    · split at h
      · cases h
      · rename_i e
        cases h
        have := mLoop_len e
        rw [List.length_cons]
        omega
theorem mCommands_some {cmd : Nat → Option (Option (Cmd × List Row))} {most n : Nat} {cs : List Cmd} {r : List Row} (h : mCommands cmd most n = some (cs, r)) : mLoop cmd most n = some (cs, r) ∧ cs ≠ [] := by
  unfold mCommands at h
  split at h
  · rename_i e
    cases h
    exact ⟨e, by simp⟩
  · cases h
section
variable {P : Program} {w : World} {K : PySem.W.Frag} {mg : Str → Option Value} {base : Heap} {C fL fT : Addr} {fdL fdT : FuncData}
theorem ok_commands {ls : List Str} {ifs k : Nat} {f fC : Addr} {fd fdC : FuncData} (G : Fun K "read_commands" "read_commands" sCommands f fd) (T : NatR mg)
    (GC : FnOk P w K mg base CX0 k fC fdC ["draft", "depth", "ifs"] (spCommand C ls ifs)) (gC : mg "read_command" = some (.ref fC)) (kC : PySem.W.keepIn K (.ref fC) = true) (bC : Binds K fdC ["draft", "depth", "ifs"] []) :
    FnOk P w K mg base CX0 (k + 1) f fd ["draft", "depth", "most", "ifs"] (spCommands C ls ifs) := by
  refine G.ok scCommands (fun vs H Q E h => ?_) (fun cdv A outer s H vs Q E hr h => ?_)
  · obtain ⟨x, Z, rm, depth, most, rfl, _⟩ := h
    rfl
  · obtain ⟨x, Z, rm, depth, most, rfl, R, hd, hm, cs, r2, hres, q⟩ := h
    refine ⟨_, pss_cons (ps_set (i := 4) scCommands.nd rfl (Or.inl rfl) (pe_lst pa_nil))
      (pss_cons (ps_while PassesOwn.never (pt_cmpR op_lt (pe_callB call_len_seq (by rfl) T.len PySem.boot_len (pa_cons (pv 4) pa_nil)) (pv 2) (nomark _))
        (pss_cons (ps_set (i := 5) scCommands.nd rfl (Or.inl rfl) (pe_call GC hr (by rfl) gC kC bC .nil pass0 (pa_cons (pv 0) (pa_cons (pv 1) (pa_cons (pv 3) pa_nil)))))
        (pss_cons (ps_if (pt_cmp (pc_isN (pv 5))) (pss_one ps_break) pss_nil)
        (pss_one (ps_expr (pe_bm PySem.F.plainAttrs_list PySem.F.slot_list_append PySem.F.type_list_append mt_append (pv 4) (pa_cons (pv 5) pa_nil)))))))
      (pss_cons (ps_if (pt_not (pt_truth (pv 4) (by intro _; rfl))) pss_never pss_nil)
      (pss_one (ps_ret (pe_callTy call_tuple_of (by rfl) T.tuple (by decide +kernel) (pa_cons (pv 4) pa_nil)))))), ?_⟩
    refine seq_go ⟨by decide, fun L hL => ?_⟩
    have R0 := R.add (o := .lst []) hL
    have hL0 : (upd H L (.lst [])) L = some (.lst []) := upd_same
    have o0 : Off x.two H (upd H L (.lst [])) := (same_new hL).off
    dsimp only
    generalize upd H L (.lst []) = H0 at R0 hL0 o0 ⊢
    have nown : L ∉ x.own := fun z => R.new hL (R.own _ z)
    obtain ⟨hloop, hne⟩ := mCommands_some hres
    -- behind the loop
    have after : ∀ (y : Option V) (H1 : Hp) (rs : List V), Off x.two H H1 → Rd (L :: Z) x C ls (rm ++ r2) H1 → H1 L = some (.lst rs) → CmdsAt H1 rs cs →
        tSeq (tIfS (tNot fun σ H Q => tVar 4 σ H fun x H' => ∃ k, TruV K x H' k ∧ Q k H') tNever tNext) (tRet (tCB (fun xs H Q => ∃ p ys, xs = [.ref p] ∧ ((SqL K H p ys ∧ ∀ l, H l = none → Q (.ref l) (upd H l (.tup ys))) ∨ (SqT K H p ys ∧ Q (.ref p) H))) (tCons (tVar 4) tNil)))
          { nx := fun _ H' => Q .non H', rt := Q } [some (.ref x.d), some (.int (depth : Nat)), some (.int (most : Nat)), some (.int (ifs : Nat)), some (.ref L), y] H1 := fun y H1 rs o R1 hl hc => by
      refine seq_go (ifs_go (not_go ?_))
      have ne : rs ≠ [] := fun z => by
        have := hc.len
        rw [z] at this
        exact hne (List.eq_nil_of_length_eq_zero this.symm)
      refine ⟨_, rfl, _, .inl ⟨rs, .inl (.inl hl), rfl⟩, ite2 (fun c => ?_) fun _ => ?_⟩
      · exact absurd c (by cases rs with
          | nil => exact absurd rfl ne
          | cons a b => simp)
      · refine next_go ?_
        dsimp only
        refine ret_go (cb_go ⟨_, rfl, L, rs, rfl, .inl ⟨.inl (.inl hl), fun t ht => ?_⟩⟩)
        have s2 := same_new (o := .tup rs) ht
        exact q t _ (o.trans s2.off) ((R1.less (fun a ha => List.mem_cons_of_mem _ ha) R.own).same s2) ⟨rs, upd_same, hc.keep s2.tups⟩
    refine seq_go ?_
    refine ⟨fun m σ H1 => ∃ (y : Option V) (rs : List V) (dn : List Cmd) (r0 : List Row) (cs1 : List Cmd) (r1 : List Row), σ = [some (.ref x.d), some (.int (depth : Nat)), some (.int (most : Nat)), some (.int (ifs : Nat)), some (.ref L), y] ∧ m = most - dn.length ∧ dn.length ≤ most ∧
      Off x.two H H1 ∧ Rd (L :: Z) x C ls (rm ++ r0) H1 ∧ H1 L = some (.lst rs) ∧ CmdsAt H1 rs dn ∧ mLoop (mCommand ls ifs depth) (most - dn.length) (rm.length + r0.length) = some (cs1, r1) ∧ cs = dn ++ cs1 ∧ r2 = r0 ++ r1,
      ⟨most, none, [], [], [], cs, r2, rfl, rfl, Nat.zero_le _, o0, by rw [List.append_nil]; exact R0, hL0, CmdsAt.none, hloop, rfl, rfl⟩, ?_⟩
    rintro m σ H1 ⟨y, rs, dn, r0, cs1, r1, rfl, rfl, hle, o1, R1, hl1, hc1, hlp, ecs, er⟩
    refine test_go (op_go (cb_go ⟨_, rfl, L, rs, rfl, .inl (.inl (.inl hl1)), _, rfl, _, _, rfl, rfl, _, rfl, ite2 (fun c => ?_) fun c => ?_⟩))
    · have lt : dn.length < most := by
        have := of_decide_eq_true c
        have := hc1.len
        omega
      have e1 : most - dn.length = (most - (dn.length + 1)) + 1 := by omega
      rw [e1] at hlp
      unfold mLoop at hlp
      have en : (rm ++ r0).length = rm.length + r0.length := List.length_append
      refine ⟨_, fun σ' H' z => z, ?_⟩
      refine seq_go ?_
      cases hcmd : mCommand ls ifs depth (rm.length + r0.length) with
      | none =>
        rw [hcmd] at hlp
        cases hlp
      | some res =>
        rw [hcmd] at hlp
        refine ⟨_, rfl, _, rfl, _, rfl, x, L :: Z, rm ++ r0, depth, rfl, R1, hd, res, by rw [en]; exact hcmd, fun er0 H2 o2 R2 => ?_, fun c2 rr er0 p H2 o2 R2 hp => ?_⟩
        · subst er0
          cases hlp
          rw [List.append_nil] at ecs er
          subst ecs er
          dsimp only
          refine seq_go (ifs_go ⟨_, rfl, _, rfl, ite2 (fun _ => ?_) fun z => absurd rfl z⟩)
          have hl2 : H2 L = some (.lst rs) := o2 _ _ (fun z => nown (by simp at z; rcases z with rfl | rfl <;> simp [Dr.own])) hl1
          exact after _ H2 rs (o1.trans o2) R2 hl2 (hc1.keep (R1.soft.tups o2))
        · subst er0
          dsimp only at hlp
          cases hrest : mLoop (mCommand ls ifs depth) (most - (dn.length + 1)) (rm.length + r0.length + rr.length) with
          | none =>
            rw [hrest] at hlp
            cases hlp
          | some out =>
            rw [hrest] at hlp
            obtain ⟨cs2, r3⟩ := out
            cases hlp
            have hl2 : H2 L = some (.lst rs) := o2 _ _ (fun z => nown (by simp at z; rcases z with rfl | rfl <;> simp [Dr.own])) hl1
            have hc2 := hc1.keep (R1.soft.tups o2)
            dsimp only
            refine seq_go (ifs_go ⟨_, rfl, _, rfl, ite2 (fun z => ?_) fun _ => ?_⟩)
            · exact absurd z (by simp)
            · refine next_go ?_
              dsimp only
              refine drop_go (bm_go ⟨_, rfl, .inl ⟨rfl, _, .inl (.inl hl2)⟩, _, rfl, L, _, _, rfl, rfl, hl2, ?_, ?_⟩)
              · rw [hc2.len, sizeLine_eq]
                omega
              · have nt : ∀ xs, HO.lst rs ≠ .tup xs := fun xs z => by cases z
                have tp := tups_upd (o := .lst (rs ++ [.ref p])) hl2 nt
                refine ⟨most - (dn ++ [c2]).length, by rw [List.length_append, List.length_singleton]; omega, some (.ref p), rs ++ [.ref p], dn ++ [c2], r0 ++ rr, cs2, r3, rfl, rfl, ?_, (o1.trans o2).made hL, ?_, upd_same, (hc2.keep tp).snoc (hp.keep tp), ?_, ?_, ?_⟩
                · rw [List.length_append, List.length_singleton]
                  exact lt
                · rw [← List.append_assoc]
                  exact R2.put List.mem_cons_self nown hl2 nt
                · rw [List.length_append, List.length_append, List.length_singleton, ← Nat.add_assoc]
                  exact hrest
                · rw [ecs, List.append_assoc]
                  rfl
                · rw [er, List.append_assoc]
    · have e : most - dn.length = 0 := by
        have h1 : ¬ (rs.length : Int) < most := fun z => c (decide_eq_true z)
        have := hc1.len
        omega
      rw [e] at hlp
      unfold mLoop at hlp
      cases hlp
      rw [List.append_nil] at ecs er
      subst ecs er
      exact after y H1 rs o1 R1 hl1 hc1
end
end Sc

namespace Sc
open PySem L2 PySem.Spec PyProof.Rows
section
variable {P : Program} {w : World} {K : PySem.W.Frag} {mg : Str → Option Value} {base : Heap} {C fL fT : Addr} {fdL fdT : FuncData}
theorem Rd.there2 {Z : List Addr} {x : Dr} {C : Addr} {ls : List Str} {rm : List Row} {H : Hp} (R : Rd Z x C ls rm H) {a : Addr} (n : a ∉ Z) : a ∉ x.two := fun z => n (R.own a (by simp at z; rcases z with rfl | rfl <;> simp [Dr.own]))
theorem get_word {ws : List Str} {i : Nat} (h : i < ws.length) : atI (ws.map V.str) (i : Int) = some (.str (ws.getD i "")) := by
  refine atI_nat ?_
  rw [List.getElem?_map, List.getElem?_eq_getElem h, List.getD_eq_getElem?_getD, List.getElem?_eq_getElem h]
  rfl
theorem ok_if {ls : List Str} {i k : Nat} {f fC : Addr} {fd fdC : FuncData} (hk : 1 ≤ k) (G : Fun K "read_if" "read_if" sIf f fd) (Dn : DrFns P w K mg base C fL fT fdL fdT)
    (GC : FnOk P w K mg base CX0 k fC fdC ["draft", "depth", "most", "ifs"] (spCommands C ls i)) (gC : mg "read_commands" = some (.ref fC)) (kC : PySem.W.keepIn K (.ref fC) = true) (bC : Binds K fdC ["draft", "depth", "most", "ifs"] []) :
    FnOk P w K mg base CX0 (k + 1) f fd ["draft", "depth", "ifs", "words"] (spIf C ls i) := by
  refine G.ok scIf (fun vs H Q E h => ?_) (fun cdv A outer s H vs Q E hr h => ?_)
  · obtain ⟨x, Z, rm, depth, W, ws, rfl, _⟩ := h
    rfl
  · obtain ⟨x, Z, rm, depth, W, ws, rfl, R, hd, hW, nW, hl, c, r2, hres, q⟩ := h
    have hr1 := hr.mono hk
    refine ⟨_, pss_cons (ps_set (i := 4) scIf.nd rfl (Or.inl rfl) (pe_call GC hr (by rfl) gC kC bC .nil pass0 (pa_cons (pv 0) (pa_cons (pe_op op_add (pv 1) pe_int) (pa_cons pe_int (pa_cons (pv 2) pa_nil))))))
      (pss_cons (ps_set (i := 5) scIf.nd rfl (Or.inl rfl) (pe_tup pa_nil))
      (pss_cons (ps_if (pt_cmpR (op_eqD hr.units) (pe_meth (pv 0) Dn.own.cl Dn.mLine Dn.line hr1 Dn.bLine .nil pass0 (pa_cons (pv 1) pa_nil)) (pe_lst (pa_cons pe_str pa_nil)) (nomark _))
        (pss_cons (ps_expr (pe_meth (pv 0) Dn.own.cl Dn.mTake Dn.take hr1 Dn.bTake .nil pass0 (pa_cons pe_str (pa_cons (pe_lst (pa_cons pe_str pa_nil)) pa_nil))))
          (pss_one (ps_set (i := 5) scIf.nd rfl (Or.inl rfl) (pe_call GC hr (by rfl) gC kC bC .nil pass0 (pa_cons (pv 0) (pa_cons (pe_op op_add (pv 1) pe_int) (pa_cons pe_int (pa_cons (pv 2) pa_nil)))))))) pss_nil)
      (pss_one (ps_ret (pe_tup (pa_cons pe_str (pa_cons (pe_ix ix_list (pv 3) pe_int (fun _ _ => rfl)) (pa_cons (pe_ix ix_list (pv 3) pe_int (fun _ _ => rfl)) (pa_cons (pv 4) (pa_cons (pv 5) pa_nil)))))))))), ?_⟩
    unfold mIf at hres
    cases h1 : mCommands (mCommand ls i (depth + 2)) 4 rm.length with
    | none =>
      rw [h1] at hres
      cases hres
    | some o1 =>
      obtain ⟨cs1, r1⟩ := o1
      rw [h1] at hres
      dsimp only at hres
      -- the return
      have fin : ∀ (a b : Addr) (fs ss : List Cmd) (rr : List Row) (H1 : Hp), Off x.two H H1 → Rd Z x C ls (rm ++ rr) H1 → ProgAt H1 a fs → ProgAt H1 b ss → c = .cond (ws.getD 1 "") (ws.getD 3 "") fs ss → r2 = rr →
          tRet (tTup (tCons (tC (.str "if")) (tCons (tOp (rIxL K) (tVar 3) (tC (.int 1))) (tCons (tOp (rIxL K) (tVar 3) (tC (.int 3))) (tCons (tVar 4) (tCons (tVar 5) tNil)))))) { nx := fun _ H' => Q .non H', rt := Q } [some (.ref x.d), some (.int (depth : Nat)), some (.int (i : Nat)), some (.ref W), some (.ref a), some (.ref b)] H1 := fun a b fs ss rr H1 o R1 ⟨ra, ha, hca⟩ ⟨rb, hb, hcb⟩ ec er => by
        subst ec er
        have hW1 := o _ _ (R.there2 nW) hW
        refine ⟨_, rfl, W, _, _, _, rfl, rfl, .inl (.inl hW1), get_word (i := 1) (by omega), _, rfl, W, _, _, _, rfl, rfl, .inl (.inl hW1), get_word (i := 3) (by omega), _, rfl, _, rfl, (by show 5 ≤ sizeLine; decide), fun t ht => ?_⟩
        have s2 := same_new (o := .tup [.str "if", .str (ws.getD 1 ""), .str (ws.getD 3 ""), .ref a, .ref b]) ht
        refine q t _ (o.trans s2.off) (R1.same s2) ?_
        unfold CmdAt
        exact ⟨t, a, b, ra, rb, rfl, upd_same, s2 _ _ ha, hca.keep s2.tups, s2 _ _ hb, hcb.keep s2.tups⟩
      refine seq_go ?_
      refine ⟨_, rfl, ⟨_, rfl, _, _, rfl, rfl, _, rfl, x, Z, rm, depth + 2, 4, rfl, R, by omega, by decide, cs1, r1, h1, fun a H1 o1 R1 p1 => ?_⟩⟩
      dsimp only
      refine seq_go ⟨by decide, fun b hb => ?_⟩
      have s2 := same_new (o := .tup []) hb
      have hb2 : ProgAt (upd H1 b (.tup [])) b [] := ⟨[], upd_same, CmdsAt.none⟩
      have p2 : ProgAt (upd H1 b (.tup [])) a cs1 := by
        obtain ⟨ra, ha, hca⟩ := p1
        exact ⟨ra, s2 _ _ ha, hca.keep s2.tups⟩
      have R2 := R1.same s2
      have o2 := o1.trans s2.off
      dsimp only
      generalize upd H1 b (.tup []) = H2 at hb2 p2 R2 o2 ⊢
      have en : (rm ++ r1).length = rm.length + r1.length := List.length_append
      refine seq_go (ifs_go (test_go (op_go (line_go R2 rfl rfl (by omega) fun p H3 w3 _ np s3 => ?_))))
      refine ⟨(by show 1 ≤ sizeLine; decide), fun u hu => ?_⟩
      have s4 := s3.trans (same_new (o := .lst [V.str ("else" : Str)]) hu)
      have w4 := w3.same (same_new (o := .lst [V.str ("else" : Str)]) hu)
      have hu4 : SqL K (upd H3 u (.lst [V.str ("else" : Str)])) u ([("else" : Str)].map V.str) := .inl (.inl upd_same)
      generalize upd H3 u (.lst [V.str ("else" : Str)]) = H4 at s4 w4 hu4 ⊢
      refine ⟨_, _, dp_words w4.1, dp_words hu4, shaped_strs _ fun x hx => (w4.2.2 x hx).2, shaped_strs _ (by decide +kernel), _, rfl, ?_⟩
      rw [eqv_strs, en]
      have R4 := R2.same s4
      have o4 := o2.trans s4.off
      have keepP : ∀ {a : Addr} {cs : List Cmd} {G G' : Hp}, ProgAt G a cs → Tups G G' → ProgAt G' a cs := fun ⟨ra, ha, hca⟩ tp => ⟨ra, tp _ _ ha, hca.keep tp⟩
      have p4 := keepP p2 s4.tups
      have b4 := keepP hb2 s4.tups
      refine ite2 (fun e => ?_) fun e => ?_
      · rw [if_pos e] at hres
        have hn : (rm ++ r1).length < ls.length := line_there (k := depth) fun z => by
          rw [← en, z] at e
          cases e
        refine seq_go (drop_go ?_)
        obtain ⟨rs, hrs, hrr⟩ := R4.rows
        refine ⟨_, rfl, x.d, x.dx, _, rfl, R4.at_.obj, by rfl, (by show 1 ≤ sizeLine; decide), fun v hv => ?_⟩
        have s5 := same_new (o := .lst [V.str ("else" : Str)]) hv
        have R5 := R4.same s5
        have o5 := o4.trans s5.off
        have nv := R4.new hv
        have hv5 : WordsAt Z (upd H4 v (.lst [V.str ("else" : Str)])) "else" v [("else" : Str)] := .inr ⟨by decide +kernel, upd_same, nv⟩
        have hrs5 := s5 _ _ hrs
        have p5 := keepP p4 s5.tups
        generalize upd H4 v (.lst [V.str ("else" : Str)]) = H5 at s5 R5 o5 hv5 hrs5 p5 ⊢
        refine ⟨x, ls, (rm ++ r1).length, "else", v, rs, rfl, R5.at_, hn, hrs5, ?_, fun t H6 ht o a6 ht6 hr6 => ?_⟩
        · rw [hrr.len]
          have := R5.at_.len
          omega
        · have R6 := R5.took hrs5 hv5 ht o a6 ht6 hr6
          have o6 := o5.trans o
          have p6 := keepP p5 (R5.soft.tups o)
          have e6 : (rm ++ r1 ++ [(⟨"else", [("else" : Str)]⟩ : Row)]).length = rm.length + r1.length + 1 := by rw [List.length_append, en]; rfl
          cases h2 : mCommands (mCommand ls i (depth + 2)) 4 (rm.length + r1.length + 1) with
          | none =>
            rw [h2] at hres
            cases hres
          | some o2 =>
            obtain ⟨cs2, r3⟩ := o2
            rw [h2] at hres
            cases hres
            dsimp only
            refine ⟨_, rfl, ?_⟩
            refine ⟨_, rfl, _, _, rfl, rfl, _, rfl, x, Z, _, depth + 2, 4, rfl, R6, by omega, by decide, cs2, r3, by rw [e6]; exact h2, fun b2 H7 o7 R7 p7 => ?_⟩
            dsimp only
            refine fin a b2 cs1 cs2 _ H7 (o6.trans o7) ?_ (keepP p6 (R6.soft.tups o7)) p7 rfl rfl
            have ea : rm ++ r1 ++ [(⟨"else", [("else" : Str)]⟩ : Row)] ++ r3 = rm ++ (r1 ++ (⟨"else", [("else" : Str)]⟩ : Row) :: r3) := by simp
            rw [ea] at R7
            exact R7
      · rw [if_neg e] at hres
        cases hres
        refine next_go ?_
        dsimp only
        exact fin a b cs1 [] _ H4 o4 R4 p4 b4 rfl rfl
end
end Sc

namespace Sc
open PySem L2 PySem.Spec PyProof.Rows
def ifForm : Str := "if NAME = NAME"
theorem fits_len {ws : List Str} {form : Str} (h : fitsM ws form = true) : ws.length = (Txt.split form " ").length := by
  unfold fitsM at h
  exact eq_of_beq (Bool.and_eq_true_iff.mp h).1
theorem if_len : (Txt.split ifForm " ").length = 4 := by decide +kernel
section
variable {P : Program} {w : World} {K : PySem.W.Frag} {mg : Str → Option Value} {base : Heap} {C fL fT : Addr} {fdL fdT : FuncData}
theorem ok_command1 {ls : List Str} {i k : Nat} {f fP fF fI : Addr} {fd fdP fdF fdI : FuncData} (hk : 4 ≤ k) (G : Fun K "read_command" "read_command" sCommand f fd) (T : NatR mg) (Dn : DrFns P w K mg base C fL fT fdL fdT)
    (GP : FnOk P w K mg base CX0 4 fP fdP ["words"] (spRow K plainM)) (gP : mg "is_plain_command" = some (.ref fP)) (kP : PySem.W.keepIn K (.ref fP) = true) (bP : Binds K fdP ["words"] [])
    (GF : FnOk P w K mg base CX0 3 fF fdF ["words", "form"] (spFits K)) (gF : mg "fits" = some (.ref fF)) (kF : PySem.W.keepIn K (.ref fF) = true) (bF : Binds K fdF ["words", "form"] [])
    (GI : FnOk P w K mg base CX0 k fI fdI ["draft", "depth", "ifs", "words"] (spIf C ls i)) (gI : mg "read_if" = some (.ref fI)) (kI : PySem.W.keepIn K (.ref fI) = true) (bI : Binds K fdI ["draft", "depth", "ifs", "words"] []) :
    FnOk P w K mg base CX0 (k + 1) f fd ["draft", "depth", "ifs"] (spCommand C ls (i + 1)) := by
  refine G.ok scCommand (fun vs H Q E h => ?_) (fun cdv A outer s H vs Q E hr h => ?_)
  · obtain ⟨x, Z, rm, depth, rfl, _⟩ := h
    rfl
  · obtain ⟨x, Z, rm, depth, rfl, R, hd, res, hres, q1, q2⟩ := h
    have hr1 := hr.mono (show 1 ≤ k by omega)
    refine ⟨_, pss_cons (ps_set (i := 3) scCommand.nd rfl (Or.inl rfl) (pe_meth (pv 0) Dn.own.cl Dn.mLine Dn.line hr1 Dn.bLine .nil pass0 (pa_cons (pv 1) pa_nil)))
      (pss_cons (ps_if (pt_val (pe_call GP (hr.mono hk) (by rfl) gP kP bP .nil pass0 (pa_cons (pv 3) pa_nil)))
        (pss_cons (ps_set (i := 4) scCommand.nd rfl (Or.inl rfl) (pe_callTy call_tuple_of (by rfl) T.tuple (by decide +kernel) (pa_cons
            (pe_lc (own := [("word", 5)]) (g := gName 5) rfl scCommand.nd (pi_list (pv 3)) (blkOk_by (own := [("word", 5)]) (N := ["draft", "depth", "ifs", "words", "command", "word"]) (sc := defScope sCommand) (by decide +kernel))
              (fun _ _ _ _ _ => pg_name (i := 5) scCommand.nd rfl (Or.inl rfl)) (fun _ _ _ _ _ => pts_one (pt_cmpR op_ne (pv 5) pe_str (nomark _))) (fun _ _ _ _ _ => pv 5)) pa_nil)))
          (pss_cons (ps_expr (pe_meth (pv 0) Dn.own.cl Dn.mTake Dn.take hr1 Dn.bTake .nil pass0 (pa_cons pe_str (pa_cons (pv 4) pa_nil)))) (pss_one (ps_ret (pv 4))))) pss_nil)
      (pss_cons (ps_if (PW.pt (pw_and (pt_cmpR op_gt (pv 2) pe_int (nomark _)) (pw_and1 (pt_val (pe_call GF (hr.mono (by omega)) (by rfl) gF kF bF .nil pass0 (pa_cons (pv 3) (pa_cons pe_str pa_nil)))))))
        (pss_cons (ps_expr (pe_meth (pv 0) Dn.own.cl Dn.mTake Dn.take hr1 Dn.bTake .nil pass0 (pa_cons pe_str (pa_cons (pv 3) pa_nil))))
          (pss_one (ps_ret (pe_call GI hr (by rfl) gI kI bI .nil pass0 (pa_cons (pv 0) (pa_cons (pv 1) (pa_cons (pe_op op_sub (pv 2) pe_int) (pa_cons (pv 3) pa_nil)))))))) pss_nil)
      (pss_one (ps_ret pe_non)))), ?_⟩
    refine seq_go (line_go R rfl rfl (by omega) fun p H1 w1 e1 hp s1 => ?_)
    have R1 := R.same s1
    unfold mCommand at hres
    dsimp only
    refine seq_go (ifs_go (val_go ?_))
    refine ⟨_, rfl, p, _, rfl, w1, fun H2 s2 => ⟨_, rfl, ite2 (fun c => ?_) fun c => ?_⟩⟩
    · rw [if_pos c] at hres
      cases hres
      have hn : rm.length < ls.length := line_there fun z => by
        rw [z, plain_nil] at c
        cases c
      refine plain_go (R1.same s2) (w1.same s2) hn fun t H3 o R3 hc => q2 _ _ rfl t H3 ((s1.trans s2).off.trans o) R3 hc
    · rw [if_neg c] at hres
      refine next_go ?_
      dsimp only
      have w2 := w1.same s2
      have R2 := R1.same s2
      have e2 := s2 _ _ e1
      have s12 := s1.trans s2
      refine seq_go (ifs_go (and_go (test_go ?_)))
      refine ⟨_, rfl, _, _, rfl, rfl, _, rfl, ite2 (fun _ => ?_) fun z => absurd (decide_eq_true (by omega)) z⟩
      refine ⟨_, rfl, p, _, _, rfl, w2, by decide +kernel, fun H3 s3 => ⟨_, rfl, ite2 (fun d => ?_) fun d => ?_⟩⟩
      · rw [if_pos d] at hres
        have R3 := R2.same s3
        have e3 := s3 _ _ e2
        have hl : (lineWords ls rm.length depth).length = 4 := (fits_len d).trans if_len
        have hn : rm.length < ls.length := line_there fun z => by
          rw [z] at hl
          cases hl
        refine seq_go (drop_go (take_go R3 rfl rfl (.inr ⟨by decide +kernel, e3, hp⟩) hn fun H4 o4 R4 => ?_))
        cases h1 : mIf (mCommand ls i (depth + 2)) ls depth (rm.length + 1) (lineWords ls rm.length depth) with
        | none =>
          rw [h1] at hres
          cases hres
        | some out =>
          obtain ⟨c2, r2⟩ := out
          rw [h1] at hres
          cases hres
          dsimp only
          have sub : (((i + 1 : Nat) : Int) - 1) = (i : Nat) := by omega
          refine ret_go ?_
          refine ⟨_, rfl, _, rfl, _, rfl, _, _, rfl, rfl, _, rfl, ?_⟩
          refine ⟨x, Z, _, depth, p, _, congrArg (fun z => [V.ref x.d, V.int (depth : Nat), V.int z, V.ref p]) sub, R4, by omega, o4 _ _ (R3.there2 hp) e3, hp, hl, c2, r2, by rw [List.length_append]; exact h1, fun t H5 o5 R5 hc => ?_⟩
          refine q2 _ _ rfl t H5 (((s12.trans s3).off.trans o4).trans o5) ?_ hc
          rw [List.append_assoc] at R5
          exact R5
      · rw [if_neg d] at hres
        cases hres
        refine next_go ?_
        dsimp only
        refine ret_go ?_
        exact q1 rfl H3 (s12.trans s3).off (R2.same s3)
end
end Sc

namespace Sc
open PySem L2 PySem.Spec PyProof.Rows Lm
abbrev sSeveral : Stmt := top 52
theorem scSeveral : FnScope ["read", "draft", "least", "most", "count"] ["read", "draft", "least", "most"] (defScope sSeveral) := ⟨rfl, rfl, rfl, by decide +kernel, rfl, by decide +kernel, by decide +kernel⟩
/-- read_several(read, draft, least, most): read answers up to most times with True, from I n to I (n + 1), or with False -/
def spSeveral (cs : List (Addr × Str)) (u : Addr) (lsp : List (Option V) → Sp) : List (Option V) → Sp := fun ws vs H Q _ => ∃ (d : Addr) (least most : Nat), vs = [.ref u, .ref d, .int (least : Nat), .int (most : Nat)] ∧
  ∃ I : Nat → Hp → Prop, I 0 H ∧ (∀ n H1, n < most → I n H1 → Coded cs H1 ∧ ∀ R : VK, (∀ H2, I (n + 1) H2 → R (.bl true) H2) → (∀ H2, least ≤ n → Q .non H2 → R (.bl false) H2) → lsp ws [.ref d] H1 R E0) ∧ ∀ H1, I most H1 → least ≤ most ∧ Q .non H1
section
variable {P : Program} {w : World} {K : PySem.W.Frag} {mg : Str → Option Value} {base : Heap}
theorem led_several {k : Nat} {g : Addr} {fdg : FuncData} {cl : List (Str × Addr)} {fr : List Str} {hs : List (Addr × Obj)} {cs : List (Addr × Str)} {u : Addr} {lsp : List (Option V) → Sp} (G : Fun K "read_several" "read_several" sSeveral g fdg) (b : Binds K fdg ["read", "draft", "least", "most"] [])
    (a : Act P w K mg base CX0 k cl fr hs cs u lsp) : Led P w K mg base CX0 (k + 1) cl fr hs cs g (spSeveral cs u lsp) := by
  obtain ⟨oc, od, kV, doc, pm, an, cdv, ct, osl, rfl, lk, hcd⟩ := G.ex
  intro A outer s H us vs ws Q E hr e0 th nf cf hc C r h
  obtain ⟨d, least, most, rfl, I, i0, step, fin⟩ := h
  have KX : K.In s.heap := e0.mod.kin.keeps fun b o e => (e0.bs b o e).1
  have hl : (us ++ []).length = 4 := by
    rw [List.append_nil, ← r.length]
    rfl
  have B := b s us KX hl
  rw [List.append_nil] at B
  refine LamX.run_ofS lk hcd scSeveral hr e0 B r rfl fun hr2 => ?_
  have body : ∃ t, PSs (cxOf CX0 P w K mg base ["read", "draft", "least", "most", "count"] "read_several" (defScope sSeveral) g cdv A outer s H E).nox (defBody sSeveral) t ∧ t { nx := fun _ H' => Q .non H', rt := Q } (start ["read", "draft", "least", "most", "count"] [.ref u, .ref d, .int (least : Nat), .int (most : Nat)]) H := by
    refine ⟨_, pss_cons (ps_set (i := 4) scSeveral.nd rfl (Or.inl rfl) pe_int)
      (pss_cons (ps_while PassesOwn.never (PW.pt (pw_and (pt_cmpR op_lt (pv 4) (pv 3) (nomark _)) (pw_and1 (pt_val (pe_act1 (i := 0) (ws := ws) a hr2 (Nat.le_refl _) pass0 th nf cf rfl C rfl (Or.inl rfl) (pa_cons (pv 1) pa_nil))))))
        (pss_one (ps_aug (i := 4) scSeveral.nd rfl (Or.inl rfl) pe_int ip_add)))
      (pss_one (ps_if (pt_cmpR op_lt (pv 4) (pv 2) (nomark _)) pss_never pss_nil))), ?_⟩
    have after : ∀ (n : Nat) (H1 : Hp), least ≤ n → Q .non H1 → tIfS (tTest (tOp (rI0 fun i j => .bl (decide (i < j))) (tVar 4) (tVar 2))) tNever tNext { nx := fun _ H' => Q .non H', rt := Q } [some (.ref u), some (.ref d), some (.int (least : Nat)), some (.int (most : Nat)), some (.int (n : Nat))] H1 := fun n H1 hn q =>
      ifs_go (test_go ⟨_, rfl, _, rfl, _, _, rfl, rfl, _, rfl, ite2 (fun z => absurd (of_decide_eq_true z) (by omega)) fun _ => next_go q⟩)
    refine seq_go ?_
    show tSeq _ _ _ [some (.ref u), some (.ref d), some (.int (least : Nat)), some (.int (most : Nat)), some (.int (0 : Nat))] H
    refine seq_go ?_
    refine ⟨fun m σ H1 => ∃ n, σ = [some (.ref u), some (.ref d), some (.int (least : Nat)), some (.int (most : Nat)), some (.int (n : Nat))] ∧ m = most - n ∧ n ≤ most ∧ I n H1, ⟨most, 0, rfl, rfl, Nat.zero_le _, i0⟩, ?_⟩
    rintro m σ H1 ⟨n, rfl, rfl, hn, iN⟩
    refine and_go (test_go ⟨_, rfl, _, rfl, _, _, rfl, rfl, _, rfl, ite2 (fun c => ?_) fun c => ?_⟩)
    · have lt : n < most := by
        have := of_decide_eq_true c
        omega
      obtain ⟨hco, st⟩ := step n H1 lt iN
      refine ⟨rfl, _, rfl, hco, st _ (fun H2 i2 => ⟨true, rfl, ?_⟩) fun H2 hl q2 => ⟨false, rfl, ?_⟩⟩
      · refine ite2 (fun _ => ?_) fun z => absurd rfl z
        exact ⟨_, fun σ' H' z => z, _, rfl, _, _, rfl, rfl, most - (n + 1), by omega, n + 1, rfl, rfl, lt, i2⟩
      · refine ite2 (fun z => absurd z (by decide)) fun _ => ?_
        exact after n H2 hl q2
    · have e : n = most := by
        have : ¬ (n : Int) < most := fun z => c (decide_eq_true z)
        omega
      subst e
      refine ite2 (fun z => absurd z (by decide)) fun _ => ?_
      obtain ⟨l1, q1⟩ := fin H1 iN
      exact after _ H1 l1 q1
  obtain ⟨t, ht, hq⟩ := body
  exact ⟨t, ht.nox, hq⟩
end
end Sc

namespace Sc
open PySem L2 PySem.Spec PyProof.Rows Lm
abbrev sNeed : Stmt := top 56
abbrev sLaid : Stmt := top 57
abbrev sProgram : Stmt := top 58
theorem scNeed : FnScope ["draft", "edition", "words"] ["draft", "edition"] (defScope sNeed) := ⟨rfl, rfl, rfl, by decide +kernel, rfl, by decide +kernel, by decide +kernel⟩
theorem scLaid : FnScope ["draft", "edition", "words"] ["draft", "edition"] (defScope sLaid) := ⟨rfl, rfl, rfl, by decide +kernel, rfl, by decide +kernel, by decide +kernel⟩
/-! ### an edition -/
structure Ed where
  e : Addr
  ex : Addr
  needs : Addr
  lays : Addr
  programs : Addr
structure EdM where
  needs : List Str
  lays : List (Str × Str)
  programs : List (Str × List Cmd)
def Ed.own (y : Ed) : List Addr := [y.needs, y.lays, y.programs]
def Ed.fields (y : Ed) : List (Str × V) := [("needs", .ref y.needs), ("lays", .ref y.lays), ("programs", .ref y.programs)]
def edNames : List Str := ["needs", "lays", "programs"]
theorem Ed.lk_needs (y : Ed) : y.fields.lookup ("needs" : Str) = some (V.ref y.needs) := by rfl
theorem Ed.lk_lays (y : Ed) : y.fields.lookup ("lays" : Str) = some (V.ref y.lays) := by rfl
theorem Ed.lk_programs (y : Ed) : y.fields.lookup ("programs" : Str) = some (V.ref y.programs) := by rfl
/-- pairs of texts, each a tuple -/
def PairsAt (H : Hp) : List V → List (Str × Str) → Prop
  | [], [] => True
  | r :: rs, q :: qs => (∃ p, r = .ref p ∧ H p = some (.tup [.str q.1, .str q.2])) ∧ PairsAt H rs qs
  | [], _ :: _ => False
  | _ :: _, [] => False
theorem PairsAt.keep {H H' : Hp} (t : Tups H H') : ∀ {rs : List V} {qs : List (Str × Str)}, PairsAt H rs qs → PairsAt H' rs qs
  | [], [], _ => True.intro
  | _ :: _, _ :: _, ⟨⟨p, e, h⟩, b⟩ => ⟨⟨p, e, t _ _ h⟩, PairsAt.keep t b⟩
  | [], _ :: _, h => h
  | _ :: _, [], h => h
theorem PairsAt.snoc {H : Hp} {p : Addr} {q : Str × Str} (hp : H p = some (.tup [.str q.1, .str q.2])) : ∀ {rs : List V} {qs : List (Str × Str)}, PairsAt H rs qs → PairsAt H (rs ++ [.ref p]) (qs ++ [q])
  | [], [], _ => ⟨⟨p, rfl, hp⟩, True.intro⟩
  | _ :: _, _ :: _, ⟨a, b⟩ => ⟨a, PairsAt.snoc hp b⟩
  | [], _ :: _, h => h.elim
  | _ :: _, [], h => h.elim
theorem PairsAt.len {H : Hp} : ∀ {rs : List V} {qs : List (Str × Str)}, PairsAt H rs qs → rs.length = qs.length
  | [], [], _ => rfl
  | _ :: _, _ :: _, ⟨_, b⟩ => by rw [List.length_cons, List.length_cons, PairsAt.len b]
  | [], _ :: _, h => h.elim
  | _ :: _, [], h => h.elim
/-- programs by their names -/
def ProgsAt (H : Hp) : List (Key × V) → List (Str × List Cmd) → Prop
  | [], [] => True
  | r :: rs, q :: qs => (r.1 = .inr q.1 ∧ ∃ p, r.2 = .ref p ∧ ProgAt H p q.2) ∧ ProgsAt H rs qs
  | [], _ :: _ => False
  | _ :: _, [] => False
theorem ProgAt.keep {H H' : Hp} {a : Addr} {cs : List Cmd} (t : Tups H H') (h : ProgAt H a cs) : ProgAt H' a cs := by
  obtain ⟨rs, e, c⟩ := h
  exact ⟨rs, t _ _ e, c.keep t⟩
theorem ProgsAt.keep {H H' : Hp} (t : Tups H H') : ∀ {rs : List (Key × V)} {qs : List (Str × List Cmd)}, ProgsAt H rs qs → ProgsAt H' rs qs
  | [], [], _ => True.intro
  | _ :: _, _ :: _, ⟨⟨e1, p, e, h⟩, b⟩ => ⟨⟨e1, p, e, h.keep t⟩, ProgsAt.keep t b⟩
  | [], _ :: _, h => h
  | _ :: _, [], h => h
structure Ed.At (y : Ed) (CE : Addr) (Z : List Addr) (x : Dr) (m : EdM) (H : Hp) : Prop where
  obj : H y.e = some (.ins CE y.ex y.fields)
  needs : H y.needs = some (.lst (m.needs.map V.str))
  lays : ∃ ls, H y.lays = some (.lst ls) ∧ PairsAt H ls m.lays
  programs : ∃ ks, H y.programs = some (.dK ks) ∧ ProgsAt H ks m.programs
  own : ∀ a ∈ y.own, a ∈ Z ∧ a ∉ x.own
  ne : y.needs ≠ y.lays
  nd : y.e ≠ x.d
  few : m.needs.length ≤ 100 ∧ m.lays.length ≤ 100 ∧ m.programs.length ≤ 100
/-- the draft's own things are changed -/
theorem Ed.At.off {y : Ed} {CE : Addr} {Z : List Addr} {x : Dr} {C : Addr} {ls : List Str} {rm : List Row} {m : EdM} {H H' : Hp} (h : y.At CE Z x m H) (R : Rd Z x C ls rm H) (o : Off x.two H H') : y.At CE Z x m H' := by
  have t := R.soft.tups o
  have n2 : ∀ a ∈ y.own, a ∉ x.two := fun a ha z => (h.own a ha).2 (by simp at z; rcases z with rfl | rfl <;> simp [Dr.own])
  obtain ⟨rs, hrs, _⟩ := R.rows
  have ne2 : y.e ≠ x.rows := ne_of h.obj hrs fun z => by cases z
  obtain ⟨l1, e1, p1⟩ := h.lays
  obtain ⟨k1, e2, p2⟩ := h.programs
  exact ⟨o _ _ (by simp [h.nd, ne2]) h.obj, o _ _ (n2 _ (by simp [Ed.own])) h.needs, ⟨l1, o _ _ (n2 _ (by simp [Ed.own])) e1, p1.keep t⟩, ⟨k1, o _ _ (n2 _ (by simp [Ed.own])) e2, p2.keep t⟩, h.own, h.ne, h.nd, h.few⟩
theorem Ed.At.same {y : Ed} {CE : Addr} {Z : List Addr} {x : Dr} {m : EdM} {H H' : Hp} (h : y.At CE Z x m H) (s : Same H H') : y.At CE Z x m H' := by
  obtain ⟨l1, e1, p1⟩ := h.lays
  obtain ⟨k1, e2, p2⟩ := h.programs
  exact ⟨s _ _ h.obj, s _ _ h.needs, ⟨l1, s _ _ e1, p1.keep s.tups⟩, ⟨k1, s _ _ e2, p2.keep s.tups⟩, h.own, h.ne, h.nd, h.few⟩
theorem line_goC {K : PySem.W.Frag} {C : Addr} {ls : List Str} {x : Dr} {Z : List Addr} {rm : List Row} {σ : L2.St} {H : Hp} {Q : VK} {E : XK} {i depth : Nat} (R : Rd Z x C ls rm H) (h0 : σ[i]? = some (some (.ref x.d))) (hd : depth < 21)
    (q : ∀ p H', Words K H' p (lineWords ls rm.length depth) → H' p = some (.lst ((lineWords ls rm.length depth).map V.str)) → p ∉ Z → Same H H' → Q (.ref p) H') : tMeth C "line_words" (spLine K C) [] E (tVar i) (tCons (tC (.int (depth : Nat))) tNil) σ H Q :=
  ⟨_, h0, x.d, x.dx, _, rfl, R.at_.obj, by rfl, x, ls, rm.length, depth, rfl, R.at_, mulOk_small depth hd, fun p H' w0 e0 hp s => q p H' w0 e0 (R.new hp) s⟩
abbrev needForm : Str := "needs NAME"
abbrev layForm : Str := "lays NAME NAME"
/-- what a line's reading comes to: an edition with it, and its row; none: it is another line -/
def mNeed (ls : List Str) (n : Nat) (m : EdM) : Option (EdM × List Row) := if fitsM (lineWords ls n 4) needForm = true then some ({ m with needs := m.needs ++ [(lineWords ls n 4).getD 1 ""] }, [⟨"needs", lineWords ls n 4⟩]) else none
def mLaid (ls : List Str) (n : Nat) (m : EdM) : Option (EdM × List Row) := if fitsM (lineWords ls n 4) layForm = true then some ({ m with lays := m.lays ++ [((lineWords ls n 4).getD 1 "", (lineWords ls n 4).getD 2 "")] }, [⟨"lays", lineWords ls n 4⟩]) else none
/-- a part of an edition is read -/
def spPart (C CE : Addr) (ls : List Str) (rd : Nat → EdM → Option (Option (EdM × List Row))) : Sp := fun vs H Q _ => ∃ (x : Dr) (y : Ed) (Z : List Addr) (rm : List Row) (m : EdM), vs = [.ref x.d, .ref y.e] ∧ Rd Z x C ls rm H ∧ y.At CE Z x m H ∧ m.needs.length < 50 ∧ m.lays.length < 50 ∧ m.programs.length < 50 ∧
  ∃ res, rd rm.length m = some res ∧ (res = none → ∀ H', Off (x.two ++ y.own) H H' → Rd Z x C ls rm H' → y.At CE Z x m H' → Q (.bl false) H') ∧
  ∀ m2 r2, res = some (m2, r2) → ∀ H', Off (x.two ++ y.own) H H' → Rd Z x C ls (rm ++ r2) H' → y.At CE Z x m2 H' → Q (.bl true) H'
/-- the names that an edition needs grow -/
theorem Ed.At.need {y : Ed} {CE : Addr} {Z : List Addr} {x : Dr} {m : EdM} {H : Hp} {u : Str} (h : y.At CE Z x m H) (l : m.needs.length < 50) : y.At CE Z x { m with needs := m.needs ++ [u] } (upd H y.needs (.lst (m.needs.map V.str ++ [.str u]))) := by
  have t := tups_upd (o := .lst (m.needs.map V.str ++ [.str u])) h.needs fun xs z => by cases z
  obtain ⟨l1, e1, p1⟩ := h.lays
  obtain ⟨k1, e2, p2⟩ := h.programs
  have n1 : y.e ≠ y.needs := ne_of h.obj h.needs fun z => by cases z
  have n2 : y.programs ≠ y.needs := ne_of e2 h.needs fun z => by cases z
  have f := h.few
  refine ⟨(upd_ne n1).trans h.obj, ?_, ⟨l1, (upd_ne (Ne.symm h.ne)).trans e1, p1.keep t⟩, ⟨k1, (upd_ne n2).trans e2, p2.keep t⟩, h.own, h.ne, h.nd, ?_, f.2.1, f.2.2⟩
  · rw [upd_same, List.map_append]
    rfl
  · rw [List.length_append, List.length_singleton]
    omega
/-- what an edition lays grows -/
theorem Ed.At.lay {y : Ed} {CE : Addr} {Z : List Addr} {x : Dr} {m : EdM} {H : Hp} {u : Str × Str} {rs : List V} {p : Addr} (h : y.At CE Z x m H) (l : m.lays.length < 50) (hl : H y.lays = some (.lst rs)) (hp : H p = some (.tup [.str u.1, .str u.2])) : y.At CE Z x { m with lays := m.lays ++ [u] } (upd H y.lays (.lst (rs ++ [.ref p]))) := by
  have t := tups_upd (o := .lst (rs ++ [.ref p])) hl fun xs z => by cases z
  obtain ⟨l1, e1, p1⟩ := h.lays
  obtain ⟨k1, e2, p2⟩ := h.programs
  rw [hl] at e1
  cases e1
  have n1 : y.e ≠ y.lays := ne_of h.obj hl fun z => by cases z
  have n2 : y.programs ≠ y.lays := ne_of e2 hl fun z => by cases z
  have f := h.few
  refine ⟨(upd_ne n1).trans h.obj, (upd_ne h.ne).trans h.needs, ⟨_, upd_same, (p1.keep t).snoc (t _ _ hp)⟩, ⟨k1, (upd_ne n2).trans e2, p2.keep t⟩, h.own, h.ne, h.nd, f.1, ?_, f.2.2⟩
  rw [List.length_append, List.length_singleton]
  omega
section
variable {P : Program} {w : World} {K : PySem.W.Frag} {mg : Str → Option Value} {base : Heap} {C CE fL fT : Addr} {fdL fdT : FuncData}
theorem ok_need {ls : List Str} {f fF : Addr} {fd fdF : FuncData} (G : Fun K "read_need" "read_need" sNeed f fd) (Dn : DrFns P w K mg base C fL fT fdL fdT) (O : Own K CE edNames)
    (GF : FnOk P w K mg base CX0 3 fF fdF ["words", "form"] (spFits K)) (gF : mg "fits" = some (.ref fF)) (kF : PySem.W.keepIn K (.ref fF) = true) (bF : Binds K fdF ["words", "form"] []) :
    FnOk P w K mg base CX0 4 f fd ["draft", "edition"] (spPart C CE ls fun n m => some (mNeed ls n m)) := by
  refine G.ok scNeed (fun vs H Q E h => ?_) (fun cdv A outer s H vs Q E hr h => ?_)
  · obtain ⟨x, y, Z, rm, m, rfl, _⟩ := h
    rfl
  · obtain ⟨x, y, Z, rm, m, rfl, R, Y, l1, l2, l3, res, hres, q1, q2⟩ := h
    cases hres
    have hr1 := hr.mono (show 1 ≤ 3 by decide)
    refine ⟨_, pss_cons (ps_set (i := 2) scNeed.nd rfl (Or.inl rfl) (pe_meth (pv 0) Dn.own.cl Dn.mLine Dn.line hr1 Dn.bLine .nil pass0 (pa_cons pe_int pa_nil)))
      (pss_cons (ps_if (pt_not (pt_val (pe_call GF hr (by rfl) gF kF bF .nil pass0 (pa_cons (pv 2) (pa_cons pe_str pa_nil))))) (pss_one (ps_ret pe_bl)) pss_nil)
      (pss_cons (ps_expr (pe_meth (pv 0) Dn.own.cl Dn.mTake Dn.take hr1 Dn.bTake .nil pass0 (pa_cons pe_str (pa_cons (pv 2) pa_nil))))
      (pss_cons (ps_expr (pe_bm PySem.F.plainAttrs_list PySem.F.slot_list_append PySem.F.type_list_append mt_append (pe_fld (pv 1) rfl) (pa_cons (pe_ix ix_list (pv 2) pe_int (fun _ _ => rfl)) pa_nil)))
      (pss_one (ps_ret pe_bl))))), ?_⟩
    refine seq_go (line_goC (depth := 4) R rfl (by decide) fun p H1 w1 e1 np s1 => ?_)
    have R1 := R.same s1
    dsimp only
    refine seq_go (ifs_go (not_go (val_go ?_)))
    refine ⟨_, rfl, p, _, _, rfl, w1, by decide +kernel, fun H2 s2 => ⟨_, rfl, ite2 (fun c => ?_) fun c => ?_⟩⟩
    · have c1 : ¬ fitsM (lineWords ls rm.length 4) needForm = true := by simpa using c
      have s12 := s1.trans s2
      refine ret_go ?_
      exact q1 (if_neg c1) H2 s12.off (R1.same s2) (Y.same s12)
    · have c1 : fitsM (lineWords ls rm.length 4) needForm = true := by simpa using c
      have s12 := s1.trans s2
      have R2 := R1.same s2
      have Y2 := Y.same s12
      have e2 := s2 _ _ e1
      have hl : (lineWords ls rm.length 4).length = 2 := (fits_len c1).trans (by decide +kernel)
      have hn : rm.length < ls.length := line_there fun z => by
        rw [z] at hl
        cases hl
      refine next_go ?_
      dsimp only
      refine seq_go (drop_go (take_go R2 rfl rfl (.inr ⟨by decide +kernel, e2, np⟩) hn fun H3 o3 R3 => ?_))
      have Y3 := Y2.off R2 o3
      have e3 := o3 _ _ (R2.there2 np) e2
      dsimp only
      refine seq_go (drop_go (bm_go ?_))
      refine ⟨_, rfl, y.e, CE, y.ex, _, _, rfl, Y3.obj, O.cl, O.no _ (by decide), y.lk_needs, .inl ⟨rfl, _, .inl (.inl Y3.needs)⟩, _, rfl, p, _, _, _, rfl, rfl, .inl (.inl e3), get_word (i := 1) (by omega), y.needs, _, _, rfl, rfl, Y3.needs, ?_, ?_⟩
      · rw [List.length_map, sizeLine_eq]
        omega
      · dsimp only
        refine ret_go ?_
        have own := Y3.own y.needs (by simp [Ed.own])
        refine q2 _ _ (if_pos c1) _ ((s12.off.trans (o3.more fun a ha => List.mem_append_left _ ha)).trans (off_upd (List.mem_append_right _ (by simp [Ed.own])))) (R3.put own.1 own.2 Y3.needs fun xs z => by cases z) (Y3.need l1)
end
end Sc

namespace Sc
open PySem L2 PySem.Spec PyProof.Rows Lm
section
variable {P : Program} {w : World} {K : PySem.W.Frag} {mg : Str → Option Value} {base : Heap} {C CE fL fT : Addr} {fdL fdT : FuncData}
theorem ok_laid {ls : List Str} {f fF : Addr} {fd fdF : FuncData} (G : Fun K "read_laid" "read_laid" sLaid f fd) (Dn : DrFns P w K mg base C fL fT fdL fdT) (O : Own K CE edNames)
    (GF : FnOk P w K mg base CX0 3 fF fdF ["words", "form"] (spFits K)) (gF : mg "fits" = some (.ref fF)) (kF : PySem.W.keepIn K (.ref fF) = true) (bF : Binds K fdF ["words", "form"] []) :
    FnOk P w K mg base CX0 4 f fd ["draft", "edition"] (spPart C CE ls fun n m => some (mLaid ls n m)) := by
  refine G.ok scLaid (fun vs H Q E h => ?_) (fun cdv A outer s H vs Q E hr h => ?_)
  · obtain ⟨x, y, Z, rm, m, rfl, _⟩ := h
    rfl
  · obtain ⟨x, y, Z, rm, m, rfl, R, Y, l1, l2, l3, res, hres, q1, q2⟩ := h
    cases hres
    have hr1 := hr.mono (show 1 ≤ 3 by decide)
    refine ⟨_, pss_cons (ps_set (i := 2) scLaid.nd rfl (Or.inl rfl) (pe_meth (pv 0) Dn.own.cl Dn.mLine Dn.line hr1 Dn.bLine .nil pass0 (pa_cons pe_int pa_nil)))
      (pss_cons (ps_if (pt_not (pt_val (pe_call GF hr (by rfl) gF kF bF .nil pass0 (pa_cons (pv 2) (pa_cons pe_str pa_nil))))) (pss_one (ps_ret pe_bl)) pss_nil)
      (pss_cons (ps_expr (pe_meth (pv 0) Dn.own.cl Dn.mTake Dn.take hr1 Dn.bTake .nil pass0 (pa_cons pe_str (pa_cons (pv 2) pa_nil))))
      (pss_cons (ps_expr (pe_bm PySem.F.plainAttrs_list PySem.F.slot_list_append PySem.F.type_list_append mt_append (pe_fld (pv 1) rfl)
        (pa_cons (pe_tup (pa_cons (pe_ix ix_list (pv 2) pe_int (fun _ _ => rfl)) (pa_cons (pe_ix ix_list (pv 2) pe_int (fun _ _ => rfl)) pa_nil))) pa_nil)))
      (pss_one (ps_ret pe_bl))))), ?_⟩
    refine seq_go (line_goC (depth := 4) R rfl (by decide) fun p H1 w1 e1 np s1 => ?_)
    have R1 := R.same s1
    dsimp only
    refine seq_go (ifs_go (not_go (val_go ?_)))
    refine ⟨_, rfl, p, _, _, rfl, w1, by decide +kernel, fun H2 s2 => ⟨_, rfl, ite2 (fun c => ?_) fun c => ?_⟩⟩
    · have c1 : ¬ fitsM (lineWords ls rm.length 4) layForm = true := by simpa using c
      have s12 := s1.trans s2
      refine ret_go ?_
      exact q1 (if_neg c1) H2 s12.off (R1.same s2) (Y.same s12)
    · have c1 : fitsM (lineWords ls rm.length 4) layForm = true := by simpa using c
      have s12 := s1.trans s2
      have R2 := R1.same s2
      have Y2 := Y.same s12
      have e2 := s2 _ _ e1
      have hl : (lineWords ls rm.length 4).length = 3 := (fits_len c1).trans (by decide +kernel)
      have hn : rm.length < ls.length := line_there fun z => by
        rw [z] at hl
        cases hl
      refine next_go ?_
      dsimp only
      refine seq_go (drop_go (take_go R2 rfl rfl (.inr ⟨by decide +kernel, e2, np⟩) hn fun H3 o3 R3 => ?_))
      have Y3 := Y2.off R2 o3
      have e3 := o3 _ _ (R2.there2 np) e2
      obtain ⟨rs, hrs, hps⟩ := Y3.lays
      dsimp only
      refine seq_go (drop_go (bm_go ?_))
      refine ⟨_, rfl, y.e, CE, y.ex, _, _, rfl, Y3.obj, O.cl, O.no _ (by decide), y.lk_lays, .inl ⟨rfl, _, .inl (.inl hrs)⟩, _, rfl, p, _, _, _, rfl, rfl, .inl (.inl e3), get_word (i := 1) (by omega), _, rfl, p, _, _, _, rfl, rfl, .inl (.inl e3), get_word (i := 2) (by omega), (by show 2 ≤ sizeLine; decide), fun t ht => ?_⟩
      have s4 := same_new (o := .tup [.str ((lineWords ls rm.length 4).getD 1 ""), .str ((lineWords ls rm.length 4).getD 2 "")]) ht
      have R4 := R3.same s4
      have Y4 := Y3.same s4
      have hrs4 := s4 _ _ hrs
      have ht4 : (upd H3 t (.tup [.str ((lineWords ls rm.length 4).getD 1 ""), .str ((lineWords ls rm.length 4).getD 2 "")])) t = some (.tup [.str ((lineWords ls rm.length 4).getD 1 ""), .str ((lineWords ls rm.length 4).getD 2 "")]) := upd_same
      generalize upd H3 t (.tup [.str ((lineWords ls rm.length 4).getD 1 ""), .str ((lineWords ls rm.length 4).getD 2 "")]) = H4 at s4 R4 Y4 hrs4 ht4 ⊢
      refine ⟨y.lays, _, _, rfl, rfl, hrs4, ?_, ?_⟩
      · have := hps.len
        rw [sizeLine_eq]
        omega
      · dsimp only
        refine ret_go ?_
        have own := Y4.own y.lays (by simp [Ed.own])
        refine q2 _ _ (if_pos c1) _ (((s12.off.trans (o3.more fun a ha => List.mem_append_left _ ha)).trans s4.off).trans (off_upd (List.mem_append_right _ (by simp [Ed.own])))) (R4.put own.1 own.2 hrs4 fun xs z => by cases z) (Y4.lay (u := ((lineWords ls rm.length 4).getD 1 "", (lineWords ls rm.length 4).getD 2 "")) l2 hrs4 ht4)
end
end Sc

namespace Sc
open PySem L2 PySem.Spec PyProof.Rows Lm
theorem scProgram : FnScope ["draft", "edition", "words", "name"] ["draft", "edition"] (defScope sProgram) := ⟨rfl, rfl, rfl, by decide +kernel, rfl, by decide +kernel, by decide +kernel⟩
def programNames : List Str := ["before", "behind", "leaves", "gone", "back before", "back behind", "back leaves", "back gone"]
/-- a program is put in under its name -/
def putP (qs : List (Str × List Cmd)) (k : Str) (c : List Cmd) : List (Str × List Cmd) := if (qs.any fun q => decide (q.1 = k)) = true then qs.map (fun q => if q.1 = k then (q.1, c) else q) else qs ++ [(k, c)]
theorem progs_any {H : Hp} {k : Str} : ∀ {rs : List (Key × V)} {qs : List (Str × List Cmd)}, ProgsAt H rs qs → (rs.any fun r => decide (r.1 = (.inr k : Key))) = qs.any fun q => decide (q.1 = k)
  | [], [], _ => rfl
  | r :: rs, q :: qs, ⟨⟨e, _⟩, b⟩ => by
    rw [List.any_cons, List.any_cons, progs_any b, e]
    congr 1
    by_cases h : q.1 = k
    · rw [h]
      simp
    · rw [decide_eq_false h, decide_eq_false fun z => h (Sum.inr.inj z)]
  | [], _ :: _, z => z.elim
  | _ :: _, [], z => z.elim
theorem progs_map {H : Hp} {k : Str} {p : Addr} {c : List Cmd} (hp : ProgAt H p c) : ∀ {rs : List (Key × V)} {qs : List (Str × List Cmd)}, ProgsAt H rs qs → ProgsAt H (rs.map fun r => if r.1 = (.inr k : Key) then (r.1, .ref p) else r) (qs.map fun q => if q.1 = k then (q.1, c) else q)
  | [], [], _ => True.intro
  | r :: rs, q :: qs, ⟨⟨e, x⟩, b⟩ => by
    refine ⟨?_, progs_map hp b⟩
    by_cases h : q.1 = k
    · dsimp only
      rw [if_pos h, if_pos (by rw [e, h])]
      exact ⟨e, p, rfl, hp⟩
    · dsimp only
      rw [if_neg h, if_neg (by rw [e]; exact fun z => h (Sum.inr.inj z))]
      exact ⟨e, x⟩
  | [], _ :: _, z => z.elim
  | _ :: _, [], z => z.elim
theorem progs_snoc {H : Hp} {k : Str} {p : Addr} {c : List Cmd} (hp : ProgAt H p c) : ∀ {rs : List (Key × V)} {qs : List (Str × List Cmd)}, ProgsAt H rs qs → ProgsAt H (rs ++ [(.inr k, .ref p)]) (qs ++ [(k, c)])
  | [], [], _ => ⟨⟨rfl, p, rfl, hp⟩, True.intro⟩
  | _ :: _, _ :: _, ⟨a, b⟩ => ⟨a, progs_snoc hp b⟩
  | [], _ :: _, z => z.elim
  | _ :: _, [], z => z.elim
theorem progs_put {H : Hp} {k : Str} {p : Addr} {c : List Cmd} {rs : List (Key × V)} {qs : List (Str × List Cmd)} (h : ProgsAt H rs qs) (hp : ProgAt H p c) : ProgsAt H (putK rs (.inr k) (.ref p)) (putP qs k c) := by
  unfold putK putP
  rw [progs_any h]
  split
  · exact progs_map hp h
  · exact progs_snoc hp h
theorem putP_len (qs : List (Str × List Cmd)) (k : Str) (c : List Cmd) : (putP qs k c).length ≤ qs.length + 1 := by
  unfold putP
  split
  · rw [List.length_map]
    omega
  · rw [List.length_append, List.length_singleton]
    exact Nat.le_refl _
theorem progs_len {H : Hp} : ∀ {rs : List (Key × V)} {qs : List (Str × List Cmd)}, ProgsAt H rs qs → rs.length = qs.length
  | [], [], _ => rfl
  | _ :: _, _ :: _, ⟨_, b⟩ => by rw [List.length_cons, List.length_cons, progs_len b]
  | [], _ :: _, h => h.elim
  | _ :: _, [], h => h.elim
theorem Ed.At.prog {y : Ed} {CE : Addr} {Z : List Addr} {x : Dr} {m : EdM} {H : Hp} {k : Str} {c : List Cmd} {rs : List (Key × V)} {p : Addr} (h : y.At CE Z x m H) (l : m.programs.length < 50) (hl : H y.programs = some (.dK rs)) (hp : ProgAt H p c) : y.At CE Z x { m with programs := putP m.programs k c } (upd H y.programs (.dK (putK rs (.inr k) (.ref p)))) := by
  have t := tups_upd (o := .dK (putK rs (.inr k) (.ref p))) hl fun xs z => by cases z
  obtain ⟨l1, e1, p1⟩ := h.lays
  obtain ⟨k1, e2, p2⟩ := h.programs
  rw [hl] at e2
  cases e2
  have n1 : y.e ≠ y.programs := ne_of h.obj hl fun z => by cases z
  have n2 : y.lays ≠ y.programs := ne_of e1 hl fun z => by cases z
  have n3 : y.needs ≠ y.programs := ne_of h.needs hl fun z => by cases z
  have f := h.few
  refine ⟨(upd_ne n1).trans h.obj, (upd_ne n3).trans h.needs, ⟨l1, (upd_ne n2).trans e1, p1.keep t⟩, ⟨_, upd_same, progs_put (p2.keep t) (hp.keep t)⟩, h.own, h.ne, h.nd, f.1, f.2.1, ?_⟩
  have := putP_len m.programs k c
  show (putP m.programs k c).length ≤ 100
  omega
def mProgram (ls : List Str) (n : Nat) (m : EdM) : Option (Option (EdM × List Row)) := if programNames.contains (Txt.join " " (lineWords ls n 4)) = true then
    match mCommands (mCommand ls 2 6) 6 (n + 1) with
    | none => none
    | some (cs, r) => some (some ({ m with programs := putP m.programs (Txt.join " " (lineWords ls n 4)) cs }, ⟨"program", lineWords ls n 4⟩ :: r))
  else some none
theorem u1 {n : Nat} (h : n + 64 < cLine) : n + 1 < cLine := by omega
section
variable {P : Program} {w : World} {K : PySem.W.Frag} {mg : Str → Option Value} {base : Heap} {C CE fL fT : Addr} {fdL fdT : FuncData}
theorem ok_program {ls : List Str} {k : Nat} {f fC pA : Addr} {fd fdC : FuncData} (hk : 1 ≤ k) (G : Fun K "read_program" "read_program" sProgram f fd) (Dn : DrFns P w K mg base C fL fT fdL fdT) (O : Own K CE edNames)
    (hj : ∀ n, ((lineWords ls n 4).map (·.length)).sum + (lineWords ls n 4).length * (" " : Str).length ≤ 16777216) (hP : mg "PROGRAM_NAMES" = some (.ref pA)) (hPt : ∀ H, SqT K H pA (programNames.map V.str))
    (GC : FnOk P w K mg base CX0 k fC fdC ["draft", "depth", "most", "ifs"] (spCommands C ls 2)) (gC : mg "read_commands" = some (.ref fC)) (kC : PySem.W.keepIn K (.ref fC) = true) (bC : Binds K fdC ["draft", "depth", "most", "ifs"] []) :
    FnOk P w K mg base CX0 (k + 1) f fd ["draft", "edition"] (spPart C CE ls (mProgram ls)) := by
  refine G.ok scProgram (fun vs H Q E h => ?_) (fun cdv A outer s H vs Q E hr h => ?_)
  · obtain ⟨x, y, Z, rm, m, rfl, _⟩ := h
    rfl
  · obtain ⟨x, y, Z, rm, m, rfl, R, Y, l1, l2, l3, res, hres, q1, q2⟩ := h
    have hr1 := hr.mono hk
    refine ⟨_, pss_cons (ps_set (i := 2) scProgram.nd rfl (Or.inl rfl) (pe_meth (pv 0) Dn.own.cl Dn.mLine Dn.line hr1 Dn.bLine .nil pass0 (pa_cons pe_int pa_nil)))
      (pss_cons (ps_set (i := 3) scProgram.nd rfl (Or.inl rfl) (pe_join pe_str (pv 2)))
      (pss_cons (ps_if (pt_cmpR op_notIn_seq (pv 3) (pe_glob (v := .ref pA) (by rfl) hP rfl) (by rfl)) (pss_one (ps_ret pe_bl)) pss_nil)
      (pss_cons (ps_expr (pe_meth (pv 0) Dn.own.cl Dn.mTake Dn.take hr1 Dn.bTake .nil pass0 (pa_cons pe_str (pa_cons (pv 2) pa_nil))))
      (pss_cons (ps_dput (u1 hr.units) (pe_fld (pv 1) rfl) (pv 3) (pe_call GC hr (by rfl) gC kC bC .nil pass0 (pa_cons (pv 0) (pa_cons pe_int (pa_cons pe_int (pa_cons pe_int pa_nil))))) rfl)
      (pss_one (ps_ret pe_bl)))))), ?_⟩
    unfold mProgram at hres
    refine seq_go (line_goC (depth := 4) R rfl (by decide) fun p H1 w1 e1 np s1 => ?_)
    have R1 := R.same s1
    have Y1 := Y.same s1
    have hn' := hj rm.length
    dsimp only
    refine seq_go ⟨⟨_, rfl⟩, _, rfl, _, p, _, rfl, rfl, .inl w1.1, hn', ?_⟩
    dsimp only
    have inn : inV (.str (Txt.join " " (lineWords ls rm.length 4))) (programNames.map V.str) = programNames.contains (Txt.join " " (lineWords ls rm.length 4)) := inV_str _ _
    refine seq_go (ifs_go (test_go (op_go ⟨_, rfl, pA, _, rfl, .inr (hPt H1), rfl, ?_, _, rfl, ite2 (fun c => ?_) fun c => ?_⟩)))
    · rw [List.all_map]
      exact List.all_eq_true.mpr fun _ _ => rfl
    · have c1 : ¬ programNames.contains (Txt.join " " (lineWords ls rm.length 4)) = true := by
        rw [← inn]
        simpa using c
      rw [if_neg c1] at hres
      cases hres
      refine ret_go ?_
      exact q1 rfl H1 s1.off R1 Y1
    · have c1 : programNames.contains (Txt.join " " (lineWords ls rm.length 4)) = true := by
        rw [← inn]
        simpa using c
      rw [if_pos c1] at hres
      have hn : rm.length < ls.length := line_there (k := 4) fun z => by
        rw [z] at c1
        exact absurd c1 (by decide +kernel)
      refine next_go ?_
      dsimp only
      refine seq_go (drop_go (take_go R1 rfl rfl (.inr ⟨by decide +kernel, e1, np⟩) hn fun H3 o3 R3 => ?_))
      have Y3 := Y1.off R1 o3
      cases h1 : mCommands (mCommand ls 2 6) 6 (rm.length + 1) with
      | none =>
        rw [h1] at hres
        cases hres
      | some out =>
        obtain ⟨cs, r⟩ := out
        rw [h1] at hres
        cases hres
        dsimp only
        refine seq_go ?_
        refine ⟨_, rfl, x, Z, _, 6, 6, rfl, R3, by decide, by decide, cs, r, by rw [List.length_append]; exact h1, fun a H4 o4 R4 p4 => ?_⟩
        have Y4 := Y3.off R3 o4
        obtain ⟨rs, hrs, hps⟩ := Y4.programs
        refine ⟨_, rfl, y.e, CE, y.ex, _, _, rfl, Y4.obj, O.cl, O.no _ (by decide), y.lk_programs, _, rfl, y.programs, _, rfl, DPut.k (k := .inr _) hrs ?_, ?_⟩
        · have := progs_len hps
          rw [sizeLine_eq]
          omega
        · dsimp only
          refine ret_go ?_
          have own := Y4.own y.programs (by simp [Ed.own])
          have R5 := R4.put (o := .dK (putK rs (.inr (Txt.join " " (lineWords ls rm.length 4))) (.ref a))) own.1 own.2 hrs fun xs z => by cases z
          rw [List.append_assoc] at R5
          refine q2 _ _ rfl _ (((s1.off.trans (o3.more fun a ha => List.mem_append_left _ ha)).trans (o4.more fun a ha => List.mem_append_left _ ha)).trans (off_upd (List.mem_append_right _ (by simp [Ed.own])))) R5 (Y4.prog l3 hrs p4)
end
end Sc

namespace Sc
open PySem L2 PySem.Spec PyProof.Rows Lm
theorem ExtN.tups {H H' : Hp} (s : LamX.ExtN H H') : Tups H H' := fun a xs e => s a _ e fun ps z => by cases z
theorem Ed.At.ext {y : Ed} {CE : Addr} {Z : List Addr} {x : Dr} {m : EdM} {H H' : Hp} (h : y.At CE Z x m H) (s : LamX.ExtN H H') : y.At CE Z x m H' := by
  obtain ⟨l1, e1, p1⟩ := h.lays
  obtain ⟨k1, e2, p2⟩ := h.programs
  have t := ExtN.tups s
  exact ⟨s _ _ h.obj (fun ps z => by cases z), s _ _ h.needs (fun ps z => by cases z), ⟨l1, s _ _ e1 (fun ps z => by cases z), p1.keep t⟩, ⟨k1, s _ _ e2 (fun ps z => by cases z), p2.keep t⟩, h.own, h.ne, h.nd, h.few⟩
/-! ### Edition() -/
abbrev sEdInit : Stmt := mth 47 0
theorem scEdInit : FnScope ["self"] ["self"] (defScope sEdInit) := ⟨rfl, rfl, rfl, by decide +kernel, rfl, by decide +kernel, by decide +kernel⟩
def spEdInit (CE : Addr) : Sp := fun vs H Q _ => ∃ e ex, vs = [.ref e] ∧ H e = some (.ins CE ex []) ∧ ∀ (n l p : Addr) (H' : Hp), Off [e] H H' → H n = none → H l = none → H p = none → n ≠ l → H' e = some (.ins CE ex (Ed.fields ⟨e, ex, n, l, p⟩)) → H' n = some (.lst []) → H' l = some (.lst []) → H' p = some (.dK []) → Q .non H'
section
variable {P : Program} {w : World} {K : PySem.W.Frag} {mg : Str → Option Value} {base : Heap} {CE : Addr}
theorem ok_edInit {f : Addr} {fd : FuncData} (G : Fun K "__init__" "Edition.__init__" sEdInit f fd) (O : Own K CE edNames) : FnOk P w K mg base CX0 1 f fd ["self"] (spEdInit CE) := by
  refine G.ok scEdInit (fun vs H Q E h => ?_) (fun cdv A outer s H vs Q E hr h => ?_)
  · obtain ⟨e, ex, rfl, _⟩ := h
    rfl
  · obtain ⟨e, ex, rfl, he, q⟩ := h
    refine ⟨_, pss_cons (ps_fld (pv 0) (pe_lst pa_nil) rfl) (pss_cons (ps_fld (pv 0) (pe_lst pa_nil) rfl) (pss_one (ps_fld (pv 0) pe_dnewK rfl))), ?_⟩
    have few : ∀ fs : List (Str × V), fs.length ≤ 3 → fs.length < 1000 := fun fs h => by omega
    refine seq_go ⟨by decide, fun n hn => ?_⟩
    have n1 : e ≠ n := ne_of_none he hn
    have g1 : (upd H n (.lst [])) e = some (.ins CE ex []) := (upd_ne n1).trans he
    refine ⟨_, rfl, e, CE, ex, [], rfl, g1, O.cl, O.no _ (by decide), few _ (by decide), ?_⟩
    dsimp only
    refine seq_go ⟨by decide, fun l hl => ?_⟩
    have hl0 : H l = none := by
      have h1 : upd (upd H n (.lst [])) e (.ins CE ex (putF "needs" (.ref n) [])) l = none := hl
      exact NdefX.upd_none (NdefX.upd_none h1)
    have n2 : e ≠ l := ne_of_none he hl0
    have n3 : n ≠ l := fun z => by
      rw [← z, upd_ne (Ne.symm n1), upd_same] at hl
      cases hl
    have g2 : (upd (upd (upd H n (.lst [])) e (.ins CE ex (putF "needs" (.ref n) []))) l (.lst [])) e = some (.ins CE ex (putF "needs" (.ref n) [])) := by
      rw [upd_ne n2, upd_same]
    refine ⟨_, rfl, e, CE, ex, _, rfl, g2, O.cl, O.no _ (by decide), few _ (by show 1 ≤ 3; decide), ?_⟩
    dsimp only
    intro p hp
    have hp0 : H p = none := NdefX.upd_none (NdefX.upd_none (NdefX.upd_none (NdefX.upd_none hp)))
    have n4 : e ≠ p := ne_of_none he hp0
    have g3 : ∀ o : HO, (upd (upd (upd (upd (upd H n (.lst [])) e (.ins CE ex (putF "needs" (.ref n) []))) l (.lst [])) e (.ins CE ex (putF "lays" (.ref l) (putF "needs" (.ref n) [])))) p o) e = some (.ins CE ex (putF "lays" (.ref l) (putF "needs" (.ref n) []))) := fun o => by
      rw [upd_ne n4, upd_same]
    have n5 : n ≠ p := fun z => by
      rw [← z, upd_ne (Ne.symm n1), upd_ne n3, upd_ne (Ne.symm n1), upd_same] at hp
      cases hp
    have n6 : l ≠ p := fun z => by
      rw [← z, upd_ne (Ne.symm n2), upd_same] at hp
      cases hp
    refine ⟨_, rfl, e, CE, ex, _, rfl, g3 _, O.cl, O.no _ (by decide), few _ (by show 2 ≤ 3; decide), ?_⟩
    dsimp only
    refine q n l p _ (fun a o na ha => ?_) hn hl0 hp0 n3 ?_ ?_ ?_ ?_
    · have m1 : a ≠ e := fun z => na (by rw [z]; exact List.mem_cons_self)
      rw [upd_ne m1, upd_ne (ne_of_none ha hp0), upd_ne m1, upd_ne (ne_of_none ha hl0), upd_ne m1, upd_ne (ne_of_none ha hn)]
      exact ha
    · rw [upd_same]
      rfl
    · rw [upd_ne (Ne.symm n1), upd_ne n5, upd_ne (Ne.symm n1), upd_ne n3, upd_ne (Ne.symm n1), upd_same]
    · rw [upd_ne (Ne.symm n2), upd_ne n6, upd_ne (Ne.symm n2), upd_same]
    · rw [upd_ne (Ne.symm n4), upd_same]
end
end Sc

namespace Sc
open PySem L2 PySem.Spec PyProof.Rows Lm
abbrev sEdition : Stmt := top 55
/-- the lambda that a statement g(lambda ..: .., ..) hands over -/
def lamP : Stmt → Arguments
  | .Expr (.Call _ (.Lambda p _ _ _ :: _) _ _) _ => p
  | _ => defArgs (.Pass ⟨0, 0, 0, 0⟩)
def lamB : Stmt → Expr
  | .Expr (.Call _ (.Lambda _ b _ _ :: _) _ _) _ => b
  | _ => .Name "" ⟨0, 0, 0, 0⟩
def lamS : Stmt → Scope
  | .Expr (.Call _ (.Lambda _ _ s _ :: _) _ _) _ => s
  | _ => defScope (.Pass ⟨0, 0, 0, 0⟩)
def edSt (i : Nat) : Stmt := (defBody sEdition).getD i (.Pass ⟨0, 0, 0, 0⟩)
theorem scEdition : FnScope ["draft", "package", "words", "edition"] ["draft", "package"] (defScope sEdition) := ⟨rfl, rfl, rfl, by decide +kernel, rfl, by decide +kernel, by decide +kernel⟩
theorem lamNeed : NdefX.NScope ["rest", "edition"] ["rest"] ["edition"] (lamS (edSt 4)) := NdefX.nscope_by (by decide +kernel)
theorem lamLaid : NdefX.NScope ["rest", "edition"] ["rest"] ["edition"] (lamS (edSt 5)) := NdefX.nscope_by (by decide +kernel)
theorem lamProg : NdefX.NScope ["rest", "edition"] ["rest"] ["edition"] (lamS (edSt 6)) := NdefX.nscope_by (by decide +kernel)
theorem capNeed : NdefX.ndefB (defScope sEdition) (lamS (edSt 4)) ["edition"] = true := by decide +kernel
theorem capLaid : NdefX.ndefB (defScope sEdition) (lamS (edSt 5)) ["edition"] = true := by decide +kernel
theorem capProg : NdefX.ndefB (defScope sEdition) (lamS (edSt 6)) ["edition"] = true := by decide +kernel
/-- the lambda's promise: the part's, its captured cell holding the edition -/
def spLam (sp : Sp) : List (Option V) → Sp := fun ws vs H Q E => ∃ r e, vs = [r] ∧ ws = [some e] ∧ sp [r, e] H Q E
section
variable {P : Program} {w : World} {K : PySem.W.Frag} {mg : Str → Option Value} {base : Heap} {C CE fL fT : Addr} {fdL fdT : FuncData}
theorem act_need {sp : Sp} {k : Nat} {fN : Addr} {fdN : FuncData} {q : Str} {cl : List (Str × Addr)} {f c' : Addr} {pm ctv : Value}
    (GN : FnOk P w K mg base CX0 k fN fdN ["draft", "edition"] sp) (gN : mg "read_need" = some (.ref fN)) (kN : PySem.W.keepIn K (.ref fN) = true) (bN : Binds K fdN ["draft", "edition"] []) :
    Act P w K mg base CX0 (k + 1) cl ["edition"] [(f, PySem.W.kla_obj "<lambda>" q (lamP (edSt 4)) (lamB (edSt 4)) (lamS (edSt 4)) cl pm c' ctv)] [(c', q)] f (spLam sp) := by
  refine act_lam lamNeed (fun us hl => ?_) (fun ws vs H Q E h => ?_) fun A outer s H vs ws Q E hr hw h => ?_
  · match us, hl with
    | [u], _ => rfl
  · obtain ⟨r, e, rfl, _⟩ := h
    rfl
  · obtain ⟨r, e, rfl, rfl, h⟩ := h
    refine ⟨_, pe_call (E := E) GN hr (by rfl) gN kN bN .nil pass0 (pa_cons (pv 0) (pa_cons (pv 1) pa_nil)), ?_⟩
    exact ⟨_, rfl, _, rfl, h⟩
theorem act_laid {sp : Sp} {k : Nat} {fN : Addr} {fdN : FuncData} {q : Str} {cl : List (Str × Addr)} {f c' : Addr} {pm ctv : Value}
    (GN : FnOk P w K mg base CX0 k fN fdN ["draft", "edition"] sp) (gN : mg "read_laid" = some (.ref fN)) (kN : PySem.W.keepIn K (.ref fN) = true) (bN : Binds K fdN ["draft", "edition"] []) :
    Act P w K mg base CX0 (k + 1) cl ["edition"] [(f, PySem.W.kla_obj "<lambda>" q (lamP (edSt 5)) (lamB (edSt 5)) (lamS (edSt 5)) cl pm c' ctv)] [(c', q)] f (spLam sp) := by
  refine act_lam lamLaid (fun us hl => ?_) (fun ws vs H Q E h => ?_) fun A outer s H vs ws Q E hr hw h => ?_
  · match us, hl with
    | [u], _ => rfl
  · obtain ⟨r, e, rfl, _⟩ := h
    rfl
  · obtain ⟨r, e, rfl, rfl, h⟩ := h
    refine ⟨_, pe_call (E := E) GN hr (by rfl) gN kN bN .nil pass0 (pa_cons (pv 0) (pa_cons (pv 1) pa_nil)), ?_⟩
    exact ⟨_, rfl, _, rfl, h⟩
theorem act_program {sp : Sp} {k : Nat} {fN : Addr} {fdN : FuncData} {q : Str} {cl : List (Str × Addr)} {f c' : Addr} {pm ctv : Value}
    (GN : FnOk P w K mg base CX0 k fN fdN ["draft", "edition"] sp) (gN : mg "read_program" = some (.ref fN)) (kN : PySem.W.keepIn K (.ref fN) = true) (bN : Binds K fdN ["draft", "edition"] []) :
    Act P w K mg base CX0 (k + 1) cl ["edition"] [(f, PySem.W.kla_obj "<lambda>" q (lamP (edSt 6)) (lamB (edSt 6)) (lamS (edSt 6)) cl pm c' ctv)] [(c', q)] f (spLam sp) := by
  refine act_lam lamProg (fun us hl => ?_) (fun ws vs H Q E h => ?_) fun A outer s H vs ws Q E hr hw h => ?_
  · match us, hl with
    | [u], _ => rfl
  · obtain ⟨r, e, rfl, _⟩ := h
    rfl
  · obtain ⟨r, e, rfl, rfl, h⟩ := h
    refine ⟨_, pe_call (E := E) GN hr (by rfl) gN kN bN .nil pass0 (pa_cons (pv 0) (pa_cons (pv 1) pa_nil)), ?_⟩
    exact ⟨_, rfl, _, rfl, h⟩
end
end Sc

namespace Sc
open PySem L2 PySem.Spec PyProof.Rows Lm
/-- a def by its body, its code object known -/
theorem okC {P : Program} {w : World} {K : PySem.W.Frag} {mg : Str → Option Value} {base : Heap} {x qual : Str} {st : Stmt} {f : Addr} {fd : FuncData} {N ps : List Str} {k : Nat} {sp : Sp} (F : Fun K x qual st f fd) (S : FnScope N ps (defScope st)) (len : ∀ vs H Q E, sp vs H Q E → vs.length = ps.length)
    (hbody : ∀ (A : Around) (outer : List Env) (s : Shared) (H : Hp) (vs : List V) (Q : VK) (E : XK), Room k (A.deeper (envOfC qual (defScope st) s.heap.objs.size f fd.code)) → sp vs H Q E →
      ∃ t, PSs (cxOf CX0 P w K mg base N qual (defScope st) f fd.code A outer s H E).nox (defBody st) t ∧ t { nx := fun _ H' => Q .non H', rt := Q } (start N vs) H) : FnOk P w K mg base CX0 (k + 1) f fd ps sp := by
  obtain ⟨oc, od, kV, doc, pm, an, cdv, ct, osl, rfl, lk, hcd⟩ := F.ex
  refine fn_of lk hcd S len fun A outer s H vs Q E hr hsp => ?_
  obtain ⟨t, h, q⟩ := hbody A outer s H vs Q E hr hsp
  exact ⟨t, h.nox, q⟩
section
variable {P : Program} {w : World} {K : PySem.W.Frag} {mg : Str → Option Value} {base : Heap} {C CE fL fT : Addr} {fdL fdT : FuncData}
theorem try_edition {ls : List Str} {k : Nat} {f fN fS c Pt : Addr} {fd fdN fdS : FuncData} {T : List (Addr × Str)} (hk : 1 ≤ k) (G : Fun K "read_edition" "read_edition" sEdition f fd)
    (GS : Fun K "read_several" "read_several" sSeveral fS fdS) (bS : Binds K fdS ["read", "draft", "least", "most"] []) (gS : mg "read_several" = some (.ref fS)) (kS : PySem.W.keepIn K (.ref fS) = true)
    (GN : FnOk P w K mg base CX0 k fN fdN ["draft", "edition"] (spPart C CE ls fun n m => some (mNeed ls n m))) (gN : mg "read_need" = some (.ref fN)) (kN : PySem.W.keepIn K (.ref fN) = true) (bN : Binds K fdN ["draft", "edition"] [])
    (TB : LamX.TabB base mg c Pt) (hc : fd.code = .ref c) (hT : (Pt, ("read_edition.<locals>.<lambda>" : Str)) ∈ T) (hu : ∀ r ∈ T, r.1 = Pt → r.2 = ("read_edition.<locals>.<lambda>" : Str))
    (A : Around) (outer : List Env) (s : Shared) (H : Hp) (E : XK) (hr : Room (k + 2) (A.deeper (envOfC "read_edition" (defScope sEdition) s.heap.objs.size f fd.code))) :
    ∃ t, PS (cxOf CX0 P w K mg base ["draft", "package", "words", "edition"] "read_edition" (defScope sEdition) f fd.code A outer s H E).nox (edSt 4) t := by
  refine ⟨_, ps_expr (pe_led (fr := ["edition"]) (js := [3]) (fun f' c' pm ctv => led_several GS bS (act_need GN gN kN bN)) hr (Nat.le_refl _) pass0 (by rfl) gS kS TB hc hT hu (fun y => rfl)
    (fun ok => NdefX.Caps.made ok (NdefX.ndef_free capNeed) (NdefX.ndef_fr capNeed) rfl) (fun ok y hy e => ?_) rfl (pa_cons (pv 0) (pa_cons pe_int (pa_cons pe_int pa_nil))))⟩
  exact (NdefX.ndef_free capNeed y hy e).elim (fun z => ok.has _ (.inl z)) fun z => ok.has _ (.inr z)
end
end Sc

namespace Sc
open PySem L2 PySem.Spec PyProof.Rows Lm
/-- a thing of the kinds that the reading changes -/
def Chg (o : HO) : Prop := (∃ xs, o = .lst xs) ∨ (∃ ks, o = .dK ks) ∨ ∃ C dx fs, o = .ins C dx fs
def Mutes (F : List Addr) (H : Hp) : Prop := ∀ a ∈ F, ∃ o, H a = some o ∧ Chg o
theorem Mutes.not {F : List Addr} {H : Hp} {a : Addr} {o : HO} (m : Mutes F H) (e : H a = some o) (n : ¬ Chg o) : a ∉ F := fun z => by
  obtain ⟨u, e2, c⟩ := m a z
  rw [e] at e2
  cases e2
  exact n c
theorem no_tbl (ps : Array Value) : ¬ Chg (.tbl ps) := fun h => by
  rcases h with ⟨_, h⟩ | ⟨_, h⟩ | ⟨_, _, _, h⟩ <;> cases h
theorem no_ext (φ : Heap → Prop) : ¬ Chg (.ext φ) := fun h => by
  rcases h with ⟨_, h⟩ | ⟨_, h⟩ | ⟨_, _, _, h⟩ <;> cases h
theorem Tabs.off {T : List (Addr × Str)} {F : List Addr} {H H' : Hp} (t : LamX.Tabs T H) (m : Mutes F H) (o : Off F H H') : LamX.Tabs T H' := fun p hp => by
  obtain ⟨ps, h1, h2, h3⟩ := t p hp
  refine ⟨ps, o _ _ (m.not h1 (no_tbl ps)) h1, h2, fun pos cv hc => ?_⟩
  obtain ⟨c, e1, e2⟩ := h3 pos cv hc
  refine ⟨c, e1, o _ _ (m.not e2 ?_) e2⟩
  unfold LamX.CodeO
  exact no_ext _
theorem code_off {F : List Addr} {H H' : Hp} {c : Addr} {q : Str} (e : H c = some (LamX.CodeO c q)) (m : Mutes F H) (o : Off F H H') : H' c = some (LamX.CodeO c q) := o _ _ (m.not e (by
  unfold LamX.CodeO
  exact no_ext _)) e
/-- what an edition's reading changes -/
theorem Ed.At.mutes {y : Ed} {CE : Addr} {Z : List Addr} {x : Dr} {C : Addr} {ls : List Str} {rm : List Row} {m : EdM} {H : Hp} (h : y.At CE Z x m H) (R : Rd Z x C ls rm H) : Mutes (x.two ++ y.own) H := fun a ha => by
  obtain ⟨rs, hrs, _⟩ := R.rows
  obtain ⟨l1, e1, _⟩ := h.lays
  obtain ⟨k1, e2, _⟩ := h.programs
  have ha : a = x.d ∨ a = x.rows ∨ a = y.needs ∨ a = y.lays ∨ a = y.programs := by simpa [Ed.own] using ha
  rcases ha with rfl | rfl | rfl | rfl | rfl
  · exact ⟨_, R.at_.obj, .inr (.inr ⟨_, _, _, rfl⟩)⟩
  · exact ⟨_, hrs, .inl ⟨_, rfl⟩⟩
  · exact ⟨_, h.needs, .inl ⟨_, rfl⟩⟩
  · exact ⟨_, e1, .inl ⟨_, rfl⟩⟩
  · exact ⟨_, e2, .inr (.inl ⟨_, rfl⟩)⟩
abbrev RdPart := Nat → EdM → Option (Option (EdM × List Row))
/-- a part's reading again and again -/
def mSeveral (rd : RdPart) : Nat → Nat → EdM → Option (EdM × List Row)
  | 0, _, m => some (m, [])
  | k + 1, n, m => match rd n m with
    | none => none
    | some none => some (m, [])
    | some (some (m2, r)) => match mSeveral rd k (n + r.length) m2 with
      | none => none
      | some (m3, r2) => some (m3, r ++ r2)
def size (m : EdM) (k : Nat) : Prop := m.needs.length ≤ k ∧ m.lays.length ≤ k ∧ m.programs.length ≤ k
def Grows (rd : RdPart) : Prop := ∀ n m m2 r k, rd n m = some (some (m2, r)) → size m k → size m2 (k + 1)
/-- all but F and tables -/
def OffN (F : List Addr) (H H' : Hp) : Prop := ∀ a o, a ∉ F → H a = some o → (∀ ps, o ≠ .tbl ps) → H' a = some o
theorem Off.n {F : List Addr} {H H' : Hp} (o : Off F H H') : OffN F H H' := fun a u n e _ => o a u n e
theorem ExtN.n {F : List Addr} {H H' : Hp} (s : LamX.ExtN H H') : OffN F H H' := fun a u _ e t => s a u e t
theorem OffN.trans {F : List Addr} {H H1 H2 : Hp} (a : OffN F H H1) (b : OffN F H1 H2) : OffN F H H2 := fun c o n e t => b c o n (a c o n e t) t
/-- read_several(lambda rest: .., draft, 0, most) in the def that reads an edition -/
theorem several_go {T : List (Addr × Str)} {q : Str} {C CE : Addr} {ls : List Str} {rd : RdPart} {most j : Nat} {x : Dr} {y : Ed} {Z : List Addr} {rm r : List Row} {m m' : EdM} {v2 v3 : V} {H : Hp} {Q : VK} (gr : Grows rd) (hT : LamX.Tabs T H) (R : Rd Z x C ls rm H) (Y : y.At CE Z x m H) (sm : size m j) (hj : j + most < 50)
    (hres : mSeveral rd most rm.length m = some (m', r)) (k : ∀ H', OffN (x.two ++ y.own) H H' → Rd Z x C ls (rm ++ r) H' → y.At CE Z x m' H' → LamX.Tabs T H' → size m' (j + most) → Q .non H') :
    tLed T q [3] (fun f c' => spSeveral [(c', q)] f (spLam (spPart C CE ls rd))) E0 (tCons (tVar 0) (tCons (tC (.int (0 : Nat))) (tCons (tC (.int (most : Nat))) tNil))) [some (.ref x.d), some v2, some v3, some (.ref y.e)] H Q := by
  refine ⟨hT, fun f c' H1 e1 T1 hf hc => ⟨_, rfl, hc, x.d, 0, most, rfl, ?_⟩⟩
  refine ⟨fun n H2 => ∃ (mn : EdM) (r0 : List Row) (r1 : List Row), OffN (x.two ++ y.own) H H2 ∧ Rd Z x C ls (rm ++ r0) H2 ∧ y.At CE Z x mn H2 ∧ LamX.Tabs T H2 ∧ H2 c' = some (LamX.CodeO c' q) ∧ size mn (j + n) ∧ n ≤ most ∧ mSeveral rd (most - n) (rm.length + r0.length) mn = some (m', r1) ∧ r = r0 ++ r1,
    ⟨m, [], r, ExtN.n e1, by rw [List.append_nil]; exact R.ext e1, Y.ext e1, T1, hc, sm, Nat.zero_le _, hres, rfl⟩, ?_, ?_⟩
  · rintro n H2 lt ⟨mn, r0, r1, o2, R2, Y2, T2, hc2, s2, hn, hr2, er⟩
    refine ⟨fun p hp => by rw [List.mem_singleton.mp hp]; exact hc2, fun W kt kf => ?_⟩
    have e : most - n = (most - (n + 1)) + 1 := by omega
    rw [e] at hr2
    unfold mSeveral at hr2
    have en : (rm ++ r0).length = rm.length + r0.length := List.length_append
    have mu := Y2.mutes R2
    cases hrd : rd (rm.length + r0.length) mn with
    | none =>
      rw [hrd] at hr2
      cases hr2
    | some res =>
      rw [hrd] at hr2
      refine ⟨_, _, rfl, rfl, x, y, Z, rm ++ r0, mn, rfl, R2, Y2, by have := s2.1; omega, by have := s2.2.1; omega, by have := s2.2.2; omega, res, by rw [en]; exact hrd, fun er0 H3 o3 R3 Y3 => ?_, fun m2 rr er0 H3 o3 R3 Y3 => ?_⟩
      · subst er0
        cases hr2
        rw [List.append_nil] at er
        subst er
        exact kf H3 (Nat.zero_le _) (k H3 (o2.trans o3.n) R3 Y3 (Tabs.off T2 mu o3) ⟨by have := s2.1; omega, by have := s2.2.1; omega, by have := s2.2.2; omega⟩)
      · subst er0
        dsimp only at hr2
        cases hrest : mSeveral rd (most - (n + 1)) (rm.length + r0.length + rr.length) m2 with
        | none =>
          rw [hrest] at hr2
          cases hr2
        | some out =>
          rw [hrest] at hr2
          obtain ⟨m3, r3⟩ := out
          cases hr2
          refine kt H3 ⟨m2, r0 ++ rr, r3, o2.trans o3.n, by rw [← List.append_assoc]; exact R3, Y3, Tabs.off T2 mu o3, code_off hc2 mu o3, gr _ _ _ _ _ hrd s2, lt, ?_, by rw [er, List.append_assoc]⟩
          rw [List.length_append, ← Nat.add_assoc]
          exact hrest
  · rintro H2 ⟨mn, r0, r1, o2, R2, Y2, T2, hc2, s2, hn, hr2, er⟩
    rw [Nat.sub_self] at hr2
    unfold mSeveral at hr2
    cases hr2
    rw [List.append_nil] at er
    subst er
    exact ⟨Nat.zero_le _, k H2 o2 R2 Y2 T2 s2⟩
end Sc

namespace Sc
open PySem L2 PySem.Spec PyProof.Rows Lm
/-! ### a package -/
structure Pk where
  p : Addr
  px : Addr
  eds : Addr
  ats : Addr
structure PkM where
  eds : List EdM
  ats : List (Str × List Cmd)
def Pk.fields (g : Pk) : List (Str × V) := [("editions", .ref g.eds), ("at_programs", .ref g.ats)]
def pkNames : List Str := ["editions", "at_programs"]
theorem Pk.lk_eds (g : Pk) : g.fields.lookup ("editions" : Str) = some (V.ref g.eds) := by rfl
theorem Pk.lk_ats (g : Pk) : g.fields.lookup ("at_programs" : Str) = some (V.ref g.ats) := by rfl
/-- an edition that was read: none of its things is in Z -/
def EdDone (CE : Addr) (Z : List Addr) (H : Hp) (r : V) (m : EdM) : Prop := ∃ y : Ed, r = .ref y.e ∧ H y.e = some (.ins CE y.ex y.fields) ∧ H y.needs = some (.lst (m.needs.map V.str)) ∧ (∃ ls, H y.lays = some (.lst ls) ∧ PairsAt H ls m.lays) ∧ (∃ ks, H y.programs = some (.dK ks) ∧ ProgsAt H ks m.programs) ∧ ∀ a, a = y.e ∨ a ∈ y.own → a ∉ Z
def EdsAt (CE : Addr) (Z : List Addr) (H : Hp) : List V → List EdM → Prop
  | [], [] => True
  | r :: rs, m :: ms => EdDone CE Z H r m ∧ EdsAt CE Z H rs ms
  | [], _ :: _ => False
  | _ :: _, [] => False
theorem OffN.tups {F : List Addr} {H H' : Hp} (o : OffN F H H') (m : Mutes F H) : Tups H H' := fun a xs e => o a _ (m.not e fun h => by
  rcases h with ⟨_, h⟩ | ⟨_, h⟩ | ⟨_, _, _, h⟩ <;> cases h) e fun ps z => by cases z
theorem EdDone.off {CE : Addr} {Z F : List Addr} {H H' : Hp} {r : V} {m : EdM} (h : EdDone CE Z H r m) (mu : Mutes F H) (f : ∀ a ∈ F, a ∈ Z) (o : OffN F H H') : EdDone CE Z H' r m := by
  obtain ⟨y, e, h1, h2, ⟨l1, h3, p3⟩, ⟨k1, h4, p4⟩, n⟩ := h
  have t := OffN.tups o mu
  have nf : ∀ a, a = y.e ∨ a ∈ y.own → a ∉ F := fun a ha z => n a ha (f a z)
  exact ⟨y, e, o _ _ (nf _ (.inl rfl)) h1 (fun ps z => by cases z), o _ _ (nf _ (.inr (by simp [Ed.own]))) h2 (fun ps z => by cases z), ⟨l1, o _ _ (nf _ (.inr (by simp [Ed.own]))) h3 (fun ps z => by cases z), p3.keep t⟩, ⟨k1, o _ _ (nf _ (.inr (by simp [Ed.own]))) h4 (fun ps z => by cases z), p4.keep t⟩, n⟩
theorem EdsAt.off {CE : Addr} {Z F : List Addr} {H H' : Hp} (mu : Mutes F H) (f : ∀ a ∈ F, a ∈ Z) (o : OffN F H H') : ∀ {rs : List V} {ms : List EdM}, EdsAt CE Z H rs ms → EdsAt CE Z H' rs ms
  | [], [], _ => True.intro
  | _ :: _, _ :: _, ⟨a, b⟩ => ⟨a.off mu f o, EdsAt.off mu f o b⟩
  | [], _ :: _, h => h
  | _ :: _, [], h => h
theorem EdsAt.sub {CE : Addr} {Z Y : List Addr} {H : Hp} (n : ∀ a, (∃ o, H a = some o) → a ∉ Z → a ∉ Y) : ∀ {rs : List V} {ms : List EdM}, EdsAt CE Z H rs ms → EdsAt CE Y H rs ms
  | [], [], _ => True.intro
  | _ :: _, _ :: _, ⟨⟨y, e, h1, h2, ⟨l1, h3, p3⟩, ⟨k1, h4, p4⟩, nz⟩, b⟩ => ⟨⟨y, e, h1, h2, ⟨l1, h3, p3⟩, ⟨k1, h4, p4⟩, fun a ha => n a (by
      rcases ha with rfl | ha
      · exact ⟨_, h1⟩
      · have ha : a = y.needs ∨ a = y.lays ∨ a = y.programs := by simpa [Ed.own] using ha
        rcases ha with rfl | rfl | rfl
        · exact ⟨_, h2⟩
        · exact ⟨_, h3⟩
        · exact ⟨_, h4⟩) (nz a ha)⟩, EdsAt.sub n b⟩
  | [], _ :: _, h => h
  | _ :: _, [], h => h
theorem EdsAt.snoc {CE : Addr} {Z : List Addr} {H : Hp} {r : V} {m : EdM} (h : EdDone CE Z H r m) : ∀ {rs : List V} {ms : List EdM}, EdsAt CE Z H rs ms → EdsAt CE Z H (rs ++ [r]) (ms ++ [m])
  | [], [], _ => ⟨h, True.intro⟩
  | _ :: _, _ :: _, ⟨a, b⟩ => ⟨a, EdsAt.snoc h b⟩
  | [], _ :: _, z => z.elim
  | _ :: _, [], z => z.elim
theorem EdsAt.len {CE : Addr} {Z : List Addr} {H : Hp} : ∀ {rs : List V} {ms : List EdM}, EdsAt CE Z H rs ms → rs.length = ms.length
  | [], [], _ => rfl
  | _ :: _, _ :: _, ⟨_, b⟩ => by rw [List.length_cons, List.length_cons, EdsAt.len b]
  | [], _ :: _, h => h.elim
  | _ :: _, [], h => h.elim
structure Pk.At (g : Pk) (CP CE : Addr) (Z : List Addr) (x : Dr) (m : PkM) (H : Hp) : Prop where
  obj : H g.p = some (.ins CP g.px g.fields)
  eds : ∃ es, H g.eds = some (.lst es) ∧ EdsAt CE Z H es m.eds
  ats : ∃ ks, H g.ats = some (.dK ks) ∧ ProgsAt H ks m.ats
  own : (g.eds ∈ Z ∧ g.eds ∉ x.own) ∧ g.ats ∈ Z ∧ g.ats ∉ x.own
  np : g.p ∉ Z
/-- other things of Z are changed -/
theorem Pk.At.off {g : Pk} {CP CE : Addr} {Z F : List Addr} {x : Dr} {m : PkM} {H H' : Hp} (h : g.At CP CE Z x m H) (mu : Mutes F H) (f : ∀ a ∈ F, a ∈ Z) (o : OffN F H H') (n1 : g.eds ∉ F) (n2 : g.ats ∉ F) : g.At CP CE Z x m H' := by
  obtain ⟨es, e1, p1⟩ := h.eds
  obtain ⟨ks, e2, p2⟩ := h.ats
  exact ⟨o _ _ (fun z => h.np (f _ z)) h.obj (fun ps z => by cases z), ⟨es, o _ _ n1 e1 (fun ps z => by cases z), p1.off mu f o⟩, ⟨ks, o _ _ n2 e2 (fun ps z => by cases z), p2.keep (OffN.tups o mu)⟩, h.own, h.np⟩
/-- all but tables stay -/
theorem Pk.At.ext {g : Pk} {CP CE : Addr} {Z : List Addr} {x : Dr} {m : PkM} {H H' : Hp} (h : g.At CP CE Z x m H) (s : LamX.ExtN H H') : g.At CP CE Z x m H' :=
  h.off (F := []) (fun a ha => nomatch ha) (fun a ha => nomatch ha) (fun a u _ e t => s a u e t) (fun z => nomatch z) fun z => nomatch z
theorem strOk_string (s : String) : PyData.strOk (Str.ofString s) = true := by
  rw [strOk_iff, Str.ofString_eq_toList]
  intro c hc
  have hc : c ∈ s.toList.map Char.toNat := by simpa using hc
  obtain ⟨ch, _, rfl⟩ := List.mem_map.mp hc
  rcases ch.valid with h | h
  · have : ch.toNat < 0xd800 := h
    omega
  · exact h.2
theorem log_small {i : Nat} (h : i < 60) : ((i : Int) + 1).natAbs.log2 < 1920 := by
  have e : ((i : Int) + 1).natAbs = i + 1 := by omega
  rw [e, Nat.log2_lt (by omega)]
  have h2 : i + 1 < 2 ^ 6 := by omega
  exact Nat.lt_of_lt_of_le h2 (Nat.pow_le_pow_right (by decide) (by decide))
theorem Rd.mutes {Z : List Addr} {x : Dr} {C : Addr} {ls : List Str} {rm : List Row} {H : Hp} (R : Rd Z x C ls rm H) : Mutes x.two H := fun a ha => by
  obtain ⟨rs, hrs, _⟩ := R.rows
  have ha : a = x.d ∨ a = x.rows := by simpa using ha
  rcases ha with rfl | rfl
  · exact ⟨_, R.at_.obj, .inr (.inr ⟨_, _, _, rfl⟩)⟩
  · exact ⟨_, hrs, .inl ⟨_, rfl⟩⟩
theorem Rd.twoZ {Z : List Addr} {x : Dr} {C : Addr} {ls : List Str} {rm : List Row} {H : Hp} (R : Rd Z x C ls rm H) : ∀ a ∈ x.two, a ∈ Z := fun a ha => R.own a (by
  have ha : a = x.d ∨ a = x.rows := by simpa using ha
  rcases ha with rfl | rfl <;> simp [Dr.own])
theorem two_own {x : Dr} {a : Addr} (n : a ∉ x.own) : a ∉ x.two := fun ha => n (by
  have ha : a = x.d ∨ a = x.rows := by simpa using ha
  rcases ha with rfl | rfl <;> simp [Dr.own])
/-- Z grows by things made since -/
theorem Rd.grow {Z N : List Addr} {x : Dr} {C : Addr} {ls : List Str} {rm : List Row} {H H' : Hp} (R : Rd Z x C ls rm H) (s : Same H H') (f : ∀ a ∈ N, H a = none) (t : ∀ a ∈ N, ∃ o, H' a = some o ∧ ∀ ps, o ≠ .tbl ps) : Rd (N ++ Z) x C ls rm H' := by
  have R1 := R.same s
  obtain ⟨rs, hrs, hr⟩ := R.rows
  have h1 : RowsAt (N ++ Z) H rs rm := hr.more fun a ha nz => (List.mem_append.mp ha).elim (f a) fun z => absurd z nz
  refine ⟨R1.at_, ⟨rs, s _ _ hrs, h1.ext s.ext⟩, fun a ha => List.mem_append_right _ (R.own a ha), fun a ha => (List.mem_append.mp ha).elim (t a) (R1.there a), fun z => (List.mem_append.mp z).elim (fun z => ?_) R.lines⟩
  have e := R.at_.lines
  rw [f _ z] at e
  cases e
theorem Pk.At.grow {g : Pk} {CP CE : Addr} {Z N : List Addr} {x : Dr} {m : PkM} {H H' : Hp} (h : g.At CP CE Z x m H) (s : Same H H') (f : ∀ a ∈ N, H a = none) : g.At CP CE (N ++ Z) x m H' := by
  have n : ∀ a, (∃ o, H a = some o) → a ∉ Z → a ∉ N ++ Z := fun a ⟨o, e⟩ nz z => (List.mem_append.mp z).elim (fun y => by
    rw [f a y] at e
    cases e) nz
  obtain ⟨es, e1, p1⟩ := h.eds
  have h2 : g.At CP CE (N ++ Z) x m H := ⟨h.obj, ⟨es, e1, p1.sub n⟩, h.ats, ⟨⟨List.mem_append_right _ h.own.1.1, h.own.1.2⟩, List.mem_append_right _ h.own.2.1, h.own.2.2⟩, n _ ⟨_, h.obj⟩ h.np⟩
  exact h2.ext s.ext
end Sc

namespace Sc
open PySem L2 PySem.Spec PyProof.Rows Lm
/-! ### read_edition -/
abbrev edWord (k : Nat) : Str := Str.ofString (toString ((k : Int) + 1))
def mEdition (ls : List Str) (n k : Nat) : Option (Option (EdM × List Row)) := if (lineWords ls n 2 == [("edition" : Str), edWord k]) = true then
    match mSeveral (fun n m => some (mNeed ls n m)) 2 (n + 1) ⟨[], [], []⟩ with
    | none => none
    | some (m1, r1) => match mSeveral (fun n m => some (mLaid ls n m)) 3 (n + 1 + r1.length) m1 with
      | none => none
      | some (m2, r2) => match mSeveral (mProgram ls) 8 (n + 1 + r1.length + r2.length) m2 with
        | none => none
        | some (m3, r3) => some (some (m3, ⟨"edition", lineWords ls n 2⟩ :: (r1 ++ (r2 ++ r3))))
  else some none
theorem grows_need (ls : List Str) : Grows fun n m => some (mNeed ls n m) := fun n m m2 r k h s => by
  have h := Option.some.inj h
  unfold mNeed at h
  split at h
  · cases h
    refine ⟨?_, Nat.le_succ_of_le s.2.1, Nat.le_succ_of_le s.2.2⟩
    show (m.needs ++ _).length ≤ _
    rw [List.length_append, List.length_singleton]
    have := s.1
    omega
  · cases h
theorem grows_laid (ls : List Str) : Grows fun n m => some (mLaid ls n m) := fun n m m2 r k h s => by
  have h := Option.some.inj h
  unfold mLaid at h
  split at h
  · cases h
    refine ⟨Nat.le_succ_of_le s.1, ?_, Nat.le_succ_of_le s.2.2⟩
    show (m.lays ++ _).length ≤ _
    rw [List.length_append, List.length_singleton]
    have := s.2.1
    omega
  · cases h
theorem grows_program (ls : List Str) : Grows (mProgram ls) := fun n m m2 r k h s => by
  unfold mProgram at h
  split at h
  · split at h
    · cases h
    · cases h
      refine ⟨Nat.le_succ_of_le s.1, Nat.le_succ_of_le s.2.1, ?_⟩
      have := putP_len m.programs (Txt.join " " (lineWords ls n 4)) (by assumption)
      have := s.2.2
      show (putP m.programs _ _).length ≤ _
      omega
  · cases h
abbrev EdF (x : Dr) (g : Pk) : List Addr := x.two ++ [g.eds]
def spEdition (TT : List (Addr × Str)) (C CP CE : Addr) (ls : List Str) : Sp := fun vs H Q _ => ∃ (x : Dr) (g : Pk) (Z : List Addr) (rm : List Row) (m : PkM), vs = [.ref x.d, .ref g.p] ∧ Rd Z x C ls rm H ∧ g.At CP CE Z x m H ∧ LamX.Tabs TT H ∧ m.eds.length < 50 ∧
  ∃ res, mEdition ls rm.length m.eds.length = some res ∧ (res = none → ∀ H', OffN (EdF x g) H H' → Rd Z x C ls rm H' → g.At CP CE Z x m H' → LamX.Tabs TT H' → Q (.bl false) H') ∧
    ∀ em r2, res = some (em, r2) → ∀ H', OffN (EdF x g) H H' → Rd Z x C ls (rm ++ r2) H' → g.At CP CE Z x ⟨m.eds ++ [em], m.ats⟩ H' → LamX.Tabs TT H' → Q (.bl true) H'
section
variable {P : Program} {w : World} {K : PySem.W.Frag} {mg : Str → Option Value} {base : Heap} {C CP CE fL fT : Addr} {fdL fdT : FuncData}
theorem ok_edition {ls : List Str} {k : Nat} {f fN fY fP fS fI c Pt : Addr} {fd fdN fdY fdP fdS fdI : FuncData} {TT : List (Addr × Str)} (hk : 1 ≤ k) (G : Fun K "read_edition" "read_edition" sEdition f fd) (T : NatR mg) (Dn : DrFns P w K mg base C fL fT fdL fdT) (OP : Own K CP pkNames)
    (GS : Fun K "read_several" "read_several" sSeveral fS fdS) (bS : Binds K fdS ["read", "draft", "least", "most"] []) (gS : mg "read_several" = some (.ref fS)) (kS : PySem.W.keepIn K (.ref fS) = true)
    (GN : FnOk P w K mg base CX0 k fN fdN ["draft", "edition"] (spPart C CE ls fun n m => some (mNeed ls n m))) (gN : mg "read_need" = some (.ref fN)) (kN : PySem.W.keepIn K (.ref fN) = true) (bN : Binds K fdN ["draft", "edition"] [])
    (GY : FnOk P w K mg base CX0 k fY fdY ["draft", "edition"] (spPart C CE ls fun n m => some (mLaid ls n m))) (gY : mg "read_laid" = some (.ref fY)) (kY : PySem.W.keepIn K (.ref fY) = true) (bY : Binds K fdY ["draft", "edition"] [])
    (GP : FnOk P w K mg base CX0 k fP fdP ["draft", "edition"] (spPart C CE ls (mProgram ls))) (gP : mg "read_program" = some (.ref fP)) (kP : PySem.W.keepIn K (.ref fP) = true) (bP : Binds K fdP ["draft", "edition"] [])
    (MK : Mk K CE fI) (GI : FnOk P w K mg base CX0 1 fI fdI ["self"] (spEdInit CE)) (gE : mg "Edition" = some (.ref CE)) (bI : Binds K fdI ["self"] [])
    (TB : LamX.TabB base mg c Pt) (hc : fd.code = .ref c) (hT : (Pt, ("read_edition.<locals>.<lambda>" : Str)) ∈ TT) (hu : ∀ r ∈ TT, r.1 = Pt → r.2 = ("read_edition.<locals>.<lambda>" : Str)) :
    FnOk P w K mg base CX0 (k + 3) f fd ["draft", "package"] (spEdition TT C CP CE ls) := by
  refine okC G scEdition (fun vs H Q E h => ?_) (fun A outer s H vs Q E hr h => ?_)
  · obtain ⟨x, g, Z, rm, m, rfl, _⟩ := h
    rfl
  · obtain ⟨x, g, Z, rm, m, rfl, R, GA, tab, l1, res, hres, q1, q2⟩ := h
    have hr1 := hr.mono (show 1 ≤ k + 2 by omega)
    have hr2 := hr.mono (show 1 + 1 ≤ k + 2 by omega)
    have fr : ∀ {sc : Scope}, NdefX.ndefB (defScope sEdition) sc ["edition"] = true → (cxOf CX0 P w K mg base ["draft", "package", "words", "edition"] "read_edition" (defScope sEdition) f fd.code A outer s H E).nox.Ok → ∀ y ∈ sc.names, y.2 = .free → ∃ c, (cxOf CX0 P w K mg base ["draft", "package", "words", "edition"] "read_edition" (defScope sEdition) f fd.code A outer s H E).nox.env.cells.lookup y.1 = some c := fun b ok y hy e =>
      (NdefX.ndef_free b y hy e).elim (fun z => ok.has _ (.inl z)) fun z => ok.has _ (.inr z)
    refine ⟨_, pss_cons (ps_set (i := 2) scEdition.nd rfl (Or.inl rfl) (pe_meth (pv 0) Dn.own.cl Dn.mLine Dn.line hr1 Dn.bLine .nil pass0 (pa_cons pe_int pa_nil)))
      (pss_cons (ps_if (pt_cmpR (op_neD hr.units) (pv 2) (pe_lst (pa_cons pe_str (pa_cons (pe_callTy call_str_int (by rfl) T.str (by decide +kernel) (pa_cons (pe_op op_add (pe_callB call_len_seq (by rfl) T.len PySem.boot_len (pa_cons (pe_fld (pv 1) rfl) pa_nil)) pe_int) pa_nil)) pa_nil))) (nomark _)) (pss_one (ps_ret pe_bl)) pss_nil)
      (pss_cons (ps_expr (pe_meth (pv 0) Dn.own.cl Dn.mTake Dn.take hr1 Dn.bTake .nil pass0 (pa_cons pe_str (pa_cons (pv 2) pa_nil))))
      (pss_cons (ps_set (i := 3) scEdition.nd rfl (Or.inr rfl) (pe_make0 MK GI hr2 (by rfl) gE bI .nil pass0))
      (pss_cons (ps_expr (pe_led (T := TT) (fr := ["edition"]) (js := [3]) (fun f' c' pm ctv => led_several GS bS (act_need GN gN kN bN)) hr (Nat.le_refl _) pass0 (by rfl) gS kS TB hc hT hu (fun y => rfl) (fun ok => NdefX.Caps.made ok (NdefX.ndef_free capNeed) (NdefX.ndef_fr capNeed) rfl) (fr capNeed) rfl (pa_cons (pv 0) (pa_cons pe_int (pa_cons pe_int pa_nil)))))
      (pss_cons (ps_expr (pe_led (T := TT) (fr := ["edition"]) (js := [3]) (fun f' c' pm ctv => led_several GS bS (act_laid GY gY kY bY)) hr (Nat.le_refl _) pass0 (by rfl) gS kS TB hc hT hu (fun y => rfl) (fun ok => NdefX.Caps.made ok (NdefX.ndef_free capLaid) (NdefX.ndef_fr capLaid) rfl) (fr capLaid) rfl (pa_cons (pv 0) (pa_cons pe_int (pa_cons pe_int pa_nil)))))
      (pss_cons (ps_expr (pe_led (T := TT) (fr := ["edition"]) (js := [3]) (fun f' c' pm ctv => led_several GS bS (act_program GP gP kP bP)) hr (Nat.le_refl _) pass0 (by rfl) gS kS TB hc hT hu (fun y => rfl) (fun ok => NdefX.Caps.made ok (NdefX.ndef_free capProg) (NdefX.ndef_fr capProg) rfl) (fr capProg) rfl (pa_cons (pv 0) (pa_cons pe_int (pa_cons pe_int pa_nil)))))
      (pss_cons (ps_expr (pe_bm PySem.F.plainAttrs_list PySem.F.slot_list_append PySem.F.type_list_append mt_append (pe_fld (pv 1) rfl) (pa_cons (pv 3) pa_nil)))
      (pss_one (ps_ret pe_bl))))))))), ?_⟩
    refine seq_go (line_goC (depth := 2) R rfl (by decide) fun p H1 w1 e1 np s1 => ?_)
    have R1 := R.same s1
    have G1 := GA.ext s1.ext
    have T1 := LamX.Tabs.ext tab s1
    obtain ⟨es, hes, hed⟩ := G1.eds
    have el := hed.len
    dsimp only
    refine seq_go (ifs_go (test_go (op_go ⟨_, rfl, ?_⟩)))
    refine ⟨_, rfl, g.p, CP, g.px, _, _, rfl, G1.obj, OP.cl, OP.no _ (by decide), g.lk_eds, g.eds, es, rfl, .inl (.inl (.inl hes)), _, _, rfl, rfl, _, rfl, log_small (by omega), (by show 2 ≤ sizeLine; decide), fun u hu => ?_⟩
    have sU := same_new (o := .lst [V.str ("edition" : Str), V.str (edWord es.length)]) hu
    have hU : SqL K (upd H1 u (.lst [V.str ("edition" : Str), V.str (edWord es.length)])) u (([("edition" : Str), edWord es.length]).map V.str) := .inl (.inl upd_same)
    have s2 := s1.trans sU
    generalize upd H1 u (.lst [V.str ("edition" : Str), V.str (edWord es.length)]) = H2 at sU hU s2 ⊢
    have w2 := w1.same sU
    have R2 := R1.same sU
    have G2 := G1.ext sU.ext
    have T2 := LamX.Tabs.ext T1 sU
    refine ⟨_, _, dp_words w2.1, dp_words hU, shaped_strs _ fun x hx => (w2.2.2 x hx).2, shaped_strs _ (fun x hx => ?_), _, rfl, ?_⟩
    · have hx : x = "edition" ∨ x = edWord es.length := by simpa using hx
      rcases hx with rfl | rfl
      · decide +kernel
      · exact strOk_string _
    rw [eqv_strs, el]
    unfold mEdition at hres
    refine ite2 (fun ce => ?_) fun ce => ?_
    · have c1 : ¬ (lineWords ls rm.length 2 == [("edition" : Str), edWord m.eds.length]) = true := by simpa using ce
      rw [if_neg c1] at hres
      cases hres
      refine ret_go ?_
      exact q1 rfl H2 s2.off.n R2 G2 T2
    have c1 : (lineWords ls rm.length 2 == [("edition" : Str), edWord m.eds.length]) = true := by simpa using ce
    rw [if_pos c1] at hres
    have hn : rm.length < ls.length := line_there (k := 2) fun z => by
      rw [z] at c1
      cases c1
    refine next_go ?_
    dsimp only
    have e2 := sU _ _ e1
    refine seq_go (drop_go (take_go R2 rfl rfl (.inr ⟨by decide +kernel, e2, np⟩) hn fun H3 o3 R3 => ?_))
    have G3 := G2.off R2.mutes R2.twoZ o3.n (two_own G2.own.1.2) (two_own G2.own.2.2)
    have T3 := Tabs.off T2 R2.mutes o3
    dsimp only
    refine seq_go ?_
    intro e ex he hex nee
    refine ⟨e, ex, rfl, upd_same, fun n l pr H4 o4 hn4 hl4 hp4 nnl obj hN hL hP => ⟨rfl, ?_⟩⟩
    have s4 : Same H3 H4 := fun a o ha => o4 a o (fun z => by
      rw [List.mem_singleton.mp z, he] at ha
      cases ha) (by
      rw [upd_ne (ne_of_none ha he), upd_ne (ne_of_none ha hex)]
      exact ha)
    have hn3 : H3 n = none := NdefX.upd_none (NdefX.upd_none hn4)
    have hl3 : H3 l = none := NdefX.upd_none (NdefX.upd_none hl4)
    have hp3 : H3 pr = none := NdefX.upd_none (NdefX.upd_none hp4)
    have fresh : ∀ a ∈ [n, l, pr], H3 a = none := fun a ha => by
      have ha : a = n ∨ a = l ∨ a = pr := by simpa using ha
      rcases ha with rfl | rfl | rfl <;> assumption
    have R4 := R3.grow (N := [n, l, pr]) s4 fresh fun a ha => by
      have ha : a = n ∨ a = l ∨ a = pr := by simpa using ha
      rcases ha with rfl | rfl | rfl
      · exact ⟨_, hN, fun ps z => by cases z⟩
      · exact ⟨_, hL, fun ps z => by cases z⟩
      · exact ⟨_, hP, fun ps z => by cases z⟩
    have G4 := G3.grow (N := [n, l, pr]) s4 fresh
    have T4 := LamX.Tabs.ext T3 s4
    have newX : ∀ a, H3 a = none → a ∉ x.own := fun a ha z => R3.new ha (R3.own a z)
    have Y4 : Ed.At ⟨e, ex, n, l, pr⟩ CE ([n, l, pr] ++ Z) x ⟨[], [], []⟩ H4 := by
      refine ⟨obj, hN, ⟨[], hL, True.intro⟩, ⟨[], hP, True.intro⟩, fun a ha => ?_, nnl, ?_, Nat.zero_le _, Nat.zero_le _, Nat.zero_le _⟩
      · have ha : a ∈ [n, l, pr] := ha
        exact ⟨List.mem_append_left _ ha, newX a (fresh a ha)⟩
      · exact fun z => newX e he (by
          have z : e = x.d := z
          rw [z]
          simp [Dr.own])
    have e6 : (rm ++ [(⟨"edition", lineWords ls rm.length 2⟩ : Row)]).length = rm.length + 1 := by rw [List.length_append]; rfl
    cases h1 : mSeveral (fun n m => some (mNeed ls n m)) 2 (rm.length + 1) ⟨[], [], []⟩ with
    | none =>
      rw [h1] at hres
      cases hres
    | some o1 =>
      obtain ⟨m1, r1⟩ := o1
      rw [h1] at hres
      dsimp only at hres
      cases h2 : mSeveral (fun n m => some (mLaid ls n m)) 3 (rm.length + 1 + r1.length) m1 with
      | none =>
        rw [h2] at hres
        cases hres
      | some o2 =>
        obtain ⟨m2, r2⟩ := o2
        rw [h2] at hres
        dsimp only at hres
        cases h3 : mSeveral (mProgram ls) 8 (rm.length + 1 + r1.length + r2.length) m2 with
        | none =>
          rw [h3] at hres
          cases hres
        | some o3 =>
          obtain ⟨m3, r3⟩ := o3
          rw [h3] at hres
          cases hres
          dsimp only
          refine seq_go (drop_go (several_go (y := ⟨e, ex, n, l, pr⟩) (j := 0) (most := 2) (grows_need ls) T4 R4 Y4 ⟨Nat.le_refl _, Nat.le_refl _, Nat.le_refl _⟩ (by decide) (by rw [e6]; exact h1) fun H5 o5 R5 Y5 T5 z5 => ?_))
          dsimp only
          refine seq_go (drop_go (several_go (y := ⟨e, ex, n, l, pr⟩) (j := 2) (most := 3) (grows_laid ls) T5 R5 Y5 z5 (by decide) (by rw [List.length_append, e6]; exact h2) fun H6 o6 R6 Y6 T6 z6 => ?_))
          dsimp only
          refine seq_go (drop_go (several_go (y := ⟨e, ex, n, l, pr⟩) (j := 5) (most := 8) (grows_program ls) T6 R6 Y6 z6 (by decide) (by rw [List.length_append, List.length_append, e6]; exact h3) fun H7 o7 R7 Y7 T7 z7 => ?_))
          have o47 := (o5.trans o6).trans o7
          have mu4 := Y4.mutes R4
          dsimp only
          refine seq_go (drop_go (bm_go ?_))
          have sub4 : ∀ a ∈ x.two ++ Ed.own ⟨e, ex, n, l, pr⟩, a ∈ [n, l, pr] ++ Z := fun a ha => (List.mem_append.mp ha).elim (fun z => R4.twoZ a z) fun z => List.mem_append_left _ z
          obtain ⟨es3, hes3, _⟩ := G3.eds
          obtain ⟨ks3, hks3, _⟩ := G3.ats
          have nE : g.eds ∉ [n, l, pr] := fun z => by
            rw [fresh _ z] at hes3
            cases hes3
          have nA : g.ats ∉ [n, l, pr] := fun z => by
            rw [fresh _ z] at hks3
            cases hks3
          have G7 := G4.off mu4 sub4 o47 (fun z => (List.mem_append.mp z).elim (two_own G4.own.1.2) nE) fun z => (List.mem_append.mp z).elim (two_own G4.own.2.2) nA
          obtain ⟨es7, hes7, hed7⟩ := G7.eds
          obtain ⟨ks7, hks7, hat7⟩ := G7.ats
          refine ⟨_, rfl, g.p, CP, g.px, _, _, rfl, G7.obj, OP.cl, OP.no _ (by decide), g.lk_eds, .inl ⟨rfl, _, .inl (.inl hes7)⟩, _, rfl, g.eds, _, _, rfl, rfl, hes7, ?_, ?_⟩
          · have := hed7.len
            rw [sizeLine_eq]
            omega
          dsimp only
          refine ret_go ?_
          have ntE : ∀ xs, HO.lst es7 ≠ .tup xs := fun xs z => by cases z
          have muE : Mutes [g.eds] H7 := fun a ha => by
            rw [List.mem_singleton.mp ha]
            exact ⟨_, hes7, .inl ⟨_, rfl⟩⟩
          have offE : Off [g.eds] H7 (upd H7 g.eds (.lst (es7 ++ [.ref e]))) := off_upd List.mem_cons_self
          have tupE := tups_upd (o := .lst (es7 ++ [.ref e])) hes7 ntE
          have inZ : g.eds ∈ Z := G3.own.1.1
          have R8 := (R7.less (fun a ha => List.mem_append_right _ ha) R3.own).put (o := .lst (es7 ++ [.ref e])) inZ G3.own.1.2 hes7 ntE
          rw [List.append_assoc, List.append_assoc, List.append_assoc] at R8
          have oldZ : ∀ a, H3 a = none → a ∉ Z := fun a ha => R3.new ha
          refine q2 m3 _ rfl _ (fun a o na ha nt => ?_) R8 ⟨?_, ⟨_, upd_same, ?_⟩, ⟨ks7, ?_, hat7.keep tupE⟩, G3.own, G3.np⟩ (Tabs.off T7 muE offE)
          · have n1 : a ∉ x.two := fun z => na (List.mem_append_left _ z)
            have n2 : a ≠ g.eds := fun z => na (List.mem_append_right _ (by rw [z]; exact List.mem_cons_self))
            have a3 := o3 a o n1 (s2 _ _ ha)
            rw [upd_ne n2]
            refine o47 a o (fun z => (List.mem_append.mp z).elim n1 fun z => ?_) (s4 _ _ a3) nt
            rw [fresh a z] at a3
            cases a3
          · rw [upd_ne (ne_of G7.obj hes7 fun z => by cases z)]
            exact G7.obj
          · have old : EdsAt CE Z H7 es7 m.eds := hed7.sub fun a _ nz z => nz (List.mem_append_right _ z)
            refine (old.off muE (fun a ha => by rw [List.mem_singleton.mp ha]; exact inZ) offE.n).snoc ?_
            obtain ⟨l7, e7, p7⟩ := Y7.lays
            obtain ⟨k7, f7, q7⟩ := Y7.programs
            have nn : ∀ a ∈ [n, l, pr], a ≠ g.eds := fun a ha z => nE (by rw [← z]; exact ha)
            refine ⟨⟨e, ex, n, l, pr⟩, rfl, ?_, ?_, ⟨l7, ?_, p7.keep tupE⟩, ⟨k7, ?_, q7.keep tupE⟩, fun a ha => ?_⟩
            · rw [upd_ne (ne_of Y7.obj hes7 fun z => by cases z)]
              exact Y7.obj
            · rw [upd_ne (nn n (by simp))]
              exact Y7.needs
            · rw [upd_ne (nn l (by simp))]
              exact e7
            · rw [upd_ne (nn pr (by simp))]
              exact f7
            · rcases ha with rfl | ha
              · exact oldZ _ he
              · exact oldZ _ (fresh a ha)
          · rw [upd_ne (ne_of hks7 hes7 fun z => by cases z)]
            exact hks7
end
end Sc

namespace Sc
open PySem L2 PySem.Spec PyProof.Rows Lm
/-! ### Package(), read_trigger -/
abbrev sPkInit : Stmt := mth 48 0
abbrev sTrigger : Stmt := top 59
theorem scPkInit : FnScope ["self"] ["self"] (defScope sPkInit) := ⟨rfl, rfl, rfl, by decide +kernel, rfl, by decide +kernel, by decide +kernel⟩
theorem scTrigger : FnScope ["draft", "package", "words"] ["draft", "package"] (defScope sTrigger) := ⟨rfl, rfl, rfl, by decide +kernel, rfl, by decide +kernel, by decide +kernel⟩
def spPkInit (CP : Addr) : Sp := fun vs H Q _ => ∃ e ex, vs = [.ref e] ∧ H e = some (.ins CP ex []) ∧ ∀ (n p : Addr) (H' : Hp), Off [e] H H' → H n = none → H p = none → H' e = some (.ins CP ex (Pk.fields ⟨e, ex, n, p⟩)) → H' n = some (.lst []) → H' p = some (.dK []) → Q .non H'
abbrev atForm : Str := "at NAME"
def mTrigger (ls : List Str) (n : Nat) (tr : List Str) (ats : List (Str × List Cmd)) : Option (Option (List Str × List (Str × List Cmd) × List Row)) :=
  if fitsM (lineWords ls n 2) atForm = true ∧ tr.length ≠ 3 then
    match mCommands (mCommand ls 2 4) 6 (n + 1) with
    | none => none
    | some (cs, r) => some (some (tr ++ [(lineWords ls n 2).getD 1 ""], putP ats ((lineWords ls n 2).getD 1 "") cs, ⟨"at", lineWords ls n 2⟩ :: r))
  else some none
abbrev TrF (x : Dr) (g : Pk) : List Addr := x.two ++ [x.triggers, g.ats]
def spTrigger (C CP CE : Addr) (ls : List Str) : Sp := fun vs H Q _ => ∃ (x : Dr) (g : Pk) (Z : List Addr) (rm : List Row) (m : PkM) (tr : List Str), vs = [.ref x.d, .ref g.p] ∧ Rd Z x C ls rm H ∧ g.At CP CE Z x m H ∧ H x.triggers = some (.lst (tr.map V.str)) ∧ tr.length ≤ 3 ∧ x.triggers ≠ x.rows ∧ m.ats.length < 50 ∧
  ∃ res, mTrigger ls rm.length tr m.ats = some res ∧ (res = none → ∀ H', Off (TrF x g) H H' → Rd Z x C ls rm H' → g.At CP CE Z x m H' → H' x.triggers = some (.lst (tr.map V.str)) → Q (.bl false) H') ∧
    ∀ tr2 at2 r2, res = some (tr2, at2, r2) → ∀ H', Off (TrF x g) H H' → Rd Z x C ls (rm ++ r2) H' → g.At CP CE Z x ⟨m.eds, at2⟩ H' → H' x.triggers = some (.lst (tr2.map V.str)) → Q (.bl true) H'
/-- a thing of Z that is neither the draft nor its rows is changed -/
theorem Rd.put2 {Z : List Addr} {x : Dr} {C : Addr} {ls : List Str} {rm : List Row} {H : Hp} {L : Addr} {o u : HO} (R : Rd Z x C ls rm H) (hL : L ∈ Z) (n1 : x.d ≠ L) (n2 : x.rows ≠ L) (he : H L = some u) (nt : ∀ xs, u ≠ .tup xs) (no : ∀ ps, o ≠ .tbl ps := by intro _ z; cases z) : Rd Z x C ls rm (upd H L o) := by
  obtain ⟨rs, hrs, hr⟩ := R.rows
  have of : Off [L] H (upd H L o) := off_upd List.mem_cons_self
  have sf : Soft [L] Z H := fun a ha => by
    rw [List.mem_singleton.mp ha]
    refine ⟨hL, fun xs e => ?_⟩
    rw [he] at e
    exact nt xs (Option.some.inj e)
  refine ⟨⟨(upd_ne n1).trans R.at_.obj, (upd_ne fun z => R.lines (by rw [z]; exact hL)).trans R.at_.lines, R.at_.len, R.at_.ok, R.at_.pos, R.at_.apart⟩, ⟨rs, (upd_ne n2).trans hrs, hr.off sf of⟩, R.own, fun a ha => ?_, R.lines⟩
  by_cases h : a = L
  · rw [h]
    exact ⟨_, upd_same, no⟩
  · obtain ⟨v, e, n⟩ := R.there a ha
    exact ⟨v, (upd_ne h).trans e, n⟩
section
variable {P : Program} {w : World} {K : PySem.W.Frag} {mg : Str → Option Value} {base : Heap} {C CP CE fL fT : Addr} {fdL fdT : FuncData}
theorem ok_pkInit {f : Addr} {fd : FuncData} (G : Fun K "__init__" "Package.__init__" sPkInit f fd) (O : Own K CP pkNames) : FnOk P w K mg base CX0 1 f fd ["self"] (spPkInit CP) := by
  refine G.ok scPkInit (fun vs H Q E h => ?_) (fun cdv A outer s H vs Q E hr h => ?_)
  · obtain ⟨e, ex, rfl, _⟩ := h
    rfl
  · obtain ⟨e, ex, rfl, he, q⟩ := h
    refine ⟨_, pss_cons (ps_fld (pv 0) (pe_lst pa_nil) rfl) (pss_one (ps_fld (pv 0) pe_dnewK rfl)), ?_⟩
    have few : ∀ fs : List (Str × V), fs.length ≤ 3 → fs.length < 1000 := fun fs h => by omega
    refine seq_go ⟨by decide, fun n hn => ?_⟩
    have n1 : e ≠ n := ne_of_none he hn
    have g1 : (upd H n (.lst [])) e = some (.ins CP ex []) := (upd_ne n1).trans he
    refine ⟨_, rfl, e, CP, ex, [], rfl, g1, O.cl, O.no _ (by decide), few _ (by decide), ?_⟩
    dsimp only
    intro p hp
    have hp0 : H p = none := NdefX.upd_none (NdefX.upd_none hp)
    have n4 : e ≠ p := ne_of_none he hp0
    have g3 : ∀ o : HO, (upd (upd (upd H n (.lst [])) e (.ins CP ex (putF "editions" (.ref n) []))) p o) e = some (.ins CP ex (putF "editions" (.ref n) [])) := fun o => by
      rw [upd_ne n4, upd_same]
    have n5 : n ≠ p := fun z => by
      rw [← z, upd_ne (Ne.symm n1), upd_same] at hp
      cases hp
    refine ⟨_, rfl, e, CP, ex, _, rfl, g3 _, O.cl, O.no _ (by decide), few _ (by show 1 ≤ 3; decide), ?_⟩
    dsimp only
    refine q n p _ (fun a o na ha => ?_) hn hp0 ?_ ?_ ?_
    · have m1 : a ≠ e := fun z => na (by rw [z]; exact List.mem_cons_self)
      rw [upd_ne m1, upd_ne (ne_of_none ha hp0), upd_ne m1, upd_ne (ne_of_none ha hn)]
      exact ha
    · rw [upd_same]
      rfl
    · rw [upd_ne (Ne.symm n1), upd_ne n5, upd_ne (Ne.symm n1), upd_same]
    · rw [upd_ne (Ne.symm n4), upd_same]
theorem ok_trigger {ls : List Str} {k : Nat} {f fF fC : Addr} {fd fdF fdC : FuncData} (hk : 3 ≤ k) (G : Fun K "read_trigger" "read_trigger" sTrigger f fd) (T : NatR mg) (Dn : DrFns P w K mg base C fL fT fdL fdT) (OP : Own K CP pkNames)
    (GF : FnOk P w K mg base CX0 3 fF fdF ["words", "form"] (spFits K)) (gF : mg "fits" = some (.ref fF)) (kF : PySem.W.keepIn K (.ref fF) = true) (bF : Binds K fdF ["words", "form"] [])
    (GC : FnOk P w K mg base CX0 k fC fdC ["draft", "depth", "most", "ifs"] (spCommands C ls 2)) (gC : mg "read_commands" = some (.ref fC)) (kC : PySem.W.keepIn K (.ref fC) = true) (bC : Binds K fdC ["draft", "depth", "most", "ifs"] []) :
    FnOk P w K mg base CX0 (k + 1) f fd ["draft", "package"] (spTrigger C CP CE ls) := by
  refine G.ok scTrigger (fun vs H Q E h => ?_) (fun cdv A outer s H vs Q E hr h => ?_)
  · obtain ⟨x, g, Z, rm, m, tr, rfl, _⟩ := h
    rfl
  · obtain ⟨x, g, Z, rm, m, tr, rfl, R, GA, ht, lt, nt, la, res, hres, q1, q2⟩ := h
    have hr1 := hr.mono (show 1 ≤ k by omega)
    refine ⟨_, pss_cons (ps_set (i := 2) scTrigger.nd rfl (Or.inl rfl) (pe_meth (pv 0) Dn.own.cl Dn.mLine Dn.line hr1 Dn.bLine .nil pass0 (pa_cons pe_int pa_nil)))
      (pss_cons (ps_if (PW.pt (pw_or (pt_not (pt_val (pe_call GF (hr.mono hk) (by rfl) gF kF bF .nil pass0 (pa_cons (pv 2) (pa_cons pe_str pa_nil)))))
        (pw_or1 (pt_cmpR op_eq (pe_callB call_len_seq (by rfl) T.len PySem.boot_len (pa_cons (pe_fld (pv 0) rfl) pa_nil)) pe_int (nomark _))))) (pss_one (ps_ret pe_bl)) pss_nil)
      (pss_cons (ps_expr (pe_meth (pv 0) Dn.own.cl Dn.mTake Dn.take hr1 Dn.bTake .nil pass0 (pa_cons pe_str (pa_cons (pv 2) pa_nil))))
      (pss_cons (ps_expr (pe_bm PySem.F.plainAttrs_list PySem.F.slot_list_append PySem.F.type_list_append mt_append (pe_fld (pv 0) rfl) (pa_cons (pe_ix ix_list (pv 2) pe_int (fun _ _ => rfl)) pa_nil)))
      (pss_cons (ps_dput (u1 hr.units) (pe_fld (pv 1) rfl) (pe_ix ix_list (pv 2) pe_int (fun _ _ => rfl)) (pe_call GC hr (by rfl) gC kC bC .nil pass0 (pa_cons (pv 0) (pa_cons pe_int (pa_cons pe_int (pa_cons pe_int pa_nil))))) rfl)
      (pss_one (ps_ret pe_bl)))))), ?_⟩
    unfold mTrigger at hres
    refine seq_go (line_goC (depth := 2) R rfl (by decide) fun p H1 w1 e1 np s1 => ?_)
    have R1 := R.same s1
    dsimp only
    refine seq_go (ifs_go (or_go (not_go (val_go ?_))))
    refine ⟨_, rfl, p, _, _, rfl, w1, by decide +kernel, fun H2 s2 => ⟨_, rfl, ?_⟩⟩
    have s12 := s1.trans s2
    have R2 := R1.same s2
    have G2 := GA.ext s12.ext
    have ht2 := s12 _ _ ht
    have e2 := s2 _ _ e1
    have away : ¬ (fitsM (lineWords ls rm.length 2) atForm = true ∧ tr.length ≠ 3) → Q (.bl false) H2 := fun n => by
      rw [if_neg n] at hres
      cases hres
      exact q1 rfl H2 s12.off R2 G2 ht2
    refine ite2 (fun b => ite2 (fun _ => ?_) fun z => absurd rfl z) fun b => ?_
    · exact away fun z => by
        have z1 := z.1
        have b1 : (!fitsM (lineWords ls rm.length 2) atForm) = true := b
        rw [z1] at b1
        cases b1
    have c1 : fitsM (lineWords ls rm.length 2) atForm = true := by simpa using b
    refine test_go (op_go (cb_go (cons_go (fld_go Dn.own R2.at_ rfl (by decide) (x.lk_triggers _) ?_))))
    refine ⟨x.triggers, _, rfl, .inl (.inl (.inl ht2)), rfl, _, rfl, ite2 (fun d => ?_) fun d => ?_⟩
    · refine away fun z => z.2 ?_
      rw [dec_int, List.length_map] at d
      have d2 : (tr.length : Int) = 3 := by simpa using d
      omega
    have c2 : tr.length ≠ 3 := fun z => d (by
      rw [dec_int, List.length_map, z]
      rfl)
    rw [if_pos ⟨c1, c2⟩] at hres
    have hl : (lineWords ls rm.length 2).length = 2 := (fits_len c1).trans (by decide +kernel)
    have hn : rm.length < ls.length := line_there fun z => by
      rw [z] at hl
      cases hl
    refine next_go ?_
    dsimp only
    refine seq_go (drop_go (take_go R2 rfl rfl (.inr ⟨by decide +kernel, e2, np⟩) hn fun H3 o3 R3 => ?_))
    have nd : x.d ≠ x.triggers := ne_of R2.at_.obj ht2 fun z => by cases z
    have nr : x.rows ≠ x.triggers := Ne.symm nt
    have n3 : x.triggers ∉ x.two := by simp [nt, Ne.symm nd]
    have ht3 := o3 _ _ n3 ht2
    have e3 := o3 _ _ (R2.there2 np) e2
    have G3 := G2.off R2.mutes R2.twoZ o3.n (two_own G2.own.1.2) (two_own G2.own.2.2)
    have tz : x.triggers ∈ Z := R.own _ (by simp [Dr.own])
    dsimp only
    refine seq_go (drop_go (bm_go (fld_go Dn.own R3.at_ rfl (by decide) (x.lk_triggers _) ?_)))
    refine ⟨.inl ⟨rfl, _, .inl (.inl ht3)⟩, _, rfl, p, _, _, _, rfl, rfl, .inl (.inl e3), get_word (i := 1) (by omega), x.triggers, _, _, rfl, rfl, ht3, ?_, ?_⟩
    · rw [List.length_map, sizeLine_eq]
      omega
    have ntT : ∀ xs, HO.lst (tr.map V.str) ≠ .tup xs := fun xs z => by cases z
    have R4 := R3.put2 (o := .lst (tr.map V.str ++ [.str ((lineWords ls rm.length 2).getD 1 "")])) tz nd nr ht3 ntT
    have mu3 : Mutes [x.triggers] H3 := fun a ha => by
      rw [List.mem_singleton.mp ha]
      exact ⟨_, ht3, .inl ⟨_, rfl⟩⟩
    have ownT : ∀ {a : Addr}, a ∉ x.own → a ∉ [x.triggers] := fun n z => n (by rw [List.mem_singleton.mp z]; simp [Dr.own])
    have o4 : Off [x.triggers] H3 (upd H3 x.triggers (.lst (tr.map V.str ++ [.str ((lineWords ls rm.length 2).getD 1 "")]))) := off_upd List.mem_cons_self
    have G4 := G3.off mu3 (fun a ha => by rw [List.mem_singleton.mp ha]; exact tz) o4.n (ownT G3.own.1.2) (ownT G3.own.2.2)
    have e4 := o4 p _ (fun z => np (by rw [List.mem_singleton.mp z]; exact tz)) e3
    have ht4 : (upd H3 x.triggers (.lst (tr.map V.str ++ [.str ((lineWords ls rm.length 2).getD 1 "")]))) x.triggers = some (.lst ((tr ++ [(lineWords ls rm.length 2).getD 1 ""]).map V.str)) := by
      rw [upd_same, List.map_append]
      rfl
    dsimp only
    generalize upd H3 x.triggers (.lst (tr.map V.str ++ [.str ((lineWords ls rm.length 2).getD 1 "")])) = H4 at R4 o4 G4 e4 ht4 ⊢
    cases h1 : mCommands (mCommand ls 2 4) 6 (rm.length + 1) with
    | none =>
      rw [h1] at hres
      cases hres
    | some out =>
      obtain ⟨cs, r⟩ := out
      rw [h1] at hres
      cases hres
      refine seq_go ?_
      refine ⟨_, rfl, x, Z, _, 4, 6, rfl, R4, by decide, by decide, cs, r, by rw [List.length_append]; exact h1, fun a H5 o5 R5 p5 => ?_⟩
      have G5 := G4.off R4.mutes R4.twoZ o5.n (two_own G4.own.1.2) (two_own G4.own.2.2)
      have e5 := o5 _ _ (R4.there2 np) e4
      have ht5 := o5 _ _ n3 ht4
      obtain ⟨ks, hks, hps⟩ := G5.ats
      obtain ⟨es, hes, hed⟩ := G5.eds
      refine ⟨_, rfl, g.p, CP, g.px, _, _, rfl, G5.obj, OP.cl, OP.no _ (by decide), g.lk_ats, _, rfl, p, _, _, _, rfl, rfl, .inl (.inl e5), get_word (i := 1) (by omega), g.ats, _, rfl, DPut.k (k := .inr _) hks ?_, ?_⟩
      · have := progs_len hps
        rw [sizeLine_eq]
        omega
      dsimp only
      refine ret_go ?_
      have ntA : ∀ xs, HO.dK ks ≠ .tup xs := fun xs z => by cases z
      have tp := tups_upd (o := .dK (putK ks (.inr ((lineWords ls rm.length 2).getD 1 "")) (.ref a))) hks ntA
      have R6 := R5.put (o := .dK (putK ks (.inr ((lineWords ls rm.length 2).getD 1 "")) (.ref a))) G5.own.2.1 G5.own.2.2 hks ntA
      rw [List.append_assoc] at R6
      have mu5 : Mutes [g.ats] H5 := fun b hb => by
        rw [List.mem_singleton.mp hb]
        exact ⟨_, hks, .inr (.inl ⟨_, rfl⟩)⟩
      have o6 : Off [g.ats] H5 (upd H5 g.ats (.dK (putK ks (.inr ((lineWords ls rm.length 2).getD 1 "")) (.ref a)))) := off_upd List.mem_cons_self
      have nea : g.eds ≠ g.ats := ne_of hes hks fun z => by cases z
      refine q2 _ _ _ rfl _ ((((s12.off.trans (o3.more fun b hb => List.mem_append_left _ hb)).trans (o4.more fun b hb => List.mem_append_right _ (by rw [List.mem_singleton.mp hb]; simp))).trans (o5.more fun b hb => List.mem_append_left _ hb)).trans (o6.more fun b hb => List.mem_append_right _ (by rw [List.mem_singleton.mp hb]; simp))) R6 ⟨?_, ⟨es, ?_, hed.off mu5 (fun b hb => by rw [List.mem_singleton.mp hb]; exact G5.own.2.1) o6.n⟩, ⟨_, upd_same, progs_put (hps.keep tp) (p5.keep tp)⟩, G5.own, G5.np⟩ ?_
      · rw [upd_ne (ne_of G5.obj hks fun z => by cases z)]
        exact G5.obj
      · rw [upd_ne nea]
        exact hes
      · rw [upd_ne fun z => G5.own.2.2 (by rw [← z]; simp [Dr.own])]
        exact ht5
end
end Sc

namespace Sc
open PySem L2 PySem.Spec PyProof.Rows Lm
/-! ### any part's reading again and again, with the number of turns -/
def mRep {S : Type} (rd : Nat → S → Option (Option (S × List Row))) : Nat → Nat → S → Option (S × List Row × Nat)
  | 0, _, s => some (s, [], 0)
  | k + 1, n, s => match rd n s with
    | none => none
    | some none => some (s, [], 0)
    | some (some (s2, r)) => match mRep rd k (n + r.length) s2 with
      | none => none
      | some (s3, r2, c) => some (s3, r ++ r2, c + 1)
theorem rep_go {S : Type} {rd : Nat → S → Option (Option (S × List Row))} (St : Nat → S → List Row → Hp → Prop) {cs : List (Addr × Str)} {u d : Addr} {lsp : List (Option V) → Sp} {ws : List (Option V)} {least most cnt : Nat} {rm r : List Row} {s0 s' : S} {H : Hp} {Q : VK} {E : XK}
    (h0 : St 0 s0 rm H) (co : ∀ n s r0 H1, St n s (rm ++ r0) H1 → Coded cs H1) (hres : mRep rd most rm.length s0 = some (s', r, cnt)) (hc : least ≤ cnt)
    (part : ∀ n s r0 H1 (R : VK) res, n < most → St n s (rm ++ r0) H1 → rd (rm ++ r0).length s = some res → (res = none → ∀ H2, St n s (rm ++ r0) H2 → R (.bl false) H2) → (∀ s2 rr, res = some (s2, rr) → ∀ H2, St (n + 1) s2 (rm ++ (r0 ++ rr)) H2 → R (.bl true) H2) → lsp ws [.ref d] H1 R E0)
    (k : ∀ n H2, n ≤ most → St n s' (rm ++ r) H2 → Q .non H2) : spSeveral cs u lsp ws [.ref u, .ref d, .int (least : Nat), .int (most : Nat)] H Q E := by
  refine ⟨d, least, most, rfl, ?_⟩
  refine ⟨fun n H2 => ∃ (sn : S) (r0 r1 : List Row) (c1 : Nat), St n sn (rm ++ r0) H2 ∧ n ≤ most ∧ mRep rd (most - n) (rm.length + r0.length) sn = some (s', r1, c1) ∧ r = r0 ++ r1 ∧ cnt = n + c1, ⟨s0, [], r, cnt, by rw [List.append_nil]; exact h0, Nat.zero_le _, hres, rfl, by omega⟩, ?_, ?_⟩
  · rintro n H2 lt ⟨sn, r0, r1, c1, st, hn, hr2, er, ec⟩
    refine ⟨co _ _ _ _ st, fun W kt kf => ?_⟩
    have e : most - n = (most - (n + 1)) + 1 := by omega
    rw [e] at hr2
    unfold mRep at hr2
    have en : (rm ++ r0).length = rm.length + r0.length := List.length_append
    cases hrd : rd (rm.length + r0.length) sn with
    | none =>
      rw [hrd] at hr2
      cases hr2
    | some res =>
      rw [hrd] at hr2
      refine part n sn r0 H2 W res lt st (by rw [en]; exact hrd) (fun er0 H3 st3 => ?_) fun s2 rr er0 H3 st3 => ?_
      · subst er0
        cases hr2
        rw [List.append_nil] at er
        subst er
        exact kf H3 (by omega) (k n H3 hn st3)
      · subst er0
        dsimp only at hr2
        cases hrest : mRep rd (most - (n + 1)) (rm.length + r0.length + rr.length) s2 with
        | none =>
          rw [hrest] at hr2
          cases hr2
        | some out =>
          rw [hrest] at hr2
          obtain ⟨s3, r3, c3⟩ := out
          cases hr2
          refine kt H3 ⟨s2, r0 ++ rr, r3, c3, st3, lt, ?_, by rw [er, List.append_assoc], by omega⟩
          rw [List.length_append, ← Nat.add_assoc]
          exact hrest
  · rintro H2 ⟨sn, r0, r1, c1, st, hn, hr2, er, ec⟩
    rw [Nat.sub_self] at hr2
    unfold mRep at hr2
    cases hr2
    rw [List.append_nil] at er
    subst er
    exact ⟨by omega, k most H2 (Nat.le_refl _) st⟩
/-! ### dicts by names -/
def DictAt {β : Type} (Rl : V → β → Prop) : List (Key × V) → List (Str × β) → Prop
  | [], [] => True
  | r :: rs, q :: qs => (r.1 = .inr q.1 ∧ Rl r.2 q.2) ∧ DictAt Rl rs qs
  | [], _ :: _ => False
  | _ :: _, [] => False
def putS {β : Type} (qs : List (Str × β)) (k : Str) (c : β) : List (Str × β) := if (qs.any fun q => decide (q.1 = k)) = true then qs.map (fun q => if q.1 = k then (q.1, c) else q) else qs ++ [(k, c)]
section
variable {β : Type} {Rl Rk : V → β → Prop} {k : Str} {c : β} {v : V}
theorem DictAt.keep (t : ∀ v b, Rl v b → Rk v b) : ∀ {rs : List (Key × V)} {qs : List (Str × β)}, DictAt Rl rs qs → DictAt Rk rs qs
  | [], [], _ => True.intro
  | _ :: _, _ :: _, ⟨⟨e1, h⟩, b⟩ => ⟨⟨e1, t _ _ h⟩, DictAt.keep t b⟩
  | [], _ :: _, h => h
  | _ :: _, [], h => h
theorem DictAt.len : ∀ {rs : List (Key × V)} {qs : List (Str × β)}, DictAt Rl rs qs → rs.length = qs.length
  | [], [], _ => rfl
  | _ :: _, _ :: _, ⟨_, b⟩ => by rw [List.length_cons, List.length_cons, DictAt.len b]
  | [], _ :: _, h => h.elim
  | _ :: _, [], h => h.elim
theorem dict_any : ∀ {rs : List (Key × V)} {qs : List (Str × β)}, DictAt Rl rs qs → (rs.any fun r => decide (r.1 = (.inr k : Key))) = qs.any fun q => decide (q.1 = k)
  | [], [], _ => rfl
  | r :: rs, q :: qs, ⟨⟨e, _⟩, b⟩ => by
    rw [List.any_cons, List.any_cons, dict_any b, e]
    congr 1
    by_cases h : q.1 = k
    · rw [h]
      simp
    · rw [decide_eq_false h, decide_eq_false fun z => h (Sum.inr.inj z)]
  | [], _ :: _, z => z.elim
  | _ :: _, [], z => z.elim
theorem dict_map (hp : Rl v c) : ∀ {rs : List (Key × V)} {qs : List (Str × β)}, DictAt Rl rs qs → DictAt Rl (rs.map fun r => if r.1 = (.inr k : Key) then (r.1, v) else r) (qs.map fun q => if q.1 = k then (q.1, c) else q)
  | [], [], _ => True.intro
  | r :: rs, q :: qs, ⟨⟨e, x⟩, b⟩ => by
    refine ⟨?_, dict_map hp b⟩
    by_cases h : q.1 = k
    · dsimp only
      rw [if_pos h, if_pos (by rw [e, h])]
      exact ⟨e, hp⟩
    · dsimp only
      rw [if_neg h, if_neg (by rw [e]; exact fun z => h (Sum.inr.inj z))]
      exact ⟨e, x⟩
  | [], _ :: _, z => z.elim
  | _ :: _, [], z => z.elim
theorem dict_snoc (hp : Rl v c) : ∀ {rs : List (Key × V)} {qs : List (Str × β)}, DictAt Rl rs qs → DictAt Rl (rs ++ [(.inr k, v)]) (qs ++ [(k, c)])
  | [], [], _ => ⟨⟨rfl, hp⟩, True.intro⟩
  | _ :: _, _ :: _, ⟨a, b⟩ => ⟨a, dict_snoc hp b⟩
  | [], _ :: _, z => z.elim
  | _ :: _, [], z => z.elim
theorem dict_put {rs : List (Key × V)} {qs : List (Str × β)} (h : DictAt Rl rs qs) (hp : Rl v c) : DictAt Rl (putK rs (.inr k) v) (putS qs k c) := by
  unfold putK putS
  rw [dict_any h]
  split
  · exact dict_map hp h
  · exact dict_snoc hp h
end
end Sc

namespace Sc
open PySem L2 PySem.Spec PyProof.Rows Lm
/-! ### read_package -/
abbrev sPackage : Stmt := top 54
def pkSt (i : Nat) : Stmt := (defBody sPackage).getD i (.Pass ⟨0, 0, 0, 0⟩)
theorem scPackage : FnScope ["draft", "words", "package"] ["draft"] (defScope sPackage) := ⟨rfl, rfl, rfl, by decide +kernel, rfl, by decide +kernel, by decide +kernel⟩
theorem lamEd : NdefX.NScope ["rest", "package"] ["rest"] ["package"] (lamS (pkSt 4)) := NdefX.nscope_by (by decide +kernel)
theorem lamTr : NdefX.NScope ["rest", "package"] ["rest"] ["package"] (lamS (pkSt 5)) := NdefX.nscope_by (by decide +kernel)
theorem capEd : NdefX.ndefB (defScope sPackage) (lamS (pkSt 4)) ["package"] = true := by decide +kernel
theorem capTr : NdefX.ndefB (defScope sPackage) (lamS (pkSt 5)) ["package"] = true := by decide +kernel
section
variable {P : Program} {w : World} {K : PySem.W.Frag} {mg : Str → Option Value} {base : Heap}
theorem act_edition {sp : Sp} {k : Nat} {fN : Addr} {fdN : FuncData} {q : Str} {cl : List (Str × Addr)} {f c' : Addr} {pm ctv : Value}
    (GN : FnOk P w K mg base CX0 k fN fdN ["draft", "package"] sp) (gN : mg "read_edition" = some (.ref fN)) (kN : PySem.W.keepIn K (.ref fN) = true) (bN : Binds K fdN ["draft", "package"] []) :
    Act P w K mg base CX0 (k + 1) cl ["package"] [(f, PySem.W.kla_obj "<lambda>" q (lamP (pkSt 4)) (lamB (pkSt 4)) (lamS (pkSt 4)) cl pm c' ctv)] [(c', q)] f (spLam sp) := by
  refine act_lam lamEd (fun us hl => ?_) (fun ws vs H Q E h => ?_) fun A outer s H vs ws Q E hr hw h => ?_
  · match us, hl with
    | [u], _ => rfl
  · obtain ⟨r, e, rfl, _⟩ := h
    rfl
  · obtain ⟨r, e, rfl, rfl, h⟩ := h
    refine ⟨_, pe_call (E := E) GN hr (by rfl) gN kN bN .nil pass0 (pa_cons (pv 0) (pa_cons (pv 1) pa_nil)), ?_⟩
    exact ⟨_, rfl, _, rfl, h⟩
theorem act_trigger {sp : Sp} {k : Nat} {fN : Addr} {fdN : FuncData} {q : Str} {cl : List (Str × Addr)} {f c' : Addr} {pm ctv : Value}
    (GN : FnOk P w K mg base CX0 k fN fdN ["draft", "package"] sp) (gN : mg "read_trigger" = some (.ref fN)) (kN : PySem.W.keepIn K (.ref fN) = true) (bN : Binds K fdN ["draft", "package"] []) :
    Act P w K mg base CX0 (k + 1) cl ["package"] [(f, PySem.W.kla_obj "<lambda>" q (lamP (pkSt 5)) (lamB (pkSt 5)) (lamS (pkSt 5)) cl pm c' ctv)] [(c', q)] f (spLam sp) := by
  refine act_lam lamTr (fun us hl => ?_) (fun ws vs H Q E h => ?_) fun A outer s H vs ws Q E hr hw h => ?_
  · match us, hl with
    | [u], _ => rfl
  · obtain ⟨r, e, rfl, _⟩ := h
    rfl
  · obtain ⟨r, e, rfl, rfl, h⟩ := h
    refine ⟨_, pe_call (E := E) GN hr (by rfl) gN kN bN .nil pass0 (pa_cons (pv 0) (pa_cons (pv 1) pa_nil)), ?_⟩
    exact ⟨_, rfl, _, rfl, h⟩
end
/-- a package that was read -/
def PkDone (CP CE : Addr) (Z : List Addr) (H : Hp) (r : V) (m : PkM) : Prop := ∃ g : Pk, r = .ref g.p ∧ H g.p = some (.ins CP g.px g.fields) ∧ (∃ es, H g.eds = some (.lst es) ∧ EdsAt CE Z H es m.eds) ∧ (∃ ks, H g.ats = some (.dK ks) ∧ ProgsAt H ks m.ats) ∧ g.p ∉ Z ∧ g.eds ∉ Z ∧ g.ats ∉ Z
abbrev pkForm : Str := "package NAME"
def rdEd (ls : List Str) (n : Nat) (m : PkM) : Option (Option (PkM × List Row)) := match mEdition ls n m.eds.length with
  | none => none
  | some none => some none
  | some (some (e, r)) => some (some (⟨m.eds ++ [e], m.ats⟩, r))
def rdTr (ls : List Str) (n : Nat) (s : PkM × List Str) : Option (Option ((PkM × List Str) × List Row)) := match mTrigger ls n s.2 s.1.ats with
  | none => none
  | some none => some none
  | some (some (tr2, at2, r)) => some (some ((⟨s.1.eds, at2⟩, tr2), r))
def mPackage (ls : List Str) (n : Nat) (tr : List Str) : Option (Option (Str × PkM × List Str × List Row)) := if fitsM (lineWords ls n 0) pkForm = true then
    match mRep (rdEd ls) 3 (n + 1) ⟨[], []⟩ with
    | none => none
    | some (m1, r1, c1) => if c1 = 0 then none else
      match mRep (rdTr ls) 2 (n + 1 + r1.length) (m1, tr) with
      | none => none
      | some (s2, r2, _) => some (some ((lineWords ls n 0).getD 1 "", s2.1, s2.2, ⟨"package", lineWords ls n 0⟩ :: (r1 ++ r2)))
  else some none
abbrev PkF (x : Dr) : List Addr := x.two ++ [x.packages, x.triggers]
/-- the draft's packages and triggers -/
structure Dr.Pkt (x : Dr) (CP CE : Addr) (Z : List Addr) (pm : List (Str × PkM)) (tr : List Str) (H : Hp) : Prop where
  pks : ∃ ks, H x.packages = some (.dK ks) ∧ DictAt (PkDone CP CE Z H) ks pm
  trs : H x.triggers = some (.lst (tr.map V.str))
  few : tr.length ≤ 3
  nt : x.triggers ≠ x.rows
theorem PkDone.off {CP CE : Addr} {Z F : List Addr} {H H' : Hp} {r : V} {m : PkM} (h : PkDone CP CE Z H r m) (mu : Mutes F H) (f : ∀ a ∈ F, a ∈ Z) (o : OffN F H H') : PkDone CP CE Z H' r m := by
  obtain ⟨g, e, h1, ⟨es, h2, p2⟩, ⟨ks, h3, p3⟩, n1, n2, n3⟩ := h
  exact ⟨g, e, o _ _ (fun z => n1 (f _ z)) h1 (fun ps z => by cases z), ⟨es, o _ _ (fun z => n2 (f _ z)) h2 (fun ps z => by cases z), p2.off mu f o⟩, ⟨ks, o _ _ (fun z => n3 (f _ z)) h3 (fun ps z => by cases z), p3.keep (OffN.tups o mu)⟩, n1, n2, n3⟩
theorem PkDone.sub {CP CE : Addr} {Z Y : List Addr} {H : Hp} {r : V} {m : PkM} (n : ∀ a, (∃ o, H a = some o) → a ∉ Z → a ∉ Y) (h : PkDone CP CE Z H r m) : PkDone CP CE Y H r m := by
  obtain ⟨g, e, h1, ⟨es, h2, p2⟩, ⟨ks, h3, p3⟩, n1, n2, n3⟩ := h
  exact ⟨g, e, h1, ⟨es, h2, p2.sub n⟩, ⟨ks, h3, p3⟩, n _ ⟨_, h1⟩ n1, n _ ⟨_, h2⟩ n2, n _ ⟨_, h3⟩ n3⟩
/-- things of Z other than the dict and the triggers are changed -/
theorem Dr.Pkt.off {x : Dr} {CP CE : Addr} {Z F : List Addr} {pm : List (Str × PkM)} {tr : List Str} {H H' : Hp} (h : x.Pkt CP CE Z pm tr H) (mu : Mutes F H) (f : ∀ a ∈ F, a ∈ Z) (o : OffN F H H') (n1 : x.packages ∉ F) (n2 : x.triggers ∉ F) : x.Pkt CP CE Z pm tr H' := by
  obtain ⟨ks, e, d⟩ := h.pks
  exact ⟨⟨ks, o _ _ n1 e (fun ps z => by cases z), d.keep fun v b q => q.off mu f o⟩, o _ _ n2 h.trs (fun ps z => by cases z), h.few, h.nt⟩
theorem Dr.Pkt.ext {x : Dr} {CP CE : Addr} {Z : List Addr} {pm : List (Str × PkM)} {tr : List Str} {H H' : Hp} (h : x.Pkt CP CE Z pm tr H) (s : LamX.ExtN H H') : x.Pkt CP CE Z pm tr H' :=
  h.off (F := []) (fun a ha => nomatch ha) (fun a ha => nomatch ha) (fun a u _ e t => s a u e t) (fun z => nomatch z) fun z => nomatch z
theorem Dr.Pkt.sub {x : Dr} {CP CE : Addr} {Z Y : List Addr} {pm : List (Str × PkM)} {tr : List Str} {H : Hp} (n : ∀ a, (∃ o, H a = some o) → a ∉ Z → a ∉ Y) (h : x.Pkt CP CE Z pm tr H) : x.Pkt CP CE Y pm tr H := by
  obtain ⟨ks, e, d⟩ := h.pks
  exact ⟨⟨ks, e, d.keep fun v b q => q.sub n⟩, h.trs, h.few, h.nt⟩
theorem Dr.Pkt.two {x : Dr} {CP CE C : Addr} {Z : List Addr} {ls : List Str} {rm : List Row} {pm : List (Str × PkM)} {tr : List Str} {H : Hp} (h : x.Pkt CP CE Z pm tr H) (R : Rd Z x C ls rm H) : x.packages ∉ x.two ∧ x.triggers ∉ x.two := by
  obtain ⟨ks, e, _⟩ := h.pks
  obtain ⟨rs, hrs, _⟩ := R.rows
  have a1 : x.packages ≠ x.d := ne_of e R.at_.obj fun z => by cases z
  have a2 : x.packages ≠ x.rows := ne_of e hrs fun z => by cases z
  have a3 : x.triggers ≠ x.d := ne_of h.trs R.at_.obj fun z => by cases z
  have a4 := h.nt
  constructor
  · simp [a1, a2]
  · simp [a3, a4]
theorem code_offN {F : List Addr} {H H' : Hp} {c : Addr} {q : Str} (e : H c = some (LamX.CodeO c q)) (m : Mutes F H) (o : OffN F H H') : H' c = some (LamX.CodeO c q) := o _ _ (m.not e (by
  unfold LamX.CodeO
  exact no_ext _)) e LamX.codeO_ne
theorem Mutes.app {F G : List Addr} {H : Hp} (a : Mutes F H) (b : Mutes G H) : Mutes (F ++ G) H := fun x hx => (List.mem_append.mp hx).elim (a x) (b x)
theorem OffN.more {F G : List Addr} {H H' : Hp} (s : OffN F H H') (g : ∀ a ∈ F, a ∈ G) : OffN G H H' := fun a o n e t => s a o (fun z => n (g a z)) e t
theorem mTrigger_len {ls : List Str} {n : Nat} {tr tr2 : List Str} {ats at2 : List (Str × List Cmd)} {r : List Row} (h : mTrigger ls n tr ats = some (some (tr2, at2, r))) (l : tr.length ≤ 3) : tr2.length ≤ 3 ∧ at2.length ≤ ats.length + 1 := by
  unfold mTrigger at h
  split at h
  · rename_i c
    split at h
    · cases h
    · cases h
      refine ⟨?_, putP_len _ _ _⟩
      rw [List.length_append, List.length_singleton]
      have := c.2
      omega
  · cases h
def spPackage (TT : List (Addr × Str)) (C CP CE : Addr) (ls : List Str) : Sp := fun vs H Q _ => ∃ (x : Dr) (Z : List Addr) (rm : List Row) (pm : List (Str × PkM)) (tr : List Str), vs = [.ref x.d] ∧ Rd Z x C ls rm H ∧ x.Pkt CP CE Z pm tr H ∧ LamX.Tabs TT H ∧ pm.length < 50 ∧
  ∃ res, mPackage ls rm.length tr = some res ∧ (res = none → ∀ H', OffN (PkF x) H H' → Rd Z x C ls rm H' → x.Pkt CP CE Z pm tr H' → LamX.Tabs TT H' → Q (.bl false) H') ∧
    ∀ nm m tr2 r2, res = some (nm, m, tr2, r2) → ∀ H', OffN (PkF x) H H' → Rd Z x C ls (rm ++ r2) H' → x.Pkt CP CE Z (putS pm nm m) tr2 H' → LamX.Tabs TT H' → Q (.bl true) H'
section
variable {P : Program} {w : World} {K : PySem.W.Frag} {mg : Str → Option Value} {base : Heap} {C CP CE fL fT : Addr} {fdL fdT : FuncData}
theorem ok_package {ls : List Str} {k : Nat} {f fF fN fR fS fI c Pt : Addr} {fd fdF fdN fdR fdS fdI : FuncData} {TT : List (Addr × Str)} (hk : 3 ≤ k) (G : Fun K "read_package" "read_package" sPackage f fd) (T : NatR mg) (Dn : DrFns P w K mg base C fL fT fdL fdT)
    (GF : FnOk P w K mg base CX0 3 fF fdF ["words", "form"] (spFits K)) (gF : mg "fits" = some (.ref fF)) (kF : PySem.W.keepIn K (.ref fF) = true) (bF : Binds K fdF ["words", "form"] [])
    (GS : Fun K "read_several" "read_several" sSeveral fS fdS) (bS : Binds K fdS ["read", "draft", "least", "most"] []) (gS : mg "read_several" = some (.ref fS)) (kS : PySem.W.keepIn K (.ref fS) = true)
    (GN : FnOk P w K mg base CX0 k fN fdN ["draft", "package"] (spEdition TT C CP CE ls)) (gN : mg "read_edition" = some (.ref fN)) (kN : PySem.W.keepIn K (.ref fN) = true) (bN : Binds K fdN ["draft", "package"] [])
    (GR : FnOk P w K mg base CX0 k fR fdR ["draft", "package"] (spTrigger C CP CE ls)) (gR : mg "read_trigger" = some (.ref fR)) (kR : PySem.W.keepIn K (.ref fR) = true) (bR : Binds K fdR ["draft", "package"] [])
    (MK : Mk K CP fI) (GI : FnOk P w K mg base CX0 1 fI fdI ["self"] (spPkInit CP)) (gP : mg "Package" = some (.ref CP)) (bI : Binds K fdI ["self"] [])
    (TB : LamX.TabB base mg c Pt) (hc : fd.code = .ref c) (hT : (Pt, ("read_package.<locals>.<lambda>" : Str)) ∈ TT) (hu : ∀ r ∈ TT, r.1 = Pt → r.2 = ("read_package.<locals>.<lambda>" : Str)) :
    FnOk P w K mg base CX0 (k + 3) f fd ["draft"] (spPackage TT C CP CE ls) := by
  refine okC G scPackage (fun vs H Q E h => ?_) (fun A outer s H vs Q E hr h => ?_)
  · obtain ⟨x, Z, rm, pm, tr, rfl, _⟩ := h
    rfl
  · obtain ⟨x, Z, rm, pm, tr, rfl, R, PA, tab, l1, res, hres, q1, q2⟩ := h
    have hr1 := hr.mono (show 1 ≤ k + 2 by omega)
    have hr2 := hr.mono (show 1 + 1 ≤ k + 2 by omega)
    have fr : ∀ {sc : Scope}, NdefX.ndefB (defScope sPackage) sc ["package"] = true → (cxOf CX0 P w K mg base ["draft", "words", "package"] "read_package" (defScope sPackage) f fd.code A outer s H E).nox.Ok → ∀ y ∈ sc.names, y.2 = .free → ∃ c, (cxOf CX0 P w K mg base ["draft", "words", "package"] "read_package" (defScope sPackage) f fd.code A outer s H E).nox.env.cells.lookup y.1 = some c := fun b ok y hy e =>
      (NdefX.ndef_free b y hy e).elim (fun z => ok.has _ (.inl z)) fun z => ok.has _ (.inr z)
    refine ⟨_, pss_cons (ps_set (i := 1) scPackage.nd rfl (Or.inl rfl) (pe_meth (pv 0) Dn.own.cl Dn.mLine Dn.line hr1 Dn.bLine .nil pass0 (pa_cons pe_int pa_nil)))
      (pss_cons (ps_if (pt_not (pt_val (pe_call GF (hr.mono (by omega)) (by rfl) gF kF bF .nil pass0 (pa_cons (pv 1) (pa_cons pe_str pa_nil))))) (pss_one (ps_ret pe_bl)) pss_nil)
      (pss_cons (ps_expr (pe_meth (pv 0) Dn.own.cl Dn.mTake Dn.take hr1 Dn.bTake .nil pass0 (pa_cons pe_str (pa_cons (pv 1) pa_nil))))
      (pss_cons (ps_set (i := 2) scPackage.nd rfl (Or.inr rfl) (pe_make0 MK GI hr2 (by rfl) gP bI .nil pass0))
      (pss_cons (ps_expr (pe_led (T := TT) (fr := ["package"]) (js := [2]) (fun f' c' pm ctv => led_several GS bS (act_edition GN gN kN bN)) hr (Nat.le_refl _) pass0 (by rfl) gS kS TB hc hT hu (fun y => rfl) (fun ok => NdefX.Caps.made ok (NdefX.ndef_free capEd) (NdefX.ndef_fr capEd) rfl) (fr capEd) rfl (pa_cons (pv 0) (pa_cons pe_int (pa_cons pe_int pa_nil)))))
      (pss_cons (ps_expr (pe_led (T := TT) (fr := ["package"]) (js := [2]) (fun f' c' pm ctv => led_several GS bS (act_trigger GR gR kR bR)) hr (Nat.le_refl _) pass0 (by rfl) gS kS TB hc hT hu (fun y => rfl) (fun ok => NdefX.Caps.made ok (NdefX.ndef_free capTr) (NdefX.ndef_fr capTr) rfl) (fr capTr) rfl (pa_cons (pv 0) (pa_cons pe_int (pa_cons pe_int pa_nil)))))
      (pss_cons (ps_dput (u1 hr.units) (pe_fld (pv 0) rfl) (pe_ix ix_list (pv 1) pe_int (fun _ _ => rfl)) (pv 2) rfl)
      (pss_one (ps_ret pe_bl)))))))), ?_⟩
    unfold mPackage at hres
    refine seq_go (line_goC (depth := 0) R rfl (by decide) fun p H1 w1 e1 np s1 => ?_)
    have R1 := R.same s1
    dsimp only
    refine seq_go (ifs_go (not_go (val_go ?_)))
    refine ⟨_, rfl, p, _, _, rfl, w1, by decide +kernel, fun H2 s2 => ⟨_, rfl, ite2 (fun b => ?_) fun b => ?_⟩⟩
    · have c1 : ¬ fitsM (lineWords ls rm.length 0) pkForm = true := by simpa using b
      have s12 := s1.trans s2
      rw [if_neg c1] at hres
      cases hres
      refine ret_go ?_
      exact q1 rfl H2 s12.off.n (R1.same s2) (PA.ext s12.ext) (LamX.Tabs.ext tab s12)
    have c1 : fitsM (lineWords ls rm.length 0) pkForm = true := by simpa using b
    rw [if_pos c1] at hres
    have s12 := s1.trans s2
    have R2 := R1.same s2
    have P2 := PA.ext s12.ext
    have T2 := LamX.Tabs.ext tab s12
    have e2 := s2 _ _ e1
    have hl : (lineWords ls rm.length 0).length = 2 := (fits_len c1).trans (by decide +kernel)
    have hn : rm.length < ls.length := line_there fun z => by
      rw [z] at hl
      cases hl
    refine next_go ?_
    dsimp only
    refine seq_go (drop_go (take_go R2 rfl rfl (.inr ⟨by decide +kernel, e2, np⟩) hn fun H3 o3 R3 => ?_))
    have P3 := P2.off R2.mutes R2.twoZ o3.n (P2.two R2).1 (P2.two R2).2
    have T3 := Tabs.off T2 R2.mutes o3
    have e3 := o3 _ _ (R2.there2 np) e2
    dsimp only
    refine seq_go ?_
    intro e ex he hex nee
    refine ⟨e, ex, rfl, upd_same, fun n pr H4 o4 hn4 hp4 obj hN hP => ⟨rfl, ?_⟩⟩
    have s4 : Same H3 H4 := fun a o ha => o4 a o (fun z => by
      rw [List.mem_singleton.mp z, he] at ha
      cases ha) (by
      rw [upd_ne (ne_of_none ha he), upd_ne (ne_of_none ha hex)]
      exact ha)
    have hn3 : H3 n = none := NdefX.upd_none (NdefX.upd_none hn4)
    have hp3 : H3 pr = none := NdefX.upd_none (NdefX.upd_none hp4)
    have fresh : ∀ a ∈ [n, pr], H3 a = none := fun a ha => by
      have ha : a = n ∨ a = pr := by simpa using ha
      rcases ha with rfl | rfl <;> assumption
    have R4 := R3.grow (N := [n, pr]) s4 fresh fun a ha => by
      have ha : a = n ∨ a = pr := by simpa using ha
      rcases ha with rfl | rfl
      · exact ⟨_, hN, fun ps z => by cases z⟩
      · exact ⟨_, hP, fun ps z => by cases z⟩
    have T4 := LamX.Tabs.ext T3 s4
    have newX : ∀ a, H3 a = none → a ∉ x.own := fun a ha z => R3.new ha (R3.own a z)
    have P4 : x.Pkt CP CE ([n, pr] ++ Z) pm tr H4 := (P3.sub fun a ⟨o, ea⟩ nz z => (List.mem_append.mp z).elim (fun y => by
      rw [fresh a y] at ea
      cases ea) nz).ext s4.ext
    have e4 := s4 _ _ e3
    have G4 : Pk.At ⟨e, ex, n, pr⟩ CP CE ([n, pr] ++ Z) x ⟨[], []⟩ H4 := by
      refine ⟨obj, ⟨[], hN, True.intro⟩, ⟨[], hP, True.intro⟩, ⟨⟨by simp, newX n hn3⟩, by simp, newX pr hp3⟩, fun z => ?_⟩
      rcases List.mem_append.mp z with z | z
      · have z : e = n ∨ e = pr := by simpa using z
        rcases z with z | z
        · rw [z, hN] at obj
          cases obj
        · rw [z, hP] at obj
          cases obj
      · exact R3.new he z
    have e6 : (rm ++ [(⟨"package", lineWords ls rm.length 0⟩ : Row)]).length = rm.length + 1 := by rw [List.length_append]; rfl
    cases h1 : mRep (rdEd ls) 3 (rm.length + 1) ⟨[], []⟩ with
    | none =>
      rw [h1] at hres
      cases hres
    | some o1 =>
      obtain ⟨m1, r1, cn⟩ := o1
      rw [h1] at hres
      dsimp only at hres
      by_cases hcn : cn = 0
      · rw [if_pos hcn] at hres
        cases hres
      rw [if_neg hcn] at hres
      cases h2 : mRep (rdTr ls) 2 (rm.length + 1 + r1.length) (m1, tr) with
      | none =>
        rw [h2] at hres
        cases hres
      | some o2 =>
        obtain ⟨⟨m2, tr2⟩, r2, cn2⟩ := o2
        rw [h2] at hres
        cases hres
        dsimp only
        have gown : ∀ a ∈ [n, pr], a ∉ x.two := fun a ha => two_own (newX a (fresh a ha))
        have pkN : x.packages ∉ [n, pr] := fun z => by
          obtain ⟨ks, ek, _⟩ := P3.pks
          rw [fresh _ z] at ek
          cases ek
        have trN : x.triggers ∉ [n, pr] := fun z => by
          have ek := P3.trs
          rw [fresh _ z] at ek
          cases ek
        refine seq_go (drop_go ⟨T4, fun f1 c' H5 x5 T5 hf1 hc1 => ⟨_, rfl, hc1, ?_⟩⟩)
        refine rep_go (least := 1) (most := 3) (St := fun j (mm : PkM) rows HH => OffN (x.two ++ [n]) H4 HH ∧ Rd ([n, pr] ++ Z) x C ls rows HH ∧ Pk.At ⟨e, ex, n, pr⟩ CP CE ([n, pr] ++ Z) x mm HH ∧ LamX.Tabs TT HH ∧ HH c' = some (LamX.CodeO c' _) ∧ mm.eds.length ≤ j ∧ mm.ats = [] ∧ x.Pkt CP CE ([n, pr] ++ Z) pm tr HH)
          (rm := rm ++ [(⟨"package", lineWords ls rm.length 0⟩ : Row)]) ⟨ExtN.n x5, R4.ext x5, G4.ext x5, T5, hc1, Nat.le_refl _, rfl, P4.ext x5⟩ (fun j mm r0 HH st q hq => by rw [List.mem_singleton.mp hq]; exact st.2.2.2.2.1) (by rw [e6]; exact h1) (by omega) ?_ ?_
        · rintro j mm r0 HH W rs lt ⟨oo, RR, GG, TT1, cc, lm, am, PP⟩ hrd k1 k2
          have mu : Mutes (EdF x ⟨e, ex, n, pr⟩) HH := by
            obtain ⟨es, hes, _⟩ := GG.eds
            exact RR.mutes.app fun a ha => by
              rw [List.mem_singleton.mp ha]
              exact ⟨_, hes, .inl ⟨_, rfl⟩⟩
          have subF : ∀ a ∈ EdF x ⟨e, ex, n, pr⟩, a ∈ [n, pr] ++ Z := fun a ha => (List.mem_append.mp ha).elim (RR.twoZ a) fun z => by
            have z : a = n := by simpa using z
            simp [z]
          have n1 : x.packages ∉ EdF x ⟨e, ex, n, pr⟩ := fun z => (List.mem_append.mp z).elim (PP.two RR).1 fun z => pkN (by
            have z : x.packages = n := by simpa using z
            simp [z])
          have n2 : x.triggers ∉ EdF x ⟨e, ex, n, pr⟩ := fun z => (List.mem_append.mp z).elim (PP.two RR).2 fun z => trN (by
            have z : x.triggers = n := by simpa using z
            simp [z])
          unfold rdEd at hrd
          cases hE : mEdition ls (rm ++ [(⟨"package", lineWords ls rm.length 0⟩ : Row)] ++ r0).length mm.eds.length with
          | none =>
            rw [hE] at hrd
            cases hrd
          | some resE =>
            rw [hE] at hrd
            refine ⟨_, _, rfl, rfl, x, ⟨e, ex, n, pr⟩, _, _, mm, rfl, RR, GG, TT1, by omega, resE, hE, fun er H' o' R' G' T' => ?_, fun em rr er H' o' R' G' T' => ?_⟩
            · subst er
              cases hrd
              exact k1 rfl H' ⟨oo.trans o', R', G', T', code_offN cc mu o', lm, am, PP.off mu subF o' n1 n2⟩
            · subst er
              cases hrd
              refine k2 _ _ rfl H' ⟨oo.trans o', ?_, G', T', code_offN cc mu o', ?_, am, PP.off mu subF o' n1 n2⟩
              · rw [← List.append_assoc]
                exact R'
              · rw [List.length_append, List.length_singleton]
                omega
        · rintro j H6 hj ⟨o6, R6, G6, T6, _, _, am6, P6⟩
          dsimp only
          have e6b : (rm ++ [(⟨"package", lineWords ls rm.length 0⟩ : Row)] ++ r1).length = rm.length + 1 + r1.length := by rw [List.length_append, e6]
          have lam : m1.ats.length = 0 := by rw [am6]; rfl
          refine seq_go (drop_go ⟨T6, fun f2 c2 H7 x7 T7 hf2 hc2 => ⟨_, rfl, hc2, ?_⟩⟩)
          refine rep_go (least := 0) (most := 2) (St := fun j (ss : PkM × List Str) rows HH => OffN (x.two ++ [x.triggers, n, pr]) H4 HH ∧ Rd ([n, pr] ++ Z) x C ls rows HH ∧ Pk.At ⟨e, ex, n, pr⟩ CP CE ([n, pr] ++ Z) x ss.1 HH ∧ LamX.Tabs TT HH ∧ HH c2 = some (LamX.CodeO c2 _) ∧ ss.1.ats.length ≤ j ∧ x.Pkt CP CE ([n, pr] ++ Z) pm ss.2 HH)
            (rm := rm ++ [(⟨"package", lineWords ls rm.length 0⟩ : Row)] ++ r1) ⟨(o6.more fun a ha => (List.mem_append.mp ha).elim (fun z => List.mem_append_left _ z) fun z => List.mem_append_right _ (by
              have z : a = n := by simpa using z
              simp [z])).trans (ExtN.n x7), R6.ext x7, G6.ext x7, T7, hc2, Nat.le_of_eq lam, P6.ext x7⟩ (fun j mm r0 HH st q hq => by rw [List.mem_singleton.mp hq]; exact st.2.2.2.2.1) (by rw [e6b]; exact h2) (Nat.zero_le _) ?_ ?_
          · rintro j ⟨mm, tt⟩ r0 HH W rs lt ⟨oo, RR, GG, TT1, cc, la, PP⟩ hrd k1 k2
            have two := PP.two RR
            have mu : Mutes (TrF x ⟨e, ex, n, pr⟩) HH := by
              obtain ⟨ks, hks, _⟩ := GG.ats
              exact RR.mutes.app fun a ha => by
                have ha : a = x.triggers ∨ a = pr := by simpa using ha
                rcases ha with rfl | rfl
                · exact ⟨_, PP.trs, .inl ⟨_, rfl⟩⟩
                · exact ⟨_, hks, .inr (.inl ⟨_, rfl⟩)⟩
            have subF : ∀ a ∈ TrF x ⟨e, ex, n, pr⟩, a ∈ [n, pr] ++ Z := fun a ha => (List.mem_append.mp ha).elim (RR.twoZ a) fun z => by
              have z : a = x.triggers ∨ a = pr := by simpa using z
              rcases z with rfl | rfl
              · exact RR.own _ (by simp [Dr.own])
              · simp
            have subO : ∀ a ∈ TrF x ⟨e, ex, n, pr⟩, a ∈ x.two ++ [x.triggers, n, pr] := fun a ha => (List.mem_append.mp ha).elim (fun z => List.mem_append_left _ z) fun z => List.mem_append_right _ (by
              have z : a = x.triggers ∨ a = pr := by simpa using z
              rcases z with rfl | rfl <;> simp)
            have pkt : ∀ {tt2 : List Str} {H' : Hp}, OffN (TrF x ⟨e, ex, n, pr⟩) HH H' → H' x.triggers = some (.lst (tt2.map V.str)) → tt2.length ≤ 3 → x.Pkt CP CE ([n, pr] ++ Z) pm tt2 H' := fun {tt2 H'} o' ht l3 => by
              obtain ⟨ks, ek, dk⟩ := PP.pks
              refine ⟨⟨ks, o' _ _ (fun z => ?_) ek (fun ps z => by cases z), dk.keep fun v b q => q.off mu subF o'⟩, ht, l3, PP.nt⟩
              rcases List.mem_append.mp z with z | z
              · exact two.1 z
              · have z : x.packages = x.triggers ∨ x.packages = pr := by simpa using z
                rcases z with z | z
                · rw [z, PP.trs] at ek
                  cases ek
                · exact pkN (by simp [z])
            unfold rdTr at hrd
            dsimp only at hrd
            cases hE : mTrigger ls (rm ++ [(⟨"package", lineWords ls rm.length 0⟩ : Row)] ++ r1 ++ r0).length tt mm.ats with
            | none =>
              rw [hE] at hrd
              cases hrd
            | some resE =>
              rw [hE] at hrd
              dsimp only at la
              refine ⟨_, _, rfl, rfl, x, ⟨e, ex, n, pr⟩, _, _, mm, tt, rfl, RR, GG, PP.trs, PP.few, PP.nt, by omega, resE, hE, fun er H' o' R' G' t' => ?_, fun tr3 at3 rr er H' o' R' G' t' => ?_⟩
              · subst er
                cases hrd
                exact k1 rfl H' ⟨oo.trans (o'.n.more subO), R', G', Tabs.off TT1 mu o', code_off cc mu o', la, pkt o'.n t' PP.few⟩
              · subst er
                cases hrd
                have ml := mTrigger_len hE PP.few
                refine k2 _ _ rfl H' ⟨oo.trans (o'.n.more subO), ?_, G', Tabs.off TT1 mu o', code_off cc mu o', ?_, pkt o'.n t' ml.1⟩
                · rw [← List.append_assoc]
                  exact R'
                · have := ml.2
                  dsimp only
                  omega
          · rintro j2 H8 hj2 ⟨o8, R8, G8, T8, _, _, P8⟩
            dsimp only at G8 P8
            obtain ⟨ks8, hks8, d8⟩ := P8.pks
            have e8 := o8 p _ (fun z => by
              rcases List.mem_append.mp z with z | z
              · exact R3.there2 np z
              · have z : p = x.triggers ∨ p = n ∨ p = pr := by simpa using z
                rcases z with z | z | z
                · exact np (by rw [z]; exact R.own _ (by simp [Dr.own]))
                · rw [z, hn3] at e3
                  cases e3
                · rw [z, hp3] at e3
                  cases e3) e4 (fun ps z => by cases z)
            refine seq_go ?_
            refine ⟨_, rfl, _, rfl, x.d, C, x.dx, _, _, rfl, R8.at_.obj, Dn.own.cl, Dn.own.no _ (by decide), x.lk_packages _, _, rfl, p, _, _, _, rfl, rfl, .inl (.inl e8), get_word (i := 1) (by omega), x.packages, _, rfl, DPut.k (k := .inr _) hks8 ?_, ?_⟩
            · have := d8.len
              rw [sizeLine_eq]
              omega
            dsimp only
            refine ret_go ?_
            have pz : x.packages ∈ Z := R.own _ (by simp [Dr.own])
            have ntK : ∀ xs, HO.dK ks8 ≠ .tup xs := fun xs z => by cases z
            have nd : x.d ≠ x.packages := ne_of R8.at_.obj hks8 fun z => by cases z
            have nr : x.rows ≠ x.packages := by
              obtain ⟨rs, hrs, _⟩ := R8.rows
              exact ne_of hrs hks8 fun z => by cases z
            have R9 := (R8.less (fun a ha => List.mem_append_right _ ha) R3.own).put2 (o := .dK (putK ks8 (.inr ((lineWords ls rm.length 0).getD 1 "")) (.ref e))) pz nd nr hks8 ntK
            rw [List.append_assoc, List.append_assoc] at R9
            have mu9 : Mutes [x.packages] H8 := fun a ha => by
              rw [List.mem_singleton.mp ha]
              exact ⟨_, hks8, .inr (.inl ⟨_, rfl⟩)⟩
            have o9 : Off [x.packages] H8 (upd H8 x.packages (.dK (putK ks8 (.inr ((lineWords ls rm.length 0).getD 1 "")) (.ref e)))) := off_upd List.mem_cons_self
            have f9 : ∀ a ∈ [x.packages], a ∈ Z := fun a ha => by
              rw [List.mem_singleton.mp ha]
              exact pz
            have down : ∀ a, (∃ o, H8 a = some o) → a ∉ [n, pr] ++ Z → a ∉ Z := fun a _ nz z => nz (List.mem_append_right _ z)
            obtain ⟨es8, hes8, ed8⟩ := G8.eds
            obtain ⟨ka8, hka8, ea8⟩ := G8.ats
            have nZ : ∀ a, H3 a = none → a ∉ Z := fun a ha => R3.new ha
            refine q2 _ _ _ _ rfl _ (fun a o na ha nt => ?_) R9 ⟨⟨_, upd_same, dict_put (d8.keep fun v b q => (q.sub down).off mu9 f9 o9.n) ⟨⟨e, ex, n, pr⟩, rfl, ?_, ⟨es8, ?_, (ed8.sub down).off mu9 f9 o9.n⟩, ⟨ka8, ?_, ea8.keep (OffN.tups o9.n mu9)⟩, nZ e he, nZ n hn3, nZ pr hp3⟩⟩, ?_, P8.few, P8.nt⟩ (Tabs.off T8 mu9 o9)
            · have n1 : a ∉ x.two := fun z => na (List.mem_append_left _ z)
              have n2 : a ≠ x.packages := fun z => na (List.mem_append_right _ (by simp [z]))
              have n3 : a ≠ x.triggers := fun z => na (List.mem_append_right _ (by simp [z]))
              have a3 := o3 a o n1 (s12 _ _ ha)
              rw [upd_ne n2]
              refine o8 a o (fun z => ?_) (s4 _ _ a3) nt
              rcases List.mem_append.mp z with z | z
              · exact n1 z
              · have z : a = x.triggers ∨ a = n ∨ a = pr := by simpa using z
                rcases z with z | z | z
                · exact n3 z
                · rw [z, hn3] at a3
                  cases a3
                · rw [z, hp3] at a3
                  cases a3
            · rw [upd_ne (ne_of G8.obj hks8 fun z => by cases z)]
              exact G8.obj
            · rw [upd_ne (ne_of hes8 hks8 fun z => by cases z)]
              exact hes8
            · rw [upd_ne fun z => nZ pr hp3 (by
                have z : pr = x.packages := z
                rw [z]
                exact pz)]
              exact hka8
            · rw [upd_ne (ne_of P8.trs hks8 fun z => by cases z)]
              exact P8.trs
end
end Sc

namespace Sc
open PySem L2 PySem.Spec PyProof.Rows Lm
/-! ### read_cell -/
abbrev sCell : Stmt := top 53
theorem scCell : FnScope ["draft", "words"] ["draft"] (defScope sCell) := ⟨rfl, rfl, rfl, by decide +kernel, rfl, by decide +kernel, by decide +kernel⟩
def noOwn (ws : List Str) : List Str := if lastIs ws "own" = true then cutW ws none (some (-1)) else ws
structure CellM where
  name : Str
  words : List Str
  own : Bool
def cellOf (ws : List Str) : CellM := ⟨(noOwn ws).getD 1 "", cutW (noOwn ws) (some 2) none, lastIs ws "own"⟩
def ownedOf (ow : List Str) (ws : List Str) : List Str := if lastIs ws "own" = true then ow ++ [ws.getD 1 ""] else ow
def WordsTup (H : Hp) (v : V) (ws : List Str) : Prop := ∃ p, v = .ref p ∧ H p = some (.tup (ws.map V.str))
structure Dr.Cel (x : Dr) (cm : List (Str × List Str)) (ow : List Str) (H : Hp) : Prop where
  cells : ∃ ks, H x.cells = some (.dK ks) ∧ DictAt (WordsTup H) ks cm
  owned : H x.owned = some (.lst (ow.map V.str))
  no : x.owned ≠ x.rows
abbrev CelF (x : Dr) : List Addr := x.two ++ [x.cells, x.owned]
def spCell (C : Addr) (ls : List Str) : Sp := fun vs H Q _ => ∃ (x : Dr) (Z : List Addr) (rm : List Row) (cm : List (Str × List Str)) (ow : List Str), vs = [.ref x.d] ∧ Rd Z x C ls rm H ∧ x.Cel cm ow H ∧ cm.length < 50 ∧ ow.length < 50 ∧
  (¬ cellLine (lineWords ls rm.length 0) = true → ∀ H', Off (CelF x) H H' → Rd Z x C ls rm H' → x.Cel cm ow H' → Q (.bl false) H') ∧
    (cellLine (lineWords ls rm.length 0) = true → ∀ H', Off (CelF x) H H' → Rd Z x C ls (rm ++ [⟨"cell", lineWords ls rm.length 0⟩]) H' → x.Cel (putS cm (cellOf (lineWords ls rm.length 0)).name (cellOf (lineWords ls rm.length 0)).words) (ownedOf ow (lineWords ls rm.length 0)) H' → Q (.bl true) H')
theorem cut_len1 (ws : List Str) : (cutW ws (some 1) none).length = ws.length - 1 := by
  unfold cutW
  rw [List.length_take, List.length_drop]
  have e : HT.sIx ws.length 0 (some 1) = min 1 ws.length := HT.sIx_nat _ _ 1
  rw [e]
  show min (ws.length - min 1 ws.length) _ = _
  omega
theorem cut_lenE (ws : List Str) : (cutW ws none (some (-1))).length = ws.length - 1 := by
  unfold cutW
  rw [List.length_take, List.length_drop]
  have e : HT.sIx ws.length ws.length (some (-1)) = ws.length - 1 := by
    show (if (-1 : Int) < 0 then ((-1 : Int) + (ws.length : Int)).toNat else min (-1 : Int).toNat ws.length) = _
    rw [if_pos (by decide)]
    omega
  rw [e]
  show min (ws.length - 1 - 0) (ws.length - 0) = _
  omega
theorem cellLine_len {ws : List Str} (h : cellLine ws = true) : 4 ≤ ws.length ∧ 1 < (noOwn ws).length := by
  unfold cellLine at h
  simp only [Bool.and_eq_true, decide_eq_true_eq] at h
  have h3 := h.1.2.1
  have l1 := cut_len1 ws
  have le : (cellNames ws).length ≤ (cutW ws (some 1) none).length := by
    unfold cellNames
    split
    · exact (cutW_sub _ _ _).1
    · exact Nat.le_refl _
  refine ⟨by omega, ?_⟩
  unfold noOwn
  split
  · rw [cut_lenE]
    omega
  · omega
theorem WordsTup.keep {H H' : Hp} {v : V} {ws : List Str} (t : Tups H H') (h : WordsTup H v ws) : WordsTup H' v ws := by
  obtain ⟨p, e, hp⟩ := h
  exact ⟨p, e, t _ _ hp⟩
theorem Dr.Cel.off {x : Dr} {F : List Addr} {cm : List (Str × List Str)} {ow : List Str} {H H' : Hp} (h : x.Cel cm ow H) (t : Tups H H') (o : OffN F H H') (n1 : x.cells ∉ F) (n2 : x.owned ∉ F) : x.Cel cm ow H' := by
  obtain ⟨ks, e, d⟩ := h.cells
  exact ⟨⟨ks, o _ _ n1 e (fun ps z => by cases z), d.keep fun v b q => q.keep t⟩, o _ _ n2 h.owned (fun ps z => by cases z), h.no⟩
theorem Dr.Cel.two {x : Dr} {C : Addr} {Z : List Addr} {ls : List Str} {rm : List Row} {cm : List (Str × List Str)} {ow : List Str} {H : Hp} (h : x.Cel cm ow H) (R : Rd Z x C ls rm H) : x.cells ∉ x.two ∧ x.owned ∉ x.two := by
  obtain ⟨ks, e, _⟩ := h.cells
  obtain ⟨rs, hrs, _⟩ := R.rows
  have a1 : x.cells ≠ x.d := ne_of e R.at_.obj fun z => by cases z
  have a2 : x.cells ≠ x.rows := ne_of e hrs fun z => by cases z
  have a3 : x.owned ≠ x.d := ne_of h.owned R.at_.obj fun z => by cases z
  have a4 := h.no
  constructor
  · simp [a1, a2]
  · simp [a3, a4]
section
variable {P : Program} {w : World} {K : PySem.W.Frag} {mg : Str → Option Value} {base : Heap} {C fL fT : Addr} {fdL fdT : FuncData}
theorem ok_cell {ls : List Str} {f fC : Addr} {fd fdC : FuncData} (G : Fun K "read_cell" "read_cell" sCell f fd) (T : NatR mg) (Dn : DrFns P w K mg base C fL fT fdL fdT)
    (GC : FnOk P w K mg base CX0 3 fC fdC ["words"] (spRow K cellLine)) (gC : mg "is_cell_line" = some (.ref fC)) (kC : PySem.W.keepIn K (.ref fC) = true) (bC : Binds K fdC ["words"] []) :
    FnOk P w K mg base CX0 4 f fd ["draft"] (spCell C ls) := by
  refine G.ok scCell (fun vs H Q E h => ?_) (fun cdv A outer s H vs Q E hr h => ?_)
  · obtain ⟨x, Z, rm, cm, ow, rfl, _⟩ := h
    rfl
  · obtain ⟨x, Z, rm, cm, ow, rfl, R, CA, l1, l2, q1, q2⟩ := h
    have hr1 := hr.mono (show 1 ≤ 3 by decide)
    refine ⟨_, pss_cons (ps_set (i := 1) scCell.nd rfl (Or.inl rfl) (pe_meth (pv 0) Dn.own.cl Dn.mLine Dn.line hr1 Dn.bLine .nil pass0 (pa_cons pe_int pa_nil)))
      (pss_cons (ps_if (pt_not (pt_val (pe_call GC hr (by rfl) gC kC bC .nil pass0 (pa_cons (pv 1) pa_nil)))) (pss_one (ps_ret pe_bl)) pss_nil)
      (pss_cons (ps_expr (pe_meth (pv 0) Dn.own.cl Dn.mTake Dn.take hr1 Dn.bTake .nil pass0 (pa_cons pe_str (pa_cons (pv 1) pa_nil))))
      (pss_cons (ps_if (pt_cmpR op_eq (pe_ix ix_list (pv 1) (pe_un un_neg pe_int) (fun _ _ => rfl)) pe_str (nomark _))
        (pss_cons (ps_expr (pe_bm PySem.F.plainAttrs_list PySem.F.slot_list_append PySem.F.type_list_append mt_append (pe_fld (pv 0) rfl) (pa_cons (pe_ix ix_list (pv 1) pe_int (fun _ _ => rfl)) pa_nil)))
          (pss_one (ps_set (i := 1) scCell.nd rfl (Or.inl rfl) (pe_slice sl_list (pv 1) po_none (po_some (pe_un un_neg pe_int)))))) pss_nil)
      (pss_cons (ps_dput (u1 hr.units) (pe_fld (pv 0) rfl) (pe_ix ix_list (pv 1) pe_int (fun _ _ => rfl)) (pe_callTy call_tuple_of (by rfl) T.tuple (by decide +kernel) (pa_cons (pe_slice sl_list (pv 1) (po_some pe_int) po_none) pa_nil)) rfl)
      (pss_one (ps_ret pe_bl)))))), ?_⟩
    refine seq_go (line_goC (depth := 0) R rfl (by decide) fun p H1 w1 e1 np s1 => ?_)
    have R1 := R.same s1
    dsimp only
    refine seq_go (ifs_go (not_go (val_go ?_)))
    refine ⟨_, rfl, p, _, rfl, w1, fun H2 s2 => ⟨_, rfl, ite2 (fun b => ?_) fun b => ?_⟩⟩
    · have c1 : ¬ cellLine (lineWords ls rm.length 0) = true := by simpa using b
      have s12 := s1.trans s2
      have C2 := CA.off (F := []) s12.tups s12.off.n (fun z => nomatch z) fun z => nomatch z
      refine ret_go ?_
      exact q1 c1 H2 s12.off (R1.same s2) C2
    have c1 : cellLine (lineWords ls rm.length 0) = true := by simpa using b
    have s12 := s1.trans s2
    have R2 := R1.same s2
    have C2 := CA.off (F := []) s12.tups s12.off.n (fun z => nomatch z) fun z => nomatch z
    have e2 := s2 _ _ e1
    have w2 := w1.same s2
    obtain ⟨hl, hl2⟩ := cellLine_len c1
    have hn : rm.length < ls.length := line_there fun z => by
      rw [z] at hl
      cases hl
    have q2 := q2 c1
    refine next_go ?_
    dsimp only
    refine seq_go (drop_go (take_go R2 rfl rfl (.inr ⟨by decide +kernel, e2, np⟩) hn fun H3 o3 R3 => ?_))
    have C3 := C2.off (OffN.tups o3.n R2.mutes) o3.n (C2.two R2).1 (C2.two R2).2
    have e3 := o3 _ _ (R2.there2 np) e2
    generalize hws : lineWords ls rm.length 0 = ws at *
    have o03 : Off (CelF x) H H3 := s12.off.trans (o3.more fun a ha => List.mem_append_left _ ha)
    -- the last two statements
    have after : ∀ (H4 : Hp) (W : Addr) (ow2 : List Str), Off (CelF x) H H4 → Rd Z x C ls (rm ++ [⟨"cell", ws⟩]) H4 → x.Cel cm ow2 H4 → H4 W = some (.lst ((noOwn ws).map V.str)) → ow2 = ownedOf ow ws →
        tSeq (sDPut (tFld K (tVar 0) "cells") (tOp (rIxL K) (tVar 1) (tC (.int 1))) (tCB (fun xs H Q => ∃ p ys, xs = [.ref p] ∧ ((SqL K H p ys ∧ ∀ l, H l = none → Q (.ref l) (upd H l (.tup ys))) ∨ (SqT K H p ys ∧ Q (.ref p) H))) (tCons (tSl (rSlL K) (tVar 1) (tPart (tC (.int 2))) tNoPart) tNil)))
          (tRet (tC (.bl true))) { nx := fun _ H' => Q .non H', rt := Q } [some (.ref x.d), some (.ref W)] H4 := fun H4 W ow2 o4 R4 C4 hW eo => by
      refine seq_go ?_
      refine ⟨_, rfl, _, rfl, W, _, rfl, .inl (.inl hW), fun L hL => ?_⟩
      have s5 := same_new (o := .lst (cutV ((noOwn ws).map V.str) (some 2) none)) hL
      have g5 : (upd H4 L (.lst (cutV ((noOwn ws).map V.str) (some 2) none))) L = some (.lst ((cutW (noOwn ws) (some 2) none).map V.str)) := by
        rw [upd_same, cutV_map]
      generalize upd H4 L (.lst (cutV ((noOwn ws).map V.str) (some 2) none)) = H5 at s5 g5 ⊢
      refine ⟨L, _, rfl, .inl ⟨.inl (.inl g5), fun t ht => ?_⟩⟩
      have s6 := s5.trans (same_new (o := .tup ((cutW (noOwn ws) (some 2) none).map V.str)) ht)
      have t6 : (upd H5 t (.tup ((cutW (noOwn ws) (some 2) none).map V.str))) t = some (.tup ((cutW (noOwn ws) (some 2) none).map V.str)) := upd_same
      generalize upd H5 t (.tup ((cutW (noOwn ws) (some 2) none).map V.str)) = H6 at s6 t6 ⊢
      have R6 := R4.same s6
      have C6 := C4.off (F := []) s6.tups s6.off.n (fun z => nomatch z) fun z => nomatch z
      have W6 := s6 _ _ hW
      obtain ⟨ks, hks, dk⟩ := C6.cells
      refine ⟨_, rfl, x.d, C, x.dx, _, _, rfl, R6.at_.obj, Dn.own.cl, Dn.own.no _ (by decide), x.lk_cells _, _, rfl, W, _, _, _, rfl, rfl, .inl (.inl W6), get_word (i := 1) hl2, x.cells, _, rfl, DPut.k (k := .inr _) hks ?_, ?_⟩
      · have := dk.len
        rw [sizeLine_eq]
        omega
      dsimp only
      refine ret_go ?_
      have ntK : ∀ xs, HO.dK ks ≠ .tup xs := fun xs z => by cases z
      have two := C6.two R6
      have tp := tups_upd (o := .dK (putK ks (.inr ((noOwn ws).getD 1 "")) (.ref t))) hks ntK
      have R7 := R6.put2 (o := .dK (putK ks (.inr ((noOwn ws).getD 1 "")) (.ref t))) (R.own _ (by simp [Dr.own])) (fun z => two.1 (by simp [← z])) (fun z => two.1 (by simp [← z])) hks ntK
      subst eo
      refine q2 _ ((o4.trans s6.off).trans (off_upd (List.mem_append_right _ (by simp)))) R7 ⟨⟨_, upd_same, dict_put (dk.keep fun v b q => q.keep tp) ⟨t, rfl, tp _ _ t6⟩⟩, ?_, C6.no⟩
      rw [upd_ne (ne_of C6.owned hks fun z => by cases z)]
      exact C6.owned
    have wne : ws ≠ [] := fun z => by
      rw [z] at hl
      cases hl
    obtain ⟨lw, f1, f2, f3⟩ := last_get wne
    dsimp only
    refine seq_go (ifs_go (test_go (op_go ?_)))
    refine ⟨_, rfl, _, rfl, p, _, _, _, rfl, rfl, .inl (.inl e3), f3, rfl, _, rfl, ite2 (fun c => ?_) fun c => ?_⟩
    · have own : lastIs ws ("own" : Str) = true := by
        rw [dec_str] at c
        unfold lastIs
        rw [f1]
        simpa using c
      refine seq_go (drop_go (bm_go (fld_go Dn.own R3.at_ rfl (by decide) (x.lk_owned _) ?_)))
      refine ⟨.inl ⟨rfl, _, .inl (.inl C3.owned)⟩, _, rfl, p, _, _, _, rfl, rfl, .inl (.inl e3), get_word (i := 1) (by omega), x.owned, _, _, rfl, rfl, C3.owned, ?_, ?_⟩
      · rw [List.length_map, sizeLine_eq]
        omega
      have two := C3.two R3
      have oz : x.owned ∈ Z := R.own _ (by simp [Dr.own])
      have ntO : ∀ xs, HO.lst (ow.map V.str) ≠ .tup xs := fun xs z => by cases z
      have tp := tups_upd (o := .lst (ow.map V.str ++ [.str (ws.getD 1 "")])) C3.owned ntO
      have R4 := R3.put2 (o := .lst (ow.map V.str ++ [.str (ws.getD 1 "")])) oz (fun z => two.2 (by simp [← z])) (fun z => two.2 (by simp [← z])) C3.owned ntO
      have C4 : x.Cel cm (ow ++ [ws.getD 1 ""]) (upd H3 x.owned (.lst (ow.map V.str ++ [.str (ws.getD 1 "")]))) := by
        obtain ⟨ks, ek, dk⟩ := C3.cells
        refine ⟨⟨ks, (upd_ne (ne_of ek C3.owned fun z => by cases z)).trans ek, dk.keep fun v b q => q.keep tp⟩, ?_, C3.no⟩
        rw [upd_same, List.map_append]
        rfl
      have e4 : (upd H3 x.owned (.lst (ow.map V.str ++ [.str (ws.getD 1 "")]))) p = some (.lst (ws.map V.str)) := by
        rw [upd_ne fun z => np (by rw [z]; exact oz)]
        exact e3
      have o04 := o03.trans (off_upd (o := .lst (ow.map V.str ++ [.str (ws.getD 1 "")])) (List.mem_append_right x.two (show x.owned ∈ [x.cells, x.owned] by simp)))
      dsimp only
      generalize upd H3 x.owned (.lst (ow.map V.str ++ [.str (ws.getD 1 "")])) = H4 at R4 C4 e4 o04 ⊢
      refine ⟨_, rfl, _, rfl, _, rfl, p, _, rfl, .inl (.inl e4), fun L hL => ?_⟩
      have s5 := same_new (o := .lst (cutV (ws.map V.str) none (some (-1)))) hL
      have g5 : (upd H4 L (.lst (cutV (ws.map V.str) none (some (-1))))) L = some (.lst ((noOwn ws).map V.str)) := by
        unfold noOwn
        rw [if_pos own, upd_same, cutV_map]
      refine after _ L _ (o04.trans s5.off) (R4.same s5) (C4.off (F := []) s5.tups s5.off.n (fun z => nomatch z) fun z => nomatch z) g5 ?_
      unfold ownedOf
      rw [if_pos own]
    · have own : ¬ lastIs ws ("own" : Str) = true := by
        rw [dec_str] at c
        unfold lastIs
        rw [f1]
        simpa using c
      refine next_go ?_
      dsimp only
      refine after H3 p ow o03 R3 C3 ?_ ?_
      · unfold noOwn
        rw [if_neg own]
        exact e3
      · unfold ownedOf
        rw [if_neg own]
end
end Sc

namespace Sc
open PySem L2 PySem.Spec PyProof.Rows Lm
/-! ### edition_number, of a word that is a number -/
abbrev sEdNum : Stmt := top 27
abbrev sInSeq : Stmt := top 64
theorem scEdNum : FnScope ["word"] ["word"] (defScope sEdNum) := ⟨rfl, rfl, rfl, by decide +kernel, rfl, by decide +kernel, by decide +kernel⟩
theorem scInSeq : FnScope ["packages", "names", "places", "name"] ["packages", "names"] (defScope sInSeq) := ⟨rfl, rfl, rfl, by decide +kernel, rfl, by decide +kernel, by decide +kernel⟩
def edNum (x : Str) : Int := if x.length = 1 then (PySem.intText? x).getD 0 else 0
def digit1 (x : Str) : Bool := x.length != 1 || (PySem.intText? x).isSome
def spEdNum : Sp := fun vs H Q _ => ∃ x : Str, vs = [.str x] ∧ x.length ≤ 20000 ∧ digit1 x = true ∧ Q (.int (edNum x)) H
theorem intText_digit : ∀ c : Nat, c < 58 → 48 ≤ c → (PySem.intText? ⟨#[c]⟩).isSome = true := by
  have h : ∀ c, c < 58 → (decide (48 ≤ c) && !(PySem.intText? ⟨#[c]⟩).isSome) = false := by decide +kernel
  intro c h1 h2
  have := h c h1
  rw [decide_eq_true h2] at this
  simpa using this
theorem digit1_of {x : Str} (h : number x = true) : digit1 x = true := by
  unfold digit1
  by_cases hl : x.length = 1
  · rw [hl]
    show (false || (PySem.intText? x).isSome) = true
    unfold number at h
    split at h
    · cases h
    · rename_i c
      have ai : allIn x digits = true := by
        cases e : allIn x digits
        · rw [e] at c
          simp at c
        · rfl
      obtain ⟨cs⟩ := x
      have hl : cs.size = 1 := hl
      obtain ⟨d, rfl⟩ : ∃ d, cs = #[d] := ⟨cs[0], by
        apply Array.ext
        · simp [hl]
        · intro i h1 h2
          have : i = 0 := by omega
          subst this
          simp⟩
      have hd : d ∈ digits.cps.toList := by
        unfold allIn at ai
        simpa using ai
      have hdl : digits.cps.toList = [48, 49, 50, 51, 52, 53, 54, 55, 56, 57] := by decide +kernel
      rw [hdl] at hd
      have h1 : d < 58 ∧ 48 ≤ d := by
        simp at hd
        omega
      exact intText_digit d h1.1 h1.2
  · simp [hl]
section
variable {P : Program} {w : World} {K : PySem.W.Frag} {mg : Str → Option Value} {base : Heap}
theorem ok_edNum {f : Addr} {fd : FuncData} (G : Fun K "edition_number" "edition_number" sEdNum f fd) (T : NatR mg) : FnOk P w K mg base CX0 1 f fd ["word"] spEdNum := by
  refine G.ok scEdNum (fun vs H Q E h => ?_) (fun cdv A outer s H vs Q E hr h => ?_)
  · obtain ⟨x, rfl, _⟩ := h
    rfl
  · obtain ⟨x, rfl, hx, hd, q⟩ := h
    refine ⟨_, pss_one (ps_ret (pe_ifExp (pt_cmpR op_eq (pe_callB call_len_str (by rfl) T.len PySem.boot_len (pa_cons (pv 0) pa_nil)) pe_int (nomark _)) (pe_callTy call_int_str (by rfl) T.int (by decide +kernel) (pa_cons (pv 0) pa_nil)) pe_int)), ?_⟩
    refine ⟨_, rfl, x, rfl, sz hx, rfl, _, rfl, ite2 (fun c => ?_) fun c => ?_⟩
    · rw [dec_int] at c
      have hl : x.length = 1 := by
        have c2 : (x.length : Int) = 1 := by simpa using c
        omega
      unfold digit1 at hd
      rw [hl] at hd
      have hs : (PySem.intText? x).isSome = true := by simpa using hd
      obtain ⟨n, hn⟩ := Option.isSome_iff_exists.mp hs
      refine ⟨_, rfl, x, n, rfl, hn, by omega, ?_⟩
      unfold edNum at q
      rw [if_pos hl, hn] at q
      exact q
    · rw [dec_int] at c
      have hl : ¬ x.length = 1 := fun z => c (by rw [z]; rfl)
      unfold edNum at q
      rw [if_neg hl] at q
      exact q
end
end Sc

namespace Sc
open PySem L2 PySem.Spec PyProof.Rows Lm
/-! ### in_sequence -/
def place (pk : List Str) (n : Str) : Option Nat := pk.findIdx? fun x => x == n
def places (pk names : List Str) : List Nat := names.filterMap (place pk)
def rising : List Nat → Bool
  | [] => true
  | a :: r => (r.all fun b => decide (a ≤ b)) && rising r
def inSeq (pk names : List Str) : Bool := rising (places pk names)
def spInSeq (K : PySem.W.Frag) : Sp := fun vs H Q _ => ∃ (a b : Addr) (pk names : List Str), vs = [.ref a, .ref b] ∧ SqL K H a (pk.map V.str) ∧ SqL K H b (names.map V.str) ∧ names.length ≤ 20002 ∧ ∀ H', Same H H' → Q (.bl (inSeq pk names)) H'
theorem place_some (pk : List Str) (n : Str) : (place pk n).isSome = pk.contains n := by
  unfold place
  rw [List.findIdx?_isSome]
  induction pk with
  | nil => rfl
  | cons x r ih =>
    rw [List.any_cons, List.contains_cons, ih]
    congr 1
    by_cases h : x = n
    · subst h
      rfl
    · rw [beq_eq_false_iff_ne.mpr h, beq_eq_false_iff_ne.mpr (Ne.symm h)]
/-- [f(name) for name in names if p(name)] -/
theorem fmap_go {K : PySem.W.Frag} {te : TE} {tt : TT} {vs : List Nat} {i j : Nat} {σ : L2.St} {H : Hp} {Q : VK} {a : Addr} {ws : List Str} {β : Type} (p : Str → Option β) (g : β → V) (hj : σ[j]? = some (some (.ref a))) (hw : SqL K H a (ws.map V.str)) (hz : ws.length ≤ sizeLine)
    (hi : ∀ u, wipe ((wipe σ vs).set i (some u)) vs = wipe σ vs) (ht : ∀ (u : Str) (H' : Hp) (R : Bool → Hp → Prop), Same H H' → R (p u).isSome H' → tt ((wipe σ vs).set i (some (.str u))) H' R)
    (he : ∀ (u : Str) (c : β) (H' : Hp) (R : VK), Same H H' → p u = some c → R (g c) H' → te ((wipe σ vs).set i (some (.str u))) H' R) (hd : ∀ D H', Same H H' → H D = none → H' D = some (.lst ((ws.filterMap p).map g)) → Q (.ref D) H') :
    tLc (iList K (tVar j)) (gName i) tt te vs σ H Q := by
  refine ⟨_, hj, a, rfl, ⟨_, hw⟩, fun D hn => ?_⟩
  refine ⟨fun n m H1 => m = ws.length - n ∧ n ≤ ws.length ∧ Same H H1 ∧ H1 D = some (.lst (((ws.take n).filterMap p).map g)), ⟨_, rfl, Nat.zero_le _, same_new hn, by rw [upd_same]; rfl⟩, ?_⟩
  rintro n m H1 ⟨rfl, hle, s1, hD⟩
  have hw1 := SqL.same hw s1
  by_cases h : n < ws.length
  · have hl : n < (ws.map V.str).length := by
      rw [List.length_map]
      exact h
    refine .inr ⟨⟨_, _, hw1, List.getElem?_eq_getElem hl⟩, fun H' => Same H H' ∧ H' D = some (.lst (((ws.take (n + 1)).filterMap p).map g)), fun H' ⟨c, d⟩ => ⟨ws.length - (n + 1), by omega, rfl, h, c, d⟩, ?_⟩
    rintro v H' ⟨rfl, hv⟩
    obtain ⟨u, hu, rfl⟩ := map_get (hv _ hw1)
    have et : ws.take (n + 1) = ws.take n ++ [u] := by
      rw [List.take_succ_eq_append_getElem h, (List.getElem?_eq_some_iff.mp hu).2]
    refine ⟨hi _, ht u H' _ s1 ?_⟩
    cases hp : p u with
    | none =>
      refine ⟨s1, ?_⟩
      rw [et, List.filterMap_append, List.filterMap_cons_none hp, List.filterMap_nil, List.append_nil]
      exact hD
    | some c =>
      refine he u c H' _ s1 hp ⟨_, hD, ?_, same_fill hn s1, ?_⟩
      · rw [List.length_map]
        refine Nat.lt_of_le_of_lt (List.length_filterMap_le _ _) ?_
        rw [List.length_take]
        omega
      · rw [upd_same, et, List.filterMap_append, List.filterMap_cons_some hp, List.filterMap_nil, List.map_append]
        rfl
  · obtain rfl : n = ws.length := by omega
    refine .inl ⟨⟨_, hw1, by rw [List.length_map]; exact Nat.le_refl _⟩, hd D H1 s1 hn ?_⟩
    rw [hD, List.take_length]
theorem dpAll_ints {K : PySem.W.Frag} {H : Hp} : ∀ ns : List Int, DpAll K H (ns.map V.int) (ns.map PyData.int)
  | [] => .nil
  | x :: r => .cons (.int x) (dpAll_ints r)
theorem eqvAll_ints : ∀ xs ys : List Int, PyData.eqvAll (xs.map PyData.int) (ys.map PyData.int) = (xs == ys)
  | [], [] => rfl
  | [], _ :: _ => rfl
  | _ :: _, [] => rfl
  | x :: xs, y :: ys => by
    show ((x == y) && PyData.eqvAll (xs.map PyData.int) (ys.map PyData.int)) = _
    rw [eqvAll_ints xs ys]
    rfl
theorem canLay_ints : ∀ ns : List Int, PyData.canLayAll0 (ns.map PyData.int) = true
  | [] => rfl
  | x :: r => by
    show (true && PyData.canLayAll0 (r.map PyData.int)) = true
    rw [canLay_ints r]
    rfl
theorem depth_ints : ∀ ns : List Int, PyData.depthAll (ns.map PyData.int) = 0
  | [] => rfl
  | x :: r => by
    show max 0 (PyData.depthAll (r.map PyData.int)) = 0
    rw [depth_ints r]
    rfl
theorem shaped_ints (ns : List Int) : SeqAt.shaped (.list (ns.map PyData.int)) = true := by
  show (PyData.canLayAll0 (ns.map PyData.int) && decide (PyData.depthAll (ns.map PyData.int) + 1 ≤ 64)) = true
  rw [canLay_ints, depth_ints]
  rfl
theorem rising_iff : ∀ ns : List Nat, rising ns = true ↔ (ns.map fun n : Nat => (n : Int)).Pairwise (· ≤ ·)
  | [] => ⟨fun _ => .nil, fun _ => rfl⟩
  | a :: r => by
    unfold rising
    rw [List.map_cons, List.pairwise_cons, Bool.and_eq_true, rising_iff r, List.all_eq_true]
    constructor
    · rintro ⟨h1, h2⟩
      refine ⟨fun b hb => ?_, h2⟩
      obtain ⟨n, hn, rfl⟩ := List.mem_map.mp hb
      have := of_decide_eq_true (h1 n hn)
      omega
    · rintro ⟨h1, h2⟩
      refine ⟨fun b hb => decide_eq_true ?_, h2⟩
      have := h1 (b : Int) (List.mem_map.mpr ⟨b, hb, rfl⟩)
      omega
theorem sorted_same {ns : List Nat} {ys : List Int} (hp : ys.Perm (ns.map fun n : Nat => (n : Int))) (hs : ys.Pairwise (· ≤ ·)) : ((ns.map fun n : Nat => (n : Int)) == ys) = rising ns := by
  rw [Bool.eq_iff_iff, beq_iff_eq, rising_iff]
  constructor
  · intro e
    rw [e]
    exact hs
  · intro h
    exact List.Perm.eq_of_pairwise (fun a b _ _ h1 h2 => Int.le_antisymm h1 h2) h hs hp.symm
section
variable {P : Program} {w : World} {K : PySem.W.Frag} {mg : Str → Option Value} {base : Heap}
theorem ok_inSeq {f : Addr} {fd : FuncData} (G : Fun K "in_sequence" "in_sequence" sInSeq f fd) (T : NatR mg) : FnOk P w K mg base CX0 1 f fd ["packages", "names"] (spInSeq K) := by
  refine G.ok scInSeq (fun vs H Q E h => ?_) (fun cdv A outer s H vs Q E hr h => ?_)
  · obtain ⟨a, b, pk, names, rfl, _⟩ := h
    rfl
  · obtain ⟨a, b, pk, names, rfl, ha, hb, hl, q⟩ := h
    refine ⟨_, pss_cons (ps_setLc (own := [("name", 3)]) (g := gName 3) (i := 2) (te := tBM K "list" (rIndex K) (tVar 0) (tCons (tVar 3) tNil)) rfl scInSeq.nd rfl rfl (by rfl) (pi_list (pv 1)) (blkOk_by (own := [("name", 3)]) (N := ["packages", "names", "places", "name"]) (sc := defScope sInSeq) (by decide +kernel))
          (fun _ _ _ _ _ => pg_name (i := 3) scInSeq.nd rfl (Or.inl rfl)) (fun _ _ _ _ _ => pts_one (pt_cmpR (r := rIn K false) op_in_seq (pv 3) (pv 0) (by rfl)))
          (fun _ _ _ _ _ => pe_bm PySem.F.plainAttrs_list PySem.F.slot_list_index PySem.F.type_list_index mt_index (pv 0) (pa_cons (pv 3) pa_nil)))
      (pss_one (ps_ret (pe_cmpR (op_eqD hr.units) (pv 2) (pe_callB cr_sortedI (by rfl) T.sorted (by decide +kernel) (pa_cons (pv 2) pa_nil)) (nomark _)))), ?_⟩
    have flat : (pk.map V.str).all flatV = true := by
      rw [List.all_map]
      exact List.all_eq_true.mpr fun _ _ => rfl
    refine seq_go (fmap_go (place pk) (fun j : Nat => V.int (j : Nat)) rfl hb (by rw [sizeLine_eq]; omega) (fun u => rfl) (fun u H' R s k => ?_) (fun u c H' R s hp k => ?_) fun D H1 s1 hD e1 => ?_)
    · refine test_go (op_go ⟨_, rfl, _, rfl, a, _, rfl, .inl (SqL.same ha s), rfl, flat, _, rfl, ?_⟩)
      show R (if false then _ else inV (.str u) (pk.map V.str)) H'
      rw [if_neg (by decide), inV_str, ← place_some]
      exact k
    · have hp2 : pk.findIdx? (fun x => x == u) = some c := hp
      obtain ⟨hc, h1, h2⟩ := List.findIdx?_eq_some_iff_getElem.mp hp2
      refine bm_go ⟨_, rfl, .inl ⟨rfl, _, SqL.same ha s⟩, _, rfl, a, _, _, c, .str pk[c], rfl, rfl, SqL.same ha s, rfl, flat, ?_, ?_, fun m z' hm hz => ?_, k⟩
      · rw [List.getElem?_map, List.getElem?_eq_getElem hc]
        rfl
      · exact h1
      · obtain ⟨v, hv, rfl⟩ := map_get hz
        obtain ⟨hm2, rfl⟩ := List.getElem?_eq_some_iff.mp hv
        have := h2 m hm
        show (pk[m] == u) = false
        simpa using this
    · dsimp only
      have hlen : (places pk names).length ≤ names.length := List.length_filterMap_le _ _
      refine ret_go (op_go ?_)
      have e2 : H1 D = some (.lst (((places pk names).map fun n : Nat => (n : Int)).map V.int)) := by
        rw [e1, List.map_map]
        rfl
      refine ⟨_, rfl, cb_go ⟨_, rfl, D, (places pk names).map fun n : Nat => (n : Int), rfl, .inl (.inl e2), fun ys p hperm hris hp => ?_⟩⟩
      have s2 := same_new (o := .lst (ys.map V.int)) hp
      refine ⟨_, _, .lst (.inl (.inl (s2 _ _ e2))) (dpAll_ints _), .lst (.inl (.inl upd_same)) (dpAll_ints _), shaped_ints _, shaped_ints _, ?_⟩
      show Q (.bl (PyData.eqvAll _ _)) _
      rw [eqvAll_ints, sorted_same hperm hris]
      exact q _ (s1.trans s2)
end
end Sc

namespace Sc
open PySem L2 PySem.Spec PyProof.Rows Lm
/-! ### read_set -/
abbrev sSet : Stmt := top 63
theorem scSet : FnScope ["draft", "words", "name", "number"] ["draft"] (defScope sSet) := ⟨rfl, rfl, rfl, by decide +kernel, rfl, by decide +kernel, by decide +kernel⟩
def IntIs (v : V) (i : Int) : Prop := v = .int i
def setMap (qs : List (Str × Str)) : List (Str × Int) := qs.foldl (fun acc q => putS acc q.1 (edNum q.2)) []
theorem putS_len {β : Type} (qs : List (Str × β)) (k : Str) (c : β) : (putS qs k c).length ≤ qs.length + 1 := by
  unfold putS
  split
  · rw [List.length_map]
    omega
  · rw [List.length_append, List.length_singleton]
    exact Nat.le_refl _
theorem setMap_snoc (qs : List (Str × Str)) (q : Str × Str) : setMap (qs ++ [q]) = putS (setMap qs) q.1 (edNum q.2) := by
  unfold setMap
  rw [List.foldl_append]
  rfl
theorem setMap_len' : ∀ (qs : List (Str × Str)) (acc : List (Str × Int)), (qs.foldl (fun acc q => putS acc q.1 (edNum q.2)) acc).length ≤ acc.length + qs.length
  | [], acc => Nat.le_refl _
  | q :: qs, acc => by
    have h1 := setMap_len' qs (putS acc q.1 (edNum q.2))
    have h2 := putS_len acc q.1 (edNum q.2)
    show (qs.foldl (fun acc q => putS acc q.1 (edNum q.2)) (putS acc q.1 (edNum q.2))).length ≤ _
    rw [List.length_cons]
    omega
theorem setMap_len (qs : List (Str × Str)) : (setMap qs).length ≤ qs.length := by
  have := setMap_len' qs []
  simpa [setMap] using this
/-- {name: edition_number(number) for name, number in zip(ms, es)} -/
theorem dzip_go {K : PySem.W.Frag} {vs : List Nat} {σ : L2.St} {H : Hp} {Q : VK} {ms es : List Str} {ta : TA} (ht : ∀ R : List V → Hp → Prop, (∀ a b H', Same H H' → SqL K H' a (ms.map V.str) → SqL K H' b (es.map V.str) → R [.ref a, .ref b] H') → ta σ H R)
    (hz : ms.length ≤ 20002) (hok : ∀ x ∈ es, x.length ≤ 20000 ∧ digit1 x = true) (hi : ∀ u v, wipe (((wipe σ vs).set 2 (some u)).set 3 (some v)) vs = wipe σ vs) (h2 : ∀ u v, (((wipe σ vs).set 2 (some u)).set 3 (some v))[2]? = some (some u)) (h3 : ∀ u v, (((wipe σ vs).set 2 (some u)).set 3 (some v))[3]? = some (some v))
    (hd : ∀ D ks H', Same H H' → H D = none → H' D = some (.dK ks) → DictAt IntIs ks (setMap (ms.zip es)) → Q (.ref D) H') :
    tDc (iZip K ta) (gTup K 2 (gCons (gName 2) (gCons (gName 3) gNil))) tYes (tVar 2) (tCall spEdNum [] E0 (tCons (tVar 3) tNil)) vs σ H Q := by
  refine ht _ fun a b H1 s1 hx hy => ⟨a, b, _, _, rfl, hx, hy, fun D hn1 => ?_⟩
  have hn : H D = none := by
    cases e : H D with
    | none => rfl
    | some o =>
      rw [s1 _ _ e] at hn1
      cases hn1
  refine ⟨fun n m H2 => m = (ms.zip es).length - n ∧ n ≤ (ms.zip es).length ∧ Same H1 H2 ∧ ∃ ks, H2 D = some (.dK ks) ∧ DictAt IntIs ks (setMap ((ms.zip es).take n)), ⟨_, rfl, Nat.zero_le _, same_new hn1, [], upd_same, True.intro⟩, ?_⟩
  rintro n m H2 ⟨rfl, hle, s2, ks, hD, dk⟩
  by_cases h : n < (ms.zip es).length
  · have hlz : n < ms.length ∧ n < es.length := by
      rw [List.length_zip] at h
      omega
    have lx : n < (ms.map V.str).length := by
      rw [List.length_map]
      exact hlz.1
    have ly : n < (es.map V.str).length := by
      rw [List.length_map]
      exact hlz.2
    refine .inr ⟨⟨_, _, _, _, SqL.same hx s2, SqL.same hy s2, List.getElem?_eq_getElem lx, List.getElem?_eq_getElem ly⟩, fun H' => Same H1 H' ∧ ∃ ks, H' D = some (.dK ks) ∧ DictAt IntIs ks (setMap ((ms.zip es).take (n + 1))), fun H' ⟨c, d⟩ => ⟨(ms.zip es).length - (n + 1), by omega, rfl, h, c, d⟩, ?_⟩
    rintro v H' ⟨T, x, y, rfl, hT, rfl, f1, f2⟩
    have sT := same_new (o := .tup [x, y]) hT
    obtain ⟨u, hu, rfl⟩ := map_get (f1 _ (SqL.same hx s2))
    obtain ⟨t, ht2, rfl⟩ := map_get (f2 _ (SqL.same hy s2))
    obtain ⟨o1, o2⟩ := hok t (List.mem_of_getElem? ht2)
    refine ⟨T, [.str u, .str t], rfl, .inl (.inl upd_same), rfl, .str u, [.str t], rfl, .str t, [], rfl, rfl, hi _ _, ?_⟩
    have ez : (ms.zip es)[n] = (u, t) := by
      have := List.getElem?_zip_eq_some (z := (u, t)) (l₁ := ms) (l₂ := es) (i := n) |>.mpr ⟨hu, ht2⟩
      exact (List.getElem?_eq_some_iff.mp this).2
    refine ⟨_, h2 _ _, _, h3 _ _, t, rfl, o1, o2, ks, .inr u, rfl, sT _ _ hD, ?_, same_fill hn1 (s2.trans sT), _, upd_same, ?_⟩
    · have l1 := dk.len
      have l2 := setMap_len ((ms.zip es).take n)
      rw [List.length_take] at l2
      rw [sizeLine_eq]
      omega
    · rw [List.take_succ_eq_append_getElem h, setMap_snoc, ez]
      exact dict_put dk rfl
  · obtain rfl : n = (ms.zip es).length := by omega
    refine .inl ⟨⟨_, _, SqL.same hx s2, SqL.same hy s2, ?_⟩, ?_⟩
    · rw [List.length_map, List.length_map, List.length_zip]
      omega
    · rw [List.take_length] at dk
      exact hd D ks H2 (s1.trans s2) hn hD dk
def SetIs (Z : List Addr) (H : Hp) (v : V) (m : List (Str × Int)) : Prop := ∃ d ks, v = .ref d ∧ d ∉ Z ∧ H d = some (.dK ks) ∧ DictAt IntIs ks m
structure Dr.Sts (x : Dr) (Z : List Addr) (pn : List Str) (sm : List (Str × List (Str × Int))) (H : Hp) : Prop where
  pks : ∃ ks, H x.packages = some (.dK ks) ∧ ks.map (·.1) = pn.map Sum.inr
  sets : ∃ ks, H x.sets = some (.dK ks) ∧ DictAt (SetIs Z H) ks sm
theorem SetIs.off {Z F : List Addr} {H H' : Hp} {v : V} {m : List (Str × Int)} (f : ∀ a ∈ F, a ∈ Z) (o : Off F H H') (h : SetIs Z H v m) : SetIs Z H' v m := by
  obtain ⟨d, ks, e, n, hd, dk⟩ := h
  exact ⟨d, ks, e, n, o _ _ (fun z => n (f d z)) hd, dk⟩
theorem Dr.Sts.off {x : Dr} {Z F : List Addr} {pn : List Str} {sm : List (Str × List (Str × Int))} {H H' : Hp} (h : x.Sts Z pn sm H) (f : ∀ a ∈ F, a ∈ Z) (o : Off F H H') (n1 : x.packages ∉ F) (n2 : x.sets ∉ F) : x.Sts Z pn sm H' := by
  obtain ⟨k1, e1, d1⟩ := h.pks
  obtain ⟨k2, e2, d2⟩ := h.sets
  exact ⟨⟨k1, o _ _ n1 e1, d1⟩, ⟨k2, o _ _ n2 e2, d2.keep fun v b q => q.off f o⟩⟩
theorem Dr.Sts.same {x : Dr} {Z : List Addr} {pn : List Str} {sm : List (Str × List (Str × Int))} {H H' : Hp} (h : x.Sts Z pn sm H) (s : Same H H') : x.Sts Z pn sm H' := h.off (F := []) (fun a ha => nomatch ha) s.off (fun z => nomatch z) fun z => nomatch z
def mSet (ls : List Str) (n : Nat) (pn : List Str) (sm : List (Str × List (Str × Int))) : Option (Str × List (Str × Int) × List Row) := 
  if (setLine (lineWords ls n 0) && inSeq pn (members (lineWords ls n 0))) = true ∧ ¬ (sm.isEmpty && decide (2 < (lineWords ls n 0).length)) = true then
    some ((lineWords ls n 0).getD 1 "", setMap ((members (lineWords ls n 0)).zip (editions (lineWords ls n 0))), [⟨"set", lineWords ls n 0⟩])
  else none
abbrev SetF (x : Dr) : List Addr := x.two ++ [x.sets]
def spSet (C : Addr) (ls : List Str) : Sp := fun vs H Q _ => ∃ (x : Dr) (Z : List Addr) (rm : List Row) (pn : List Str) (sm : List (Str × List (Str × Int))), vs = [.ref x.d] ∧ Rd Z x C ls rm H ∧ x.Sts Z pn sm H ∧ x.sets ≠ x.packages ∧ sm.length < 50 ∧
  (mSet ls rm.length pn sm = none → ∀ H', Off (SetF x) H H' → Rd Z x C ls rm H' → x.Sts Z pn sm H' → Q (.bl false) H') ∧
    ∀ nm m r2, mSet ls rm.length pn sm = some (nm, m, r2) → ∀ H', Off (SetF x) H H' → Rd Z x C ls (rm ++ r2) H' → x.Sts Z pn (putS sm nm m) H' → Q (.bl true) H'
section
variable {P : Program} {w : World} {K : PySem.W.Frag} {mg : Str → Option Value} {base : Heap} {C fL fT : Addr} {fdL fdT : FuncData}
theorem ok_set {ls : List Str} {f fS fQ fE : Addr} {fd fdS fdQ fdE : FuncData} (G : Fun K "read_set" "read_set" sSet f fd) (T : NatR mg) (Dn : DrFns P w K mg base C fL fT fdL fdT)
    (GS : FnOk P w K mg base CX0 4 fS fdS ["words"] (spRow K setLine)) (gS : mg "is_set_line" = some (.ref fS)) (kS : PySem.W.keepIn K (.ref fS) = true) (bS : Binds K fdS ["words"] [])
    (GQ : FnOk P w K mg base CX0 1 fQ fdQ ["packages", "names"] (spInSeq K)) (gQ : mg "in_sequence" = some (.ref fQ)) (kQ : PySem.W.keepIn K (.ref fQ) = true) (bQ : Binds K fdQ ["packages", "names"] [])
    (GE : FnOk P w K mg base CX0 1 fE fdE ["word"] spEdNum) (gE : mg "edition_number" = some (.ref fE)) (kE : PySem.W.keepIn K (.ref fE) = true) (bE : Binds K fdE ["word"] []) :
    FnOk P w K mg base CX0 5 f fd ["draft"] (spSet C ls) := by
  refine G.ok scSet (fun vs H Q E h => ?_) (fun cdv A outer s H vs Q E hr h => ?_)
  · obtain ⟨x, Z, rm, pn, sm, rfl, _⟩ := h
    rfl
  · obtain ⟨x, Z, rm, pn, sm, rfl, R, SA, nsp, l1, q1, q2⟩ := h
    have hr1 := hr.mono (show 1 ≤ 4 by decide)
    refine ⟨_, pss_cons (ps_set (i := 1) scSet.nd rfl (Or.inl rfl) (pe_meth (pv 0) Dn.own.cl Dn.mLine Dn.line hr1 Dn.bLine .nil pass0 (pa_cons pe_int pa_nil)))
      (pss_cons (ps_if (PW.pt (pw_or (pt_not (pt_val (pe_call GS hr (by rfl) gS kS bS .nil pass0 (pa_cons (pv 1) pa_nil))))
        (pw_or1 (pt_not (pt_val (pe_call GQ hr1 (by rfl) gQ kQ bQ .nil pass0 (pa_cons (pe_callTy (call_listD rfl) (by rfl) T.list (by decide +kernel) (pa_cons (pe_fld (pv 0) rfl) pa_nil)) (pa_cons (pe_step (pv 1) (po_some pe_int) po_none (po_some pe_int)) pa_nil)))))))) (pss_one (ps_ret pe_bl)) pss_nil)
      (pss_cons (ps_if (PW.pt (pw_and (pt_not (pt_truth (pe_fld (pv 0) rfl) (by intro _; rfl))) (pw_and1 (pt_cmpR op_gt (pe_callB call_len_seq (by rfl) T.len PySem.boot_len (pa_cons (pv 1) pa_nil)) pe_int (nomark _))))) (pss_one (ps_ret pe_bl)) pss_nil)
      (pss_cons (ps_expr (pe_meth (pv 0) Dn.own.cl Dn.mTake Dn.take hr1 Dn.bTake .nil pass0 (pa_cons pe_str (pa_cons (pv 1) pa_nil))))
      (pss_cons (ps_dput (u1 hr.units) (pe_fld (pv 0) rfl) (pe_ix ix_list (pv 1) pe_int (fun _ _ => rfl))
        (pe_dc (own := [("name", 2), ("number", 3)]) (g := gTup K 2 (gCons (gName 2) (gCons (gName 3) gNil))) (tt := tYes) rfl scSet.nd (pi_zip (by rfl) T.zip (pa_cons (pe_step (pv 1) (po_some pe_int) po_none (po_some pe_int)) (pa_cons (pe_step (pv 1) (po_some pe_int) po_none (po_some pe_int)) pa_nil)))
          (blkOk_by (own := [("name", 2), ("number", 3)]) (N := ["draft", "words", "name", "number"]) (sc := defScope sSet) (by decide +kernel))
          (fun _ _ _ _ _ => pg_tup rfl (pgs_cons (pg_name (i := 2) scSet.nd rfl (Or.inl rfl)) (pgs_cons (pg_name (i := 3) scSet.nd rfl (Or.inl rfl)) pgs_nil))) (fun _ _ _ _ _ => pts_nil)
          (fun _ _ _ _ _ => pv 2) (fun _ _ _ _ _ => pe_call GE hr1 (by rfl) gE kE bE .nil pass0 (pa_cons (pv 3) pa_nil))) rfl)
      (pss_one (ps_ret pe_bl)))))), ?_⟩
    refine seq_go (line_goC (depth := 0) R rfl (by decide) fun p H1 w1 e1 np s1 => ?_)
    generalize hws : lineWords ls rm.length 0 = ws at *
    have away : ∀ H', Same H H' → ¬ ((setLine ws && inSeq pn (members ws)) = true ∧ ¬ (sm.isEmpty && decide (2 < ws.length)) = true) → Q (.bl false) H' := fun H' s n => q1 (by
      unfold mSet
      rw [hws, if_neg n]) H' s.off (R.same s) (SA.same s)
    have R1 := R.same s1
    have S1 := SA.same s1
    dsimp only
    refine seq_go (ifs_go (or_go (not_go (val_go ?_))))
    refine ⟨_, rfl, p, _, rfl, w1, fun H2 s2 => ⟨_, rfl, ite2 (fun b => ite2 (fun _ => ?_) fun z => absurd rfl z) fun b => ?_⟩⟩
    · refine ret_go (away H2 (s1.trans s2) fun z => ?_)
      have z1 := (Bool.and_eq_true_iff.mp z.1).1
      have b1 : (!setLine ws) = true := b
      rw [z1] at b1
      cases b1
    have c1 : setLine ws = true := by simpa using b
    have s12 := s1.trans s2
    have R2 := R1.same s2
    have S2 := S1.same s2
    have w2 := w1.same s2
    obtain ⟨kp, hkp, dkp⟩ := S2.pks
    refine not_go (val_go (cons_go (cb_go (cons_go (fld_go Dn.own R2.at_ rfl (by decide) (x.lk_packages _) ?_)))))
    refine ⟨x.packages, kp, rfl, .inl hkp, fun A0 hA => ?_⟩
    have sA := same_new (o := .lst (kp.map fun kv => kV kv.1)) hA
    have gA : (upd H2 A0 (.lst (kp.map fun kv => kV kv.1))) A0 = some (.lst (pn.map V.str)) := by
      rw [upd_same]
      have e : kp.map (fun kv => kV kv.1) = pn.map V.str := by
        have e2 := congrArg (List.map kV) dkp
        rw [List.map_map, List.map_map] at e2
        exact e2
      rw [e]
    dsimp only
    generalize upd H2 A0 (.lst (kp.map fun kv => kV kv.1)) = H3 at sA gA ⊢
    refine cons_go (step_go (k := 2) rfl (w2.same sA) fun B H4 s4 wB _ => ?_)
    have gA4 := s4 _ _ gA
    have s04 := (s12.trans sA).trans s4
    refine ⟨A0, B, pn, members ws, rfl, .inl (.inl gA4), wB.1, wB.2.1, fun H5 s5 => ⟨_, rfl, ?_⟩⟩
    have s05 := s04.trans s5
    have R5 := R.same s05
    have S5 := SA.same s05
    have w5 := w2.same ((sA.trans s4).trans s5)
    have e5 := ((s2.trans sA).trans (s4.trans s5)) _ _ e1
    refine ite2 (fun d => ?_) fun d => ?_
    · refine ret_go (away H5 s05 fun z => ?_)
      have z1 := (Bool.and_eq_true_iff.mp z.1).2
      have d1 : (!inSeq pn (members ws)) = true := d
      rw [z1] at d1
      cases d1
    have c2 : inSeq pn (members ws) = true := by simpa using d
    refine next_go ?_
    dsimp only
    obtain ⟨ks, hks, dks⟩ := S5.sets
    have emp : ks.isEmpty = sm.isEmpty := by
      have := dks.len
      cases ks <;> cases sm <;> simp_all
    refine seq_go (ifs_go (and_go (not_go (fld_go Dn.own R5.at_ rfl (by decide) (x.lk_sets _) ?_))))
    refine ⟨!ks.isEmpty, .inr (.inr ⟨ks, hks, rfl⟩), ?_⟩
    have go : ¬ (sm.isEmpty && decide (2 < ws.length)) = true → tSeq (tDrop (tMeth C "take" (spTake C) [] E0 (tVar 0) (tCons (tC (.str "set")) (tCons (tVar 1) tNil))))
        (tSeq (sDPut (tFld K (tVar 0) "sets") (tOp (rIxL K) (tVar 1) (tC (.int 1))) (tDc (iZip K (tCons (tStep K (tVar 1) (tPart (tC (.int 2))) tNoPart (tPart (tC (.int 2)))) (tCons (tStep K (tVar 1) (tPart (tC (.int 3))) tNoPart (tPart (tC (.int 2)))) tNil))) (gTup K 2 (gCons (gName 2) (gCons (gName 3) gNil))) tYes (tVar 2) (tCall spEdNum [] E0 (tCons (tVar 3) tNil)) [2, 3])) (tRet (tC (.bl true)))) { nx := fun _ H' => Q .non H', rt := Q } [some (.ref x.d), some (.ref p), none, none] H5 := fun c3 => by
      have hm : mSet ls rm.length pn sm = some (ws.getD 1 "", setMap ((members ws).zip (editions ws)), [⟨"set", ws⟩]) := by
        unfold mSet
        rw [hws, if_pos ⟨by rw [c1, c2]; rfl, c3⟩]
      have c4 := c1
      unfold setLine at c4
      have c5 : fitsM (cutW ws none (some 2)) ("set NAME" : Str) = true ∧ (members ws).all named = true ∧ (editions ws).all number = true := by
        cases e : fitsM (cutW ws none (some 2)) ("set NAME" : Str)
        · rw [e] at c4
          cases c4
        · rw [e] at c4
          split at c4
          · cases c4
          · exact ⟨rfl, Bool.and_eq_true_iff.mp c4⟩
      have l2 : 2 ≤ ws.length := by
        have h1 := (fits_len c5.1).trans (show (Txt.split ("set NAME" : Str) (" " : Str)).length = 2 by decide +kernel)
        have h2 := (cutW_sub ws none (some 2)).1
        omega
      have hn : rm.length < ls.length := line_there (k := 0) fun z => by
        rw [hws] at z
        rw [z] at l2
        cases l2
      refine seq_go (drop_go (take_go R5 rfl rfl (.inr ⟨by decide +kernel, e5, np⟩) hn fun H6 o6 R6 => ?_))
      have n1 : x.packages ∉ x.two ∧ x.sets ∉ x.two := by
        obtain ⟨k1, f1, _⟩ := S5.pks
        obtain ⟨rs, hrs, _⟩ := R5.rows
        have a1 : x.packages ≠ x.d := ne_of f1 R5.at_.obj fun z => by cases z
        have a2 : x.packages ≠ x.rows := ne_of f1 hrs fun z => by cases z
        have a3 : x.sets ≠ x.d := ne_of hks R5.at_.obj fun z => by cases z
        have a4 : x.sets ≠ x.rows := ne_of hks hrs fun z => by cases z
        exact ⟨by simp [a1, a2], by simp [a3, a4]⟩
      have S6 := S5.off R5.twoZ o6 n1.1 n1.2
      have e6 := o6 _ _ (R5.there2 np) e5
      have w6 : Words K H6 p ws := ⟨.inl (.inl e6), w5.2⟩
      dsimp only
      refine seq_go ?_
      refine dzip_go (ta := tCons (tStep K (tVar 1) (tPart (tC (.int 2))) tNoPart (tPart (tC (.int 2)))) (tCons (tStep K (tVar 1) (tPart (tC (.int 3))) tNoPart (tPart (tC (.int 2)))) tNil)) (vs := [2, 3]) (σ := [some (V.ref x.d), some (V.ref p), none, none]) (ms := members ws) (es := editions ws) (fun R0 k0 => cons_go (step_go (k := 2) rfl w6 fun a H7 s7 wa _ => cons_go (step_go (k := 3) rfl (w6.same s7) fun b H8 s8 wb _ => k0 a b H8 (s7.trans s8) (SqL.same wa.1 s8) wb.1))) (Nat.le_trans (stepW_sub ws 2).1 w5.2.1)
        (fun y hy => ⟨(w5.2.2 y ((stepW_sub ws 3).2 y hy)).1, digit1_of (List.all_eq_true.mp c5.2.2 y hy)⟩) (fun u v => rfl) (fun u v => rfl) (fun u v => rfl) fun D0 js H9 s9 hD0 hD9 dj => ?_
      have R9 := R6.same s9
      have S9 := S6.same s9
      have e9 := s9 _ _ e6
      obtain ⟨k9, hk9, dk9⟩ := S9.sets
      obtain ⟨kp9, hkp9, dkp9⟩ := S9.pks
      refine ⟨_, rfl, x.d, C, x.dx, _, _, rfl, R9.at_.obj, Dn.own.cl, Dn.own.no _ (by decide), x.lk_sets _, _, rfl, p, _, _, _, rfl, rfl, .inl (.inl e9), get_word (i := 1) (by omega), x.sets, _, rfl, DPut.k (k := .inr _) hk9 ?_, ?_⟩
      · have := dk9.len
        rw [sizeLine_eq]
        omega
      dsimp only
      refine ret_go ?_
      have ntK : ∀ xs, HO.dK k9 ≠ .tup xs := fun xs z => by cases z
      have zs : x.sets ∈ Z := R.own _ (by simp [Dr.own])
      have R10 := R9.put2 (o := .dK (putK k9 (.inr (ws.getD 1 "")) (.ref D0))) zs (fun z => n1.2 (by simp [← z])) (fun z => n1.2 (by simp [← z])) hk9 ntK
      have o10 : Off [x.sets] H9 (upd H9 x.sets (.dK (putK k9 (.inr (ws.getD 1 "")) (.ref D0)))) := off_upd List.mem_cons_self
      have f10 : ∀ a ∈ [x.sets], a ∈ Z := fun a ha => by
        rw [List.mem_singleton.mp ha]
        exact zs
      have nD : D0 ∉ Z := R6.new hD0
      refine q2 _ _ _ hm _ (((s05.off.trans (o6.more fun a ha => List.mem_append_left _ ha)).trans s9.off).trans (o10.more fun a ha => List.mem_append_right _ ha)) R10 ⟨⟨kp9, (upd_ne (Ne.symm nsp)).trans hkp9, dkp9⟩, ⟨_, upd_same, dict_put (dk9.keep fun v b q => q.off f10 o10) ⟨D0, js, rfl, nD, ?_, dj⟩⟩⟩
      rw [upd_ne fun z => nD (by rw [z]; exact zs)]
      exact hD9
    refine ite2 (fun c => ?_) fun c => ?_
    · have em : sm.isEmpty = true := by
        rw [← emp]
        simpa using c
      refine test_go (op_go (cb_go ⟨_, rfl, p, _, rfl, .inl w5.1, _, _, rfl, rfl, _, rfl, ite2 (fun g => ?_) fun g => ?_⟩))
      · refine ret_go (away H5 s05 fun z => z.2 ?_)
        rw [em]
        have g2 := of_decide_eq_true g
        rw [List.length_map] at g2
        show decide (2 < ws.length) = true
        exact decide_eq_true (by omega)
      · refine next_go ?_
        dsimp only
        refine go fun z => g ?_
        have z2 := of_decide_eq_true (Bool.and_eq_true_iff.mp z).2
        exact decide_eq_true (by rw [List.length_map]; omega)
    · have em : ¬ sm.isEmpty = true := by
        rw [← emp]
        simpa using c
      refine ite2 (fun z => absurd z (by decide)) fun _ => ?_
      refine next_go ?_
      dsimp only
      exact go fun z => em (Bool.and_eq_true_iff.mp z).1
end
end Sc

namespace Sc
open PySem L2 PySem.Spec PyProof.Rows Lm
/-! ### Draft(text) -/
abbrev sDrInit : Stmt := mth 49 0
theorem scDrInit : FnScope ["self", "text"] ["self", "text"] (defScope sDrInit) := ⟨rfl, rfl, rfl, by decide +kernel, rfl, by decide +kernel, by decide +kernel⟩
abbrev feed : Str := "\n"
/-- the draft of a text, nothing read yet; its own things are new -/
def spDrInit (C : Addr) : Sp := fun vs H Q _ => ∃ d dx text, vs = [.ref d, .str text] ∧ text.length ≤ 20000 ∧ H d = some (.ins C dx []) ∧ ∀ (x : Dr) (H' : Hp), x.d = d → x.dx = dx → Off [d] H H' → (∀ a ∈ x.lines :: x.own, a = d ∨ H a = none) → (x.lines :: x.own).Nodup →
  H' d = some (.ins C dx (x.fields 0)) → H' x.lines = some (.lst ((Txt.split text feed).map V.str)) → H' x.rows = some (.lst []) → H' x.cells = some (.dK []) → H' x.owned = some (.lst []) → H' x.packages = some (.dK []) → H' x.triggers = some (.lst []) → H' x.sets = some (.dK []) → Q .non H'
/-- one more field of an object that is being made -/
theorem fresh_set {H : Hp} {d : Addr} {C dx : Addr} {fs : List (Str × V)} {f : Str} {p : Addr} {o : HO} (hd : H d = some (.ins C dx fs)) (hp : H p = none) :
    d ≠ p ∧ (upd H p o) d = some (.ins C dx fs) ∧ (∀ a u, a ≠ d → H a = some u → (upd (upd H p o) d (.ins C dx (putF f (.ref p) fs))) a = some u) ∧ (upd (upd H p o) d (.ins C dx (putF f (.ref p) fs))) d = some (.ins C dx (putF f (.ref p) fs)) ∧
      (upd (upd H p o) d (.ins C dx (putF f (.ref p) fs))) p = some o := by
  have n := ne_of_none hd hp
  refine ⟨n, (upd_ne n).trans hd, fun a u na ha => ?_, upd_same, ?_⟩
  · rw [upd_ne na, upd_ne (ne_of_none ha hp)]
    exact ha
  · rw [upd_ne (Ne.symm n), upd_same]
section
variable {P : Program} {w : World} {K : PySem.W.Frag} {mg : Str → Option Value} {base : Heap} {C : Addr}
theorem ok_drInit {f : Addr} {fd : FuncData} (G : Fun K "__init__" "Draft.__init__" sDrInit f fd) (O : Own K C drNames) : FnOk P w K mg base CX0 1 f fd ["self", "text"] (spDrInit C) := by
  refine G.ok scDrInit (fun vs H Q E h => ?_) (fun cdv A outer s H vs Q E hr h => ?_)
  · obtain ⟨d, dx, text, rfl, _⟩ := h
    rfl
  · obtain ⟨d, dx, text, rfl, ht, hd, q⟩ := h
    refine ⟨_, pss_cons (ps_fld (pv 0) (pe_split (pv 1) pe_str) rfl) (pss_cons (ps_fld (pv 0) pe_int rfl) (pss_cons (ps_fld (pv 0) (pe_lst pa_nil) rfl) (pss_cons (ps_fld (pv 0) pe_dnewK rfl) (pss_cons (ps_fld (pv 0) (pe_lst pa_nil) rfl)
      (pss_cons (ps_fld (pv 0) pe_dnewK rfl) (pss_cons (ps_fld (pv 0) (pe_lst pa_nil) rfl) (pss_one (ps_fld (pv 0) pe_dnewK rfl)))))))), ?_⟩
    have few : ∀ fs : List (Str × V), fs.length ≤ 9 → fs.length < 1000 := fun fs h => by omega
    have back : ∀ {G : Hp} {p : Addr}, (∀ a u, a ≠ d → H a = some u → G a = some u) → (∃ u, G d = some u) → G p = none → H p = none := fun {G p} k ⟨u0, e0⟩ hp => by
      cases e : H p with
      | none => rfl
      | some u =>
        by_cases hpd : p = d
        · rw [hpd, e0] at hp
          cases hp
        · rw [k p u hpd e] at hp
          cases hp
    refine seq_go ⟨_, rfl, ⟨_, rfl⟩, text, _, rfl, rfl, by decide, by rw [sizeLine_eq]; omega, fun p_lines h_lines => ?_⟩
    obtain ⟨nd_lines, g_lines, k_lines, gd1, t1_lines⟩ := fresh_set (f := "lines") (o := HO.lst ((Txt.split text feed).map V.str)) hd h_lines
    have z_lines := back (fun _ _ _ e => e) ⟨_, hd⟩ h_lines
    refine ⟨_, rfl, d, C, dx, _, rfl, g_lines, O.cl, O.no _ (by decide), few _ (by show 0 ≤ 9; decide), ?_⟩
    have base1 : ∀ a u, a ≠ d → H a = some u → (upd (upd H p_lines (HO.lst ((Txt.split text feed).map V.str))) d (.ins C dx (putF "lines" (.ref p_lines) ([])))) a = some u := fun a u na ha => k_lines a u na ((fun _ _ _ e => e) a u na ha)
    dsimp only
    generalize upd (upd H p_lines (HO.lst ((Txt.split text feed).map V.str))) d (.ins C dx (putF "lines" (.ref p_lines) ([]))) = H1 at gd1 base1 t1_lines ⊢
    refine seq_go ⟨_, rfl, d, C, dx, _, rfl, gd1, O.cl, O.no _ (by decide), few _ (by show 1 ≤ 9; decide), ?_⟩
    have gd2 : (upd H1 d (.ins C dx (putF "line" (.int (0 : Nat)) (putF "lines" (.ref p_lines) ([]))))) d = some (.ins C dx (putF "line" (.int (0 : Nat)) (putF "lines" (.ref p_lines) ([])))) := upd_same
    have base2 : ∀ a u, a ≠ d → H a = some u → (upd H1 d (.ins C dx (putF "line" (.int (0 : Nat)) (putF "lines" (.ref p_lines) ([]))))) a = some u := fun a u na ha => (upd_ne na).trans (base1 a u na ha)
    have t2_lines := (upd_ne (o := .ins C dx (putF "line" (.int (0 : Nat)) (putF "lines" (.ref p_lines) ([])))) (Ne.symm nd_lines)).trans t1_lines
    dsimp only
    generalize upd H1 d (.ins C dx (putF "line" (.int (0 : Nat)) (putF "lines" (.ref p_lines) ([])))) = H2 at gd2 base2 t2_lines ⊢
    refine seq_go ⟨by decide, fun p_rows h_rows => ?_⟩
    obtain ⟨nd_rows, g_rows, k_rows, gd3, t3_rows⟩ := fresh_set (f := "rows") (o := HO.lst []) gd2 h_rows
    have z_rows := back base2 ⟨_, gd2⟩ h_rows
    have ne_lines_rows := ne_of_none t2_lines h_rows
    refine ⟨_, rfl, d, C, dx, _, rfl, g_rows, O.cl, O.no _ (by decide), few _ (by show 2 ≤ 9; decide), ?_⟩
    have base3 : ∀ a u, a ≠ d → H a = some u → (upd (upd H2 p_rows (HO.lst [])) d (.ins C dx (putF "rows" (.ref p_rows) (putF "line" (.int (0 : Nat)) (putF "lines" (.ref p_lines) ([])))))) a = some u := fun a u na ha => k_rows a u na (base2 a u na ha)
    have t3_lines := k_rows _ _ (Ne.symm nd_lines) t2_lines
    dsimp only
    generalize upd (upd H2 p_rows (HO.lst [])) d (.ins C dx (putF "rows" (.ref p_rows) (putF "line" (.int (0 : Nat)) (putF "lines" (.ref p_lines) ([]))))) = H3 at gd3 base3 t3_lines t3_rows ⊢
    refine seq_go fun p_cells h_cells => ?_
    obtain ⟨nd_cells, g_cells, k_cells, gd4, t4_cells⟩ := fresh_set (f := "cells") (o := HO.dK []) gd3 h_cells
    have z_cells := back base3 ⟨_, gd3⟩ h_cells
    have ne_lines_cells := ne_of_none t3_lines h_cells
    have ne_rows_cells := ne_of_none t3_rows h_cells
    refine ⟨_, rfl, d, C, dx, _, rfl, g_cells, O.cl, O.no _ (by decide), few _ (by show 3 ≤ 9; decide), ?_⟩
    have base4 : ∀ a u, a ≠ d → H a = some u → (upd (upd H3 p_cells (HO.dK [])) d (.ins C dx (putF "cells" (.ref p_cells) (putF "rows" (.ref p_rows) (putF "line" (.int (0 : Nat)) (putF "lines" (.ref p_lines) ([]))))))) a = some u := fun a u na ha => k_cells a u na (base3 a u na ha)
    have t4_lines := k_cells _ _ (Ne.symm nd_lines) t3_lines
    have t4_rows := k_cells _ _ (Ne.symm nd_rows) t3_rows
    dsimp only
    generalize upd (upd H3 p_cells (HO.dK [])) d (.ins C dx (putF "cells" (.ref p_cells) (putF "rows" (.ref p_rows) (putF "line" (.int (0 : Nat)) (putF "lines" (.ref p_lines) ([])))))) = H4 at gd4 base4 t4_lines t4_rows t4_cells ⊢
    refine seq_go ⟨by decide, fun p_owned h_owned => ?_⟩
    obtain ⟨nd_owned, g_owned, k_owned, gd5, t5_owned⟩ := fresh_set (f := "owned") (o := HO.lst []) gd4 h_owned
    have z_owned := back base4 ⟨_, gd4⟩ h_owned
    have ne_lines_owned := ne_of_none t4_lines h_owned
    have ne_rows_owned := ne_of_none t4_rows h_owned
    have ne_cells_owned := ne_of_none t4_cells h_owned
    refine ⟨_, rfl, d, C, dx, _, rfl, g_owned, O.cl, O.no _ (by decide), few _ (by show 4 ≤ 9; decide), ?_⟩
    have base5 : ∀ a u, a ≠ d → H a = some u → (upd (upd H4 p_owned (HO.lst [])) d (.ins C dx (putF "owned" (.ref p_owned) (putF "cells" (.ref p_cells) (putF "rows" (.ref p_rows) (putF "line" (.int (0 : Nat)) (putF "lines" (.ref p_lines) ([])))))))) a = some u := fun a u na ha => k_owned a u na (base4 a u na ha)
    have t5_lines := k_owned _ _ (Ne.symm nd_lines) t4_lines
    have t5_rows := k_owned _ _ (Ne.symm nd_rows) t4_rows
    have t5_cells := k_owned _ _ (Ne.symm nd_cells) t4_cells
    dsimp only
    generalize upd (upd H4 p_owned (HO.lst [])) d (.ins C dx (putF "owned" (.ref p_owned) (putF "cells" (.ref p_cells) (putF "rows" (.ref p_rows) (putF "line" (.int (0 : Nat)) (putF "lines" (.ref p_lines) ([]))))))) = H5 at gd5 base5 t5_lines t5_rows t5_cells t5_owned ⊢
    refine seq_go fun p_packages h_packages => ?_
    obtain ⟨nd_packages, g_packages, k_packages, gd6, t6_packages⟩ := fresh_set (f := "packages") (o := HO.dK []) gd5 h_packages
    have z_packages := back base5 ⟨_, gd5⟩ h_packages
    have ne_lines_packages := ne_of_none t5_lines h_packages
    have ne_rows_packages := ne_of_none t5_rows h_packages
    have ne_cells_packages := ne_of_none t5_cells h_packages
    have ne_owned_packages := ne_of_none t5_owned h_packages
    refine ⟨_, rfl, d, C, dx, _, rfl, g_packages, O.cl, O.no _ (by decide), few _ (by show 5 ≤ 9; decide), ?_⟩
    have base6 : ∀ a u, a ≠ d → H a = some u → (upd (upd H5 p_packages (HO.dK [])) d (.ins C dx (putF "packages" (.ref p_packages) (putF "owned" (.ref p_owned) (putF "cells" (.ref p_cells) (putF "rows" (.ref p_rows) (putF "line" (.int (0 : Nat)) (putF "lines" (.ref p_lines) ([]))))))))) a = some u := fun a u na ha => k_packages a u na (base5 a u na ha)
    have t6_lines := k_packages _ _ (Ne.symm nd_lines) t5_lines
    have t6_rows := k_packages _ _ (Ne.symm nd_rows) t5_rows
    have t6_cells := k_packages _ _ (Ne.symm nd_cells) t5_cells
    have t6_owned := k_packages _ _ (Ne.symm nd_owned) t5_owned
    dsimp only
    generalize upd (upd H5 p_packages (HO.dK [])) d (.ins C dx (putF "packages" (.ref p_packages) (putF "owned" (.ref p_owned) (putF "cells" (.ref p_cells) (putF "rows" (.ref p_rows) (putF "line" (.int (0 : Nat)) (putF "lines" (.ref p_lines) ([])))))))) = H6 at gd6 base6 t6_lines t6_rows t6_cells t6_owned t6_packages ⊢
    refine seq_go ⟨by decide, fun p_triggers h_triggers => ?_⟩
    obtain ⟨nd_triggers, g_triggers, k_triggers, gd7, t7_triggers⟩ := fresh_set (f := "triggers") (o := HO.lst []) gd6 h_triggers
    have z_triggers := back base6 ⟨_, gd6⟩ h_triggers
    have ne_lines_triggers := ne_of_none t6_lines h_triggers
    have ne_rows_triggers := ne_of_none t6_rows h_triggers
    have ne_cells_triggers := ne_of_none t6_cells h_triggers
    have ne_owned_triggers := ne_of_none t6_owned h_triggers
    have ne_packages_triggers := ne_of_none t6_packages h_triggers
    refine ⟨_, rfl, d, C, dx, _, rfl, g_triggers, O.cl, O.no _ (by decide), few _ (by show 6 ≤ 9; decide), ?_⟩
    have base7 : ∀ a u, a ≠ d → H a = some u → (upd (upd H6 p_triggers (HO.lst [])) d (.ins C dx (putF "triggers" (.ref p_triggers) (putF "packages" (.ref p_packages) (putF "owned" (.ref p_owned) (putF "cells" (.ref p_cells) (putF "rows" (.ref p_rows) (putF "line" (.int (0 : Nat)) (putF "lines" (.ref p_lines) ([])))))))))) a = some u := fun a u na ha => k_triggers a u na (base6 a u na ha)
    have t7_lines := k_triggers _ _ (Ne.symm nd_lines) t6_lines
    have t7_rows := k_triggers _ _ (Ne.symm nd_rows) t6_rows
    have t7_cells := k_triggers _ _ (Ne.symm nd_cells) t6_cells
    have t7_owned := k_triggers _ _ (Ne.symm nd_owned) t6_owned
    have t7_packages := k_triggers _ _ (Ne.symm nd_packages) t6_packages
    dsimp only
    generalize upd (upd H6 p_triggers (HO.lst [])) d (.ins C dx (putF "triggers" (.ref p_triggers) (putF "packages" (.ref p_packages) (putF "owned" (.ref p_owned) (putF "cells" (.ref p_cells) (putF "rows" (.ref p_rows) (putF "line" (.int (0 : Nat)) (putF "lines" (.ref p_lines) ([]))))))))) = H7 at gd7 base7 t7_lines t7_rows t7_cells t7_owned t7_packages t7_triggers ⊢
    intro p_sets h_sets
    obtain ⟨nd_sets, g_sets, k_sets, gd8, t8_sets⟩ := fresh_set (f := "sets") (o := HO.dK []) gd7 h_sets
    have z_sets := back base7 ⟨_, gd7⟩ h_sets
    have ne_lines_sets := ne_of_none t7_lines h_sets
    have ne_rows_sets := ne_of_none t7_rows h_sets
    have ne_cells_sets := ne_of_none t7_cells h_sets
    have ne_owned_sets := ne_of_none t7_owned h_sets
    have ne_packages_sets := ne_of_none t7_packages h_sets
    have ne_triggers_sets := ne_of_none t7_triggers h_sets
    refine ⟨_, rfl, d, C, dx, _, rfl, g_sets, O.cl, O.no _ (by decide), few _ (by show 7 ≤ 9; decide), ?_⟩
    have base8 : ∀ a u, a ≠ d → H a = some u → (upd (upd H7 p_sets (HO.dK [])) d (.ins C dx (putF "sets" (.ref p_sets) (putF "triggers" (.ref p_triggers) (putF "packages" (.ref p_packages) (putF "owned" (.ref p_owned) (putF "cells" (.ref p_cells) (putF "rows" (.ref p_rows) (putF "line" (.int (0 : Nat)) (putF "lines" (.ref p_lines) ([]))))))))))) a = some u := fun a u na ha => k_sets a u na (base7 a u na ha)
    have t8_lines := k_sets _ _ (Ne.symm nd_lines) t7_lines
    have t8_rows := k_sets _ _ (Ne.symm nd_rows) t7_rows
    have t8_cells := k_sets _ _ (Ne.symm nd_cells) t7_cells
    have t8_owned := k_sets _ _ (Ne.symm nd_owned) t7_owned
    have t8_packages := k_sets _ _ (Ne.symm nd_packages) t7_packages
    have t8_triggers := k_sets _ _ (Ne.symm nd_triggers) t7_triggers
    dsimp only
    refine q ⟨d, dx, p_lines, p_rows, p_cells, p_owned, p_packages, p_triggers, p_sets⟩ _ rfl rfl (fun a o na ha => base8 a o (fun z => na (by rw [z]; exact List.mem_cons_self)) ha) (fun a ha => ?_) ?_ gd8 t8_lines t8_rows t8_cells t8_owned t8_packages t8_triggers t8_sets
    · have ha : a = p_lines ∨ a = d ∨ a = p_rows ∨ a = p_cells ∨ a = p_owned ∨ a = p_packages ∨ a = p_triggers ∨ a = p_sets := by simpa [Dr.own] using ha
      rcases ha with rfl | rfl | rfl | rfl | rfl | rfl | rfl | rfl
      · exact .inr z_lines
      · exact .inl rfl
      · exact .inr z_rows
      · exact .inr z_cells
      · exact .inr z_owned
      · exact .inr z_packages
      · exact .inr z_triggers
      · exact .inr z_sets
    · simp [Dr.own, List.nodup_cons, nd_lines, nd_rows, nd_cells, nd_owned, nd_packages, nd_triggers, nd_sets, Ne.symm nd_lines, ne_lines_rows, ne_lines_cells, ne_lines_owned, ne_lines_packages, ne_lines_triggers, ne_lines_sets, ne_rows_cells, ne_rows_owned, ne_rows_packages, ne_rows_triggers, ne_rows_sets, ne_cells_owned, ne_cells_packages, ne_cells_triggers, ne_cells_sets, ne_owned_packages, ne_owned_triggers, ne_owned_sets, ne_packages_triggers, ne_packages_sets, ne_triggers_sets]
end
end Sc

namespace Sc
open PySem L2 PySem.Spec PyProof.Rows Lm
/-! ### read_draft -/
abbrev sDraft : Stmt := top 51
theorem scDraft : FnScope ["text", "draft"] ["text"] (defScope sDraft) := ⟨rfl, rfl, rfl, by decide +kernel, rfl, by decide +kernel, by decide +kernel⟩
def stCell (ls : List Str) (n : Nat) (s : List (Str × List Str) × List Str) : Option (Option ((List (Str × List Str) × List Str) × List Row)) :=
  some (if cellLine (lineWords ls n 0) = true then some ((putS s.1 (cellOf (lineWords ls n 0)).name (cellOf (lineWords ls n 0)).words, ownedOf s.2 (lineWords ls n 0)), [⟨"cell", lineWords ls n 0⟩]) else none)
def stPk (ls : List Str) (n : Nat) (s : List (Str × PkM) × List Str) : Option (Option ((List (Str × PkM) × List Str) × List Row)) := match mPackage ls n s.2 with
  | none => none
  | some none => some none
  | some (some (nm, m, tr2, r)) => some (some ((putS s.1 nm m, tr2), r))
def stSet (ls : List Str) (pn : List Str) (n : Nat) (s : List (Str × List (Str × Int))) : Option (Option (List (Str × List (Str × Int)) × List Row)) :=
  some (match mSet ls n pn s with
    | none => none
    | some (nm, m, r) => some (putS s nm m, r))
structure DrM where
  rows : List Row
  cells : List (Str × List Str)
  owned : List Str
  packages : List (Str × PkM)
  triggers : List Str
  sets : List (Str × List (Str × Int))
def mDraft (ls : List Str) : Option DrM := match mRep (stCell ls) 6 0 ([], []) with
  | none => none
  | some (s1, r1, c1) => if c1 = 0 then none else match mRep (stPk ls) 3 r1.length ([], []) with
    | none => none
    | some (s2, r2, c2) => if c2 = 0 then none else match mRep (stSet ls (s2.1.map (·.1))) 4 (r1.length + r2.length) [] with
      | none => none
      | some (s3, r3, c3) => if c3 = 0 then none else if r1.length + r2.length + r3.length < ls.length then none else some ⟨r1 ++ r2 ++ r3, s1.1, s1.2, s2.1, s2.2, s3⟩
/-- a draft that was read to its end -/
structure Dr.Done (x : Dr) (C CP CE : Addr) (ls : List Str) (m : DrM) (H : Hp) : Prop where
  rd : Rd x.own x C ls m.rows H
  cel : x.Cel m.cells m.owned H
  pkt : x.Pkt CP CE x.own m.packages m.triggers H
  sts : x.Sts x.own (m.packages.map (·.1)) m.sets H
def spDraft (TT : List (Addr × Str)) (C CP CE : Addr) (text : Str) : Sp := fun vs H Q _ => vs = [.str text] ∧ TxtOk text ∧ LamX.Tabs TT H ∧ ∃ m, mDraft (Txt.split text feed) = some m ∧
  ∀ (x : Dr) H', OffN [] H H' → (∀ a ∈ x.lines :: x.own, H a = none) → (x.lines :: x.own).Nodup → x.Done C CP CE (Txt.split text feed) m H' → LamX.Tabs TT H' → Q (.ref x.d) H'
theorem dict_names {β : Type} {Rl : V → β → Prop} : ∀ {rs : List (Key × V)} {qs : List (Str × β)}, DictAt Rl rs qs → rs.map (·.1) = (qs.map (·.1)).map Sum.inr
  | [], [], _ => rfl
  | r :: rs, q :: qs, ⟨⟨e, _⟩, b⟩ => by
    rw [List.map_cons, List.map_cons, List.map_cons, dict_names b, e]
  | [], _ :: _, z => z.elim
  | _ :: _, [], z => z.elim
section
variable {P : Program} {w : World} {K : PySem.W.Frag} {mg : Str → Option Value} {base : Heap} {C CP CE fL fT : Addr} {fdL fdT : FuncData}
theorem ok_draft {text : Str} {k : Nat} {f fS fC fP fR fI : Addr} {fd fdS fdC fdP fdR fdI : FuncData} {TT : List (Addr × Str)} {o1 o2 o3 : Value} {d1 d2 d3 : Option Addr} {l1 l2 l3 : Array (Option Value)} (hk : 5 ≤ k) (G : Fun K "read_draft" "read_draft" sDraft f fd) (T : NatR mg) (O : Own K C drNames)
    (GS : Fun K "read_several" "read_several" sSeveral fS fdS) (bS : Binds K fdS ["read", "draft", "least", "most"] []) (gS : mg "read_several" = some (.ref fS)) (kS : PySem.W.keepIn K (.ref fS) = true)
    (GC : FnOk P w K mg base CX0 k fC fdC ["draft"] (spCell C (Txt.split text feed))) (gC : mg "read_cell" = some (.ref fC)) (bC : Binds K fdC ["draft"] []) (aC : base.get? fC = some ⟨o1, d1, .func fdC, l1⟩)
    (GP : FnOk P w K mg base CX0 k fP fdP ["draft"] (spPackage TT C CP CE (Txt.split text feed))) (gP : mg "read_package" = some (.ref fP)) (bP : Binds K fdP ["draft"] []) (aP : base.get? fP = some ⟨o2, d2, .func fdP, l2⟩)
    (GR : FnOk P w K mg base CX0 k fR fdR ["draft"] (spSet C (Txt.split text feed))) (gR : mg "read_set" = some (.ref fR)) (bR : Binds K fdR ["draft"] []) (aR : base.get? fR = some ⟨o3, d3, .func fdR, l3⟩)
    (MK : Mk K C fI) (GI : FnOk P w K mg base CX0 1 fI fdI ["self", "text"] (spDrInit C)) (gD : mg "Draft" = some (.ref C)) (bI : Binds K fdI ["self", "text"] []) :
    FnOk P w K mg base CX0 (k + 2) f fd ["text"] (spDraft TT C CP CE text) := by
  refine G.ok scDraft (fun vs H Q E h => ?_) (fun cdv A outer s H vs Q E hr h => ?_)
  · obtain ⟨rfl, _⟩ := h
    rfl
  · obtain ⟨rfl, htx, tab, m, hm, q⟩ := h
    have hr2 := hr.mono (show 1 + 1 ≤ k + 1 by omega)
    have one : ∀ {f : Addr} {o : Obj}, base.get? f = some o → ∀ r ∈ [(f, o)], base.get? r.1 = some r.2 := fun e r h => by
      rw [List.mem_singleton.mp h]
      exact e
    refine ⟨_, pss_cons (ps_set (i := 1) scDraft.nd rfl (Or.inl rfl) (pe_make MK GI hr2 (by rfl) gD bI .nil pass0 (pa_cons (pv 0) pa_nil)))
      (pss_cons (ps_expr (pe_led0 (cs := []) (u := fC) (led_several GS bS (act_fn GC bC)) (one aC) hr (Nat.le_refl _) pass0 (by rfl) gS kS (pa_cons (pe_glob (v := .ref fC) (by rfl) gC rfl) (pa_cons (pv 1) (pa_cons pe_int (pa_cons pe_int pa_nil))))))
      (pss_cons (ps_expr (pe_led0 (cs := []) (u := fP) (led_several GS bS (act_fn GP bP)) (one aP) hr (Nat.le_refl _) pass0 (by rfl) gS kS (pa_cons (pe_glob (v := .ref fP) (by rfl) gP rfl) (pa_cons (pv 1) (pa_cons pe_int (pa_cons pe_int pa_nil))))))
      (pss_cons (ps_expr (pe_led0 (cs := []) (u := fR) (led_several GS bS (act_fn GR bR)) (one aR) hr (Nat.le_refl _) pass0 (by rfl) gS kS (pa_cons (pe_glob (v := .ref fR) (by rfl) gR rfl) (pa_cons (pv 1) (pa_cons pe_int (pa_cons pe_int pa_nil))))))
      (pss_cons (ps_if (pt_cmpR op_lt (pe_fld (pv 1) rfl) (pe_callB call_len_seq (by rfl) T.len PySem.boot_len (pa_cons (pe_fld (pv 1) rfl) pa_nil)) (nomark _)) pss_never pss_nil)
      (pss_one (ps_ret (pv 1))))))), ?_⟩
    unfold mDraft at hm
    refine seq_go ⟨_, rfl, ?_⟩
    intro d dx hd hdx nex
    refine ⟨d, dx, text, rfl, htx.1, upd_same, fun x H1 ex edx o1 newA nodup obj hL hR hC hO hP hT hS => ⟨rfl, ?_⟩⟩
    subst ex edx
    have s1 : Same H H1 := fun a u ha => o1 a u (fun z => by
      rw [List.mem_singleton.mp z, hd] at ha
      cases ha) (by
      rw [upd_ne (ne_of_none ha hd), upd_ne (ne_of_none ha hdx)]
      exact ha)
    have newH : ∀ a ∈ x.lines :: x.own, H a = none := fun a ha => by
      rcases newA a ha with z | z
      · rw [z]
        exact hd
      · exact NdefX.upd_none (NdefX.upd_none z)
    have T1 := LamX.Tabs.ext tab s1
    have apart := (List.nodup_cons.mp nodup).1
    have nd := (List.nodup_cons.mp nodup).2
    have sp := split_ok htx feed
    have R1 : Rd x.own x C (Txt.split text feed) [] H1 := by
      refine ⟨⟨obj, hL, sp.1, sp.2, Nat.zero_le _, apart⟩, ⟨[], hR, True.intro⟩, fun a ha => ha, fun a ha => ?_, apart⟩
      have ha : a = x.d ∨ a = x.rows ∨ a = x.cells ∨ a = x.owned ∨ a = x.packages ∨ a = x.triggers ∨ a = x.sets := by simpa [Dr.own] using ha
      rcases ha with rfl | rfl | rfl | rfl | rfl | rfl | rfl
      · exact ⟨_, obj, fun ps z => by cases z⟩
      · exact ⟨_, hR, fun ps z => by cases z⟩
      · exact ⟨_, hC, fun ps z => by cases z⟩
      · exact ⟨_, hO, fun ps z => by cases z⟩
      · exact ⟨_, hP, fun ps z => by cases z⟩
      · exact ⟨_, hT, fun ps z => by cases z⟩
      · exact ⟨_, hS, fun ps z => by cases z⟩
    simp only [Dr.own, List.nodup_cons, List.mem_cons, not_or, List.not_mem_nil, not_false_eq_true] at nd
    obtain ⟨⟨a1, a2, a3, a4, a5, a6, -⟩, ⟨b2, b3, b4, b5, b6, -⟩, ⟨c3, c4, c5, c6, -⟩, ⟨e4, e5, e6, -⟩, ⟨f5, f6, -⟩, ⟨g6, -⟩, -⟩ := nd
    generalize Txt.split text feed = ls at *
    dsimp only
    cases h1 : mRep (stCell ls) 6 0 ([], []) with
    | none =>
      rw [h1] at hm
      cases hm
    | some out1 =>
      obtain ⟨sa, r1, n1⟩ := out1
      rw [h1] at hm
      dsimp only at hm
      by_cases z1 : n1 = 0
      · rw [if_pos z1] at hm
        cases hm
      rw [if_neg z1] at hm
      refine seq_go (drop_go ⟨_, rfl, rfl, (fun q hq => nomatch hq), ?_⟩)
      refine rep_go (s0 := (([], []) : List (Str × List Str) × List Str)) (least := 1) (most := 6) (rm := []) (St := fun n (s : List (Str × List Str) × List Str) rows HH => OffN (CelF x) H1 HH ∧ Rd x.own x C ls rows HH ∧ x.Cel s.1 s.2 HH ∧ s.1.length ≤ n ∧ s.2.length ≤ n ∧ LamX.Tabs TT HH ∧ HH x.packages = some (.dK []) ∧ HH x.triggers = some (.lst []) ∧ HH x.sets = some (.dK []))
        ⟨(Off.refl _ _).n, R1, ⟨⟨[], hC, True.intro⟩, hO, Ne.symm b3⟩, Nat.le_refl _, Nat.le_refl _, T1, hP, hT, hS⟩ (fun n s r0 HH st q hq => (nomatch hq)) h1 (by omega) ?_ ?_
      · rintro n ⟨cm, ow⟩ r0 HH W rs lt ⟨oo, RR, CC, lc, lo, TT1, pP, pT, pS⟩ hrd k1 k2
        have mu : Mutes (CelF x) HH := by
          obtain ⟨ks, hks, _⟩ := CC.cells
          exact RR.mutes.app fun a ha => by
            have ha : a = x.cells ∨ a = x.owned := by simpa using ha
            rcases ha with rfl | rfl
            · exact ⟨_, hks, .inr (.inl ⟨_, rfl⟩)⟩
            · exact ⟨_, CC.owned, .inl ⟨_, rfl⟩⟩
        have nP : x.packages ∉ CelF x := by simp [Ne.symm a4, Ne.symm b4, Ne.symm c4, Ne.symm e4]
        have nT : x.triggers ∉ CelF x := by simp [Ne.symm a5, Ne.symm b5, Ne.symm c5, Ne.symm e5]
        have nS : x.sets ∉ CelF x := by simp [Ne.symm a6, Ne.symm b6, Ne.symm c6, Ne.symm e6]
        unfold stCell at hrd
        have hrd := Option.some.inj hrd
        refine ⟨x, x.own, _, cm, ow, rfl, RR, CC, by dsimp only at lc; omega, by dsimp only at lo; omega, fun c H2 o2 R2 C2 => ?_, fun c H2 o2 R2 C2 => ?_⟩
        · rw [if_neg c] at hrd
          subst hrd
          exact k1 rfl H2 ⟨oo.trans o2.n, R2, C2, lc, lo, Tabs.off TT1 mu o2, o2 _ _ nP pP, o2 _ _ nT pT, o2 _ _ nS pS⟩
        · rw [if_pos c] at hrd
          subst hrd
          refine k2 _ _ rfl H2 ⟨oo.trans o2.n, ?_, C2, ?_, ?_, Tabs.off TT1 mu o2, o2 _ _ nP pP, o2 _ _ nT pT, o2 _ _ nS pS⟩
          · rw [← List.append_assoc]
            exact R2
          · have := putS_len cm (cellOf (lineWords ls ([] ++ r0).length 0)).name (cellOf (lineWords ls ([] ++ r0).length 0)).words
            dsimp only at lc ⊢
            omega
          · dsimp only at lo ⊢
            unfold ownedOf
            split
            · rw [List.length_append, List.length_singleton]
              omega
            · omega
      · rintro na H2 hna ⟨o2, R2, C2, _, _, T2, p2, t2, s2⟩
        dsimp only at C2 ⊢
        cases h2 : mRep (stPk ls) 3 r1.length ([], []) with
        | none =>
          rw [h2] at hm
          cases hm
        | some out2 =>
          obtain ⟨sb, r2, n2⟩ := out2
          rw [h2] at hm
          dsimp only at hm
          by_cases z2 : n2 = 0
          · rw [if_pos z2] at hm
            cases hm
          rw [if_neg z2] at hm
          refine seq_go (drop_go ⟨_, rfl, rfl, (fun q hq => nomatch hq), ?_⟩)
          refine rep_go (s0 := (([], []) : List (Str × PkM) × List Str)) (least := 1) (most := 3) (rm := r1) (St := fun n (s : List (Str × PkM) × List Str) rows HH => OffN (PkF x) H2 HH ∧ Rd x.own x C ls rows HH ∧ x.Pkt CP CE x.own s.1 s.2 HH ∧ s.1.length ≤ n ∧ LamX.Tabs TT HH ∧ x.Cel sa.1 sa.2 HH ∧ HH x.sets = some (.dK []))
            ⟨(Off.refl _ _).n, R2, ⟨⟨[], p2, True.intro⟩, t2, Nat.zero_le _, Ne.symm b5⟩, Nat.le_refl _, T2, C2, s2⟩ (fun n s r0 HH st q hq => (nomatch hq)) h2 (by omega) ?_ ?_
          · rintro n ⟨pm, tr⟩ r0 HH W rs lt ⟨oo, RR, PP, lp, TT1, CC, pS⟩ hrd k1 k2
            have mu : Mutes (PkF x) HH := by
              obtain ⟨ks, hks, _⟩ := PP.pks
              exact RR.mutes.app fun a ha => by
                have ha : a = x.packages ∨ a = x.triggers := by simpa using ha
                rcases ha with rfl | rfl
                · exact ⟨_, hks, .inr (.inl ⟨_, rfl⟩)⟩
                · exact ⟨_, PP.trs, .inl ⟨_, rfl⟩⟩
            have nC : x.cells ∉ PkF x := by simp [Ne.symm a2, Ne.symm b2, c4, c5]
            have nO : x.owned ∉ PkF x := by simp [Ne.symm a3, Ne.symm b3, e4, e5]
            have nS : x.sets ∉ PkF x := by simp [Ne.symm a6, Ne.symm b6, Ne.symm f6, Ne.symm g6]
            unfold stPk at hrd
            dsimp only at hrd
            cases hE : mPackage ls (r1 ++ r0).length tr with
            | none =>
              rw [hE] at hrd
              cases hrd
            | some resE =>
              rw [hE] at hrd
              refine ⟨x, x.own, _, pm, tr, rfl, RR, PP, TT1, by dsimp only at lp; omega, resE, hE, fun er H3 o3 R3 P3 T3 => ?_, fun nm m4 tr2 rr er H3 o3 R3 P3 T3 => ?_⟩
              · subst er
                cases hrd
                exact k1 rfl H3 ⟨oo.trans o3, R3, P3, lp, T3, CC.off (OffN.tups o3 mu) o3 nC nO, o3 _ _ nS pS (fun ps z => by cases z)⟩
              · subst er
                cases hrd
                refine k2 _ _ rfl H3 ⟨oo.trans o3, ?_, P3, ?_, T3, CC.off (OffN.tups o3 mu) o3 nC nO, o3 _ _ nS pS (fun ps z => by cases z)⟩
                · rw [← List.append_assoc]
                  exact R3
                · have := putS_len pm nm m4
                  dsimp only at lp ⊢
                  omega
          · rintro nb H3 hnb ⟨o3, R3, P3, _, T3, C3, s3⟩
            dsimp only at P3 ⊢
            cases h3 : mRep (stSet ls (sb.1.map (·.1))) 4 (r1.length + r2.length) [] with
            | none =>
              rw [h3] at hm
              cases hm
            | some out3 =>
              obtain ⟨sc, r3, n3⟩ := out3
              rw [h3] at hm
              dsimp only at hm
              by_cases z3 : n3 = 0
              · rw [if_pos z3] at hm
                cases hm
              rw [if_neg z3] at hm
              by_cases z4 : r1.length + r2.length + r3.length < ls.length
              · rw [if_pos z4] at hm
                cases hm
              rw [if_neg z4] at hm
              cases hm
              have S3 : x.Sts x.own (sb.1.map (·.1)) [] H3 := by
                obtain ⟨ks, hks, dk⟩ := P3.pks
                exact ⟨⟨ks, hks, dict_names dk⟩, ⟨[], s3, True.intro⟩⟩
              refine seq_go (drop_go ⟨_, rfl, rfl, (fun q hq => nomatch hq), ?_⟩)
              refine rep_go (s0 := ([] : List (Str × List (Str × Int)))) (least := 1) (most := 4) (rm := r1 ++ r2) (St := fun n (s : List (Str × List (Str × Int))) rows HH => OffN (SetF x) H3 HH ∧ Rd x.own x C ls rows HH ∧ x.Sts x.own (sb.1.map (·.1)) s HH ∧ s.length ≤ n ∧ LamX.Tabs TT HH ∧ x.Cel sa.1 sa.2 HH ∧ x.Pkt CP CE x.own sb.1 sb.2 HH)
                ⟨(Off.refl _ _).n, R3, S3, Nat.le_refl _, T3, C3, P3⟩ (fun n s r0 HH st q hq => (nomatch hq)) (by rw [List.length_append]; exact h3) (by omega) ?_ ?_
              · rintro n sm r0 HH W rs lt ⟨oo, RR, SS, lsm, TT1, CC, PP⟩ hrd k1 k2
                have mu : Mutes (SetF x) HH := by
                  obtain ⟨ks, hks, _⟩ := SS.sets
                  exact RR.mutes.app fun a ha => by
                    rw [List.mem_singleton.mp ha]
                    exact ⟨_, hks, .inr (.inl ⟨_, rfl⟩)⟩
                have sub : ∀ a ∈ SetF x, a ∈ x.own := fun a ha => (List.mem_append.mp ha).elim (RR.twoZ a) fun z => by
                  rw [List.mem_singleton.mp z]
                  simp [Dr.own]
                have nC : x.cells ∉ SetF x := by simp [Ne.symm a2, Ne.symm b2, c6]
                have nO : x.owned ∉ SetF x := by simp [Ne.symm a3, Ne.symm b3, e6]
                have nP : x.packages ∉ SetF x := by simp [Ne.symm a4, Ne.symm b4, f6]
                have nT : x.triggers ∉ SetF x := by simp [Ne.symm a5, Ne.symm b5, g6]
                unfold stSet at hrd
                have hrd := Option.some.inj hrd
                refine ⟨x, x.own, _, _, sm, rfl, RR, SS, Ne.symm f6, by omega, fun e H4 o4 R4 S4 => ?_, fun nm m5 rr e H4 o4 R4 S4 => ?_⟩
                · rw [e] at hrd
                  subst hrd
                  exact k1 rfl H4 ⟨oo.trans o4.n, R4, S4, lsm, Tabs.off TT1 mu o4, CC.off (OffN.tups o4.n mu) o4.n nC nO, PP.off mu sub o4.n nP nT⟩
                · rw [e] at hrd
                  subst hrd
                  refine k2 _ _ rfl H4 ⟨oo.trans o4.n, ?_, S4, ?_, Tabs.off TT1 mu o4, CC.off (OffN.tups o4.n mu) o4.n nC nO, PP.off mu sub o4.n nP nT⟩
                  · rw [← List.append_assoc]
                    exact R4
                  · have := putS_len sm nm m5
                    omega
              · rintro nc H4 hnc ⟨o4, R4, S4, _, T4, C4, P4⟩
                dsimp only
                refine seq_go (ifs_go (test_go (op_go (fld_go O R4.at_ rfl (by decide) (x.lk_line _) (cb_go (cons_go (fld_go O R4.at_ rfl (by decide) (x.lk_lines _) ?_)))))))
                refine ⟨x.lines, _, rfl, .inl (.inl (.inl R4.at_.lines)), _, _, rfl, rfl, _, rfl, ite2 (fun z => ?_) fun _ => ?_⟩
                · have z := of_decide_eq_true z
                  rw [List.length_map, List.length_append, List.length_append] at z
                  omega
                · refine next_go ?_
                  dsimp only
                  refine ⟨_, rfl, q x H4 (fun a u na ha nt => ?_) newH nodup ⟨R4, C4, P4, S4⟩ T4⟩
                  have nown : a ∉ x.own := fun z => by
                    rw [newH a (List.mem_cons_of_mem _ z)] at ha
                    cases ha
                  have sub1 : ∀ b ∈ CelF x, b ∈ x.own := fun b hb => by
                    have hb : b = x.d ∨ b = x.rows ∨ b = x.cells ∨ b = x.owned := by simpa using hb
                    rcases hb with rfl | rfl | rfl | rfl <;> simp [Dr.own]
                  have sub2 : ∀ b ∈ PkF x, b ∈ x.own := fun b hb => by
                    have hb : b = x.d ∨ b = x.rows ∨ b = x.packages ∨ b = x.triggers := by simpa using hb
                    rcases hb with rfl | rfl | rfl | rfl <;> simp [Dr.own]
                  have sub3 : ∀ b ∈ SetF x, b ∈ x.own := fun b hb => by
                    have hb : b = x.d ∨ b = x.rows ∨ b = x.sets := by simpa using hb
                    rcases hb with rfl | rfl | rfl <;> simp [Dr.own]
                  exact o4 a u (fun z => nown (sub3 a z)) (o3 a u (fun z => nown (sub2 a z)) (o2 a u (fun z => nown (sub1 a z)) (s1 _ _ ha) nt) nt) nt
end
end Sc

namespace Sc
open PySem L2 PySem.Spec PyProof.Rows Lm
/-! ### commands: has_word -/
abbrev sHas : Stmt := top 1
theorem scHas : FnScope ["cells", "cell", "word"] ["cells", "cell", "word"] (defScope sHas) := ⟨rfl, rfl, rfl, by decide +kernel, rfl, by decide +kernel, by decide +kernel⟩
def look {β : Type} (qs : List (Str × β)) (k : Str) : Option β := (qs.find? fun q => decide (q.1 = k)).map (·.2)
def hasWord (cm : List (Str × List Str)) (cell word : Str) : Bool := match look cm cell with
  | none => false
  | some ws => ws.contains word
theorem dict_look {β : Type} {Rl : V → β → Prop} {k : Str} : ∀ {rs : List (Key × V)} {qs : List (Str × β)}, DictAt Rl rs qs → (look qs k = none → valV rs (.inr k) = none) ∧ ∀ b, look qs k = some b → ∃ v, valV rs (.inr k) = some v ∧ Rl v b
  | [], [], _ => ⟨fun _ => rfl, fun b e => by cases e⟩
  | r :: rs, q :: qs, ⟨⟨e, x⟩, t⟩ => by
    obtain ⟨h1, h2⟩ := dict_look (k := k) t
    by_cases h : q.1 = k
    · have l : look (q :: qs) k = some q.2 := by
        unfold look
        rw [List.find?_cons_of_pos (p := fun q : Str × β => decide (q.1 = k)) (decide_eq_true h)]
        rfl
      have v : valV (r :: rs) (.inr k) = some r.2 := valV_pos (by rw [e, h])
      refine ⟨fun n => ?_, fun b eb => ⟨r.2, v, ?_⟩⟩
      · rw [l] at n
        cases n
      · rw [l] at eb
        cases eb
        exact x
    · have l : look (q :: qs) k = look qs k := by
        unfold look
        rw [List.find?_cons_of_neg (p := fun q : Str × β => decide (q.1 = k)) (by simpa using h)]
      have v : valV (r :: rs) (.inr k) = valV rs (.inr k) := valV_neg (by rw [e]; exact fun z => h (Sum.inr.inj z))
      rw [l, v]
      exact ⟨h1, h2⟩
  | [], _ :: _, z => z.elim
  | _ :: _, [], z => z.elim
def spHas : Sp := fun vs H Q _ => ∃ (a : Addr) (ks : List (Key × V)) (cm : List (Str × List Str)) (cell word : Str), vs = [.ref a, .str cell, .str word] ∧ H a = some (.dK ks) ∧ DictAt (WordsTup H) ks cm ∧ Q (.bl (hasWord cm cell word)) H
section
variable {P : Program} {w : World} {K : PySem.W.Frag} {mg : Str → Option Value} {base : Heap}
theorem ok_has {f : Addr} {fd : FuncData} (G : Fun K "has_word" "has_word" sHas f fd) (T : NatR mg) : FnOk P w K mg base CX0 1 f fd ["cells", "cell", "word"] spHas := by
  refine G.ok scHas (fun vs H Q E h => ?_) (fun cdv A outer s H vs Q E hr h => ?_)
  · obtain ⟨a, ks, cm, cell, word, rfl, _⟩ := h
    rfl
  · obtain ⟨a, ks, cm, cell, word, rfl, ha, dk, q⟩ := h
    refine ⟨_, pss_one (ps_ret (pe_and (pe_callB call_isi (by rfl) T.isi PyProof.Rows.boot_isinstance (pa_cons (pv 1) (pa_cons (pe_bltn (v := .ty "str") (by rfl) T.str (by decide +kernel) rfl) pa_nil)))
      (pe_and (pe_cmp (pc_din (u1 hr.units) (pv 1) (pv 0)) rfl) (pe_one (pe_cmpR op_in_seq (pv 2) (pe_dget (u1 hr.units) (pv 0) (pv 1) (fun _ _ => rfl)) (by rfl)))))), ?_⟩
    refine ⟨_, rfl, .str cell, .ty "str", .type "str", .type "str", true, rfl, .ty _, .base (.str _), kit_ty (by decide +kernel), tst_go (ite2 (fun _ => ?_) fun z => absurd rfl z)⟩
    obtain ⟨h1, h2⟩ := dict_look (k := cell) dk
    refine ⟨_, rfl, _, rfl, a, _, rfl, DGet.k (k := .inr cell) ha, _, rfl, ?_⟩
    unfold hasWord at q
    cases e : look cm cell with
    | none =>
      rw [h1 e]
      rw [e] at q
      refine ite2 (fun z => absurd z (by decide)) fun _ => ?_
      exact q
    | some ws =>
      obtain ⟨v, ev, p, rfl, hp⟩ := h2 ws e
      rw [ev]
      rw [e] at q
      refine ite2 (fun _ => ?_) fun z => absurd rfl z
      refine ⟨_, rfl, _, rfl, _, rfl, a, _, rfl, ?_, p, _, rfl, .inr (.inl (.inl hp)), rfl, ?_, ?_⟩
      · have g := DGet.k (k := .inr cell) ha
        rw [ev] at g
        exact g
      · rw [List.all_map]
        exact List.all_eq_true.mpr fun _ _ => rfl
      · show Q (.bl (inV (.str word) (ws.map V.str))) H
        rw [inV_str]
        exact q
end
end Sc

namespace Sc
open PySem L2 PySem.Spec PyProof.Rows Lm
/-! ### commands: can_copy, is_command_of -/
abbrev sCopy : Stmt := top 2
abbrev sCmdOf : Stmt := top 3
theorem scCopy : FnScope ["cells", "one", "other"] ["cells", "one", "other"] (defScope sCopy) := ⟨rfl, rfl, rfl, by decide +kernel, rfl, by decide +kernel, by decide +kernel⟩
theorem scCmdOf : FnScope ["cells", "triggers", "command"] ["cells", "triggers", "command"] (defScope sCmdOf) := ⟨rfl, rfl, rfl, by decide +kernel, rfl, by decide +kernel, by decide +kernel⟩
def canCopy (cm : List (Str × List Str)) (one other : Str) : Bool := match look cm one with
  | none => false
  | some a => match look cm other with
    | none => false
    | some b => a == b
def WordsOk (cm : List (Str × List Str)) : Prop := ∀ q ∈ cm, ∀ w ∈ q.2, PyData.strOk w = true
theorem look_mem {β : Type} {qs : List (Str × β)} {k : Str} {b : β} (h : look qs k = some b) : ∃ q ∈ qs, q.2 = b := by
  unfold look at h
  cases e : qs.find? fun q => decide (q.1 = k) with
  | none =>
    rw [e] at h
    cases h
  | some q =>
    rw [e] at h
    exact ⟨q, List.mem_of_find?_eq_some e, Option.some.inj h⟩
theorem shaped_tup (ws : List Str) (h : ∀ x ∈ ws, PyData.strOk x = true) : SeqAt.shaped (.tuple (ws.map PyData.str)) = true := shaped_strs ws h
theorem eqv_tups (xs ys : List Str) : PyData.eqv (.tuple (xs.map PyData.str)) (.tuple (ys.map PyData.str)) = (xs == ys) := eqvAll_strs xs ys
def spCopy : Sp := fun vs H Q _ => ∃ (a : Addr) (ks : List (Key × V)) (cm : List (Str × List Str)) (one other : Str), vs = [.ref a, .str one, .str other] ∧ H a = some (.dK ks) ∧ DictAt (WordsTup H) ks cm ∧ WordsOk cm ∧ Q (.bl (canCopy cm one other)) H
section
variable {P : Program} {w : World} {K : PySem.W.Frag} {mg : Str → Option Value} {base : Heap}
theorem ok_copy {f : Addr} {fd : FuncData} (G : Fun K "can_copy" "can_copy" sCopy f fd) (T : NatR mg) : FnOk P w K mg base CX0 1 f fd ["cells", "one", "other"] spCopy := by
  refine G.ok scCopy (fun vs H Q E h => ?_) (fun cdv A outer s H vs Q E hr h => ?_)
  · obtain ⟨a, ks, cm, one, other, rfl, _⟩ := h
    rfl
  · obtain ⟨a, ks, cm, one, other, rfl, ha, dk, wk, q⟩ := h
    refine ⟨_, pss_cons (ps_if (PW.pt (pw_or (pt_not (pt_val (pe_callB call_isi (by rfl) T.isi PyProof.Rows.boot_isinstance (pa_cons (pv 1) (pa_cons (pe_bltn (v := .ty "str") (by rfl) T.str (by decide +kernel) rfl) pa_nil)))))
        (pw_or1 (pt_not (pt_val (pe_callB call_isi (by rfl) T.isi PyProof.Rows.boot_isinstance (pa_cons (pv 2) (pa_cons (pe_bltn (v := .ty "str") (by rfl) T.str (by decide +kernel) rfl) pa_nil)))))))) (pss_one (ps_ret pe_bl)) pss_nil)
      (pss_one (ps_ret (pe_and (pe_cmp (pc_din (u1 hr.units) (pv 1) (pv 0)) rfl) (pe_and (pe_cmp (pc_din (u1 hr.units) (pv 2) (pv 0)) rfl)
        (pe_one (pe_cmpR (op_eqD hr.units) (pe_dget (u1 hr.units) (pv 0) (pv 1) (fun _ _ => rfl)) (pe_dget (u1 hr.units) (pv 0) (pv 2) (fun _ _ => rfl)) (nomark _))))))), ?_⟩
    refine seq_go (ifs_go (or_go (not_go (val_go ?_))))
    refine ⟨_, rfl, .str one, .ty "str", .type "str", .type "str", true, rfl, .ty _, .base (.str _), kit_ty (by decide +kernel), _, rfl, ite2 (fun z => absurd z (by decide)) fun _ => ?_⟩
    refine not_go (val_go ?_)
    refine ⟨_, rfl, .str other, .ty "str", .type "str", .type "str", true, rfl, .ty _, .base (.str _), kit_ty (by decide +kernel), _, rfl, ite2 (fun z => absurd z (by decide)) fun _ => ?_⟩
    refine next_go ?_
    dsimp only
    obtain ⟨h1, h2⟩ := dict_look (k := one) dk
    obtain ⟨g1, g2⟩ := dict_look (k := other) dk
    unfold canCopy at q
    refine ret_go ?_
    refine ⟨_, rfl, _, rfl, a, _, rfl, DGet.k (k := .inr one) ha, _, rfl, ?_⟩
    cases e : look cm one with
    | none =>
      rw [h1 e]
      rw [e] at q
      refine ite2 (fun z => absurd z (by decide)) fun _ => ?_
      exact q
    | some wa =>
      obtain ⟨va, ea, pa, rfl, hpa⟩ := h2 wa e
      rw [ea]
      rw [e] at q
      dsimp only at q
      refine ite2 (fun _ => ?_) fun z => absurd rfl z
      refine ⟨_, rfl, _, rfl, a, _, rfl, DGet.k (k := .inr other) ha, _, rfl, ?_⟩
      cases e2 : look cm other with
      | none =>
        rw [g1 e2]
        rw [e2] at q
        refine ite2 (fun z => absurd z (by decide)) fun _ => ?_
        exact q
      | some wb =>
        obtain ⟨vb, eb, pb, rfl, hpb⟩ := g2 wb e2
        rw [eb]
        rw [e2] at q
        refine ite2 (fun _ => ?_) fun z => absurd rfl z
        have ga := DGet.k (k := .inr one) ha
        rw [ea] at ga
        have gb := DGet.k (k := .inr other) ha
        rw [eb] at gb
        have okOf : ∀ {k : Str} {ws : List Str}, look cm k = some ws → ∀ x ∈ ws, PyData.strOk x = true := fun {k ws} h x hx => by
          obtain ⟨r, hr, rfl⟩ := look_mem h
          exact wk r hr x hx
        refine ⟨_, rfl, _, rfl, a, _, rfl, ga, _, rfl, _, rfl, a, _, rfl, gb, _, _, .tup (.inl (.inl hpa)) (dpAll_strs wa), .tup (.inl (.inl hpb)) (dpAll_strs wb), shaped_tup _ (okOf e), shaped_tup _ (okOf e2), ?_⟩
        rw [eqv_tups]
        exact q
end
end Sc

namespace Sc
open PySem L2 PySem.Spec PyProof.Rows Lm
def cmdOf (cm : List (Str × List Str)) (tr ws : List Str) : Bool :=
  if ws.getD 0 "" == ("set" : Str) then ws.length == 3 && hasWord cm (ws.getD 1 "") (ws.getD 2 "")
  else if ws.getD 0 "" == ("copy" : Str) then ws.length == 3 && canCopy cm (ws.getD 1 "") (ws.getD 2 "")
  else if ws.getD 0 "" == ("wake" : Str) then ws.length == 2 && tr.contains (ws.getD 1 "")
  else ws == [("fail" : Str)]
def spCmdOf (K : PySem.W.Frag) : Sp := fun vs H Q _ => ∃ (a t c : Addr) (ks : List (Key × V)) (cm : List (Str × List Str)) (tr ws : List Str), vs = [.ref a, .ref t, .ref c] ∧ H a = some (.dK ks) ∧ DictAt (WordsTup H) ks cm ∧ WordsOk cm ∧ (SqL K H t (tr.map V.str) ∨ SqT K H t (tr.map V.str)) ∧
  SqT K H c (ws.map V.str) ∧ ws ≠ [] ∧ (∀ x ∈ ws, PyData.strOk x = true) ∧ ∀ H', Same H H' → Q (.bl (cmdOf cm tr ws)) H'
section
variable {P : Program} {w : World} {K : PySem.W.Frag} {mg : Str → Option Value} {base : Heap}
theorem ok_cmdOf {f fH fC : Addr} {fd fdH fdC : FuncData} (G : Fun K "is_command_of" "is_command_of" sCmdOf f fd) (T : NatR mg)
    (GH : FnOk P w K mg base CX0 1 fH fdH ["cells", "cell", "word"] spHas) (gH : mg "has_word" = some (.ref fH)) (kH : PySem.W.keepIn K (.ref fH) = true) (bH : Binds K fdH ["cells", "cell", "word"] [])
    (GC : FnOk P w K mg base CX0 1 fC fdC ["cells", "one", "other"] spCopy) (gC : mg "can_copy" = some (.ref fC)) (kC : PySem.W.keepIn K (.ref fC) = true) (bC : Binds K fdC ["cells", "one", "other"] []) :
    FnOk P w K mg base CX0 2 f fd ["cells", "triggers", "command"] (spCmdOf K) := by
  refine G.ok scCmdOf (fun vs H Q E h => ?_) (fun cdv A outer s H vs Q E hr h => ?_)
  · obtain ⟨a, t, c, ks, cm, tr, ws, rfl, _⟩ := h
    rfl
  · obtain ⟨a, t, c, ks, cm, tr, ws, rfl, ha, dk, wk, ht, hc, ne, wo, q⟩ := h
    refine ⟨_, pss_cons (ps_if (pt_cmpR op_eq (pe_ix ix_tup (pv 2) pe_int (fun _ _ => rfl)) pe_str (nomark _)) (pss_one (ps_ret (pe_and (pe_cmpR op_eq (pe_callB call_len_seq (by rfl) T.len PySem.boot_len (pa_cons (pv 2) pa_nil)) pe_int (nomark _))
        (pe_one (pe_call GH hr (by rfl) gH kH bH .nil pass0 (pa_cons (pv 0) (pa_cons (pe_ix ix_tup (pv 2) pe_int (fun _ _ => rfl)) (pa_cons (pe_ix ix_tup (pv 2) pe_int (fun _ _ => rfl)) pa_nil)))))))) pss_nil)
      (pss_cons (ps_if (pt_cmpR op_eq (pe_ix ix_tup (pv 2) pe_int (fun _ _ => rfl)) pe_str (nomark _)) (pss_one (ps_ret (pe_and (pe_cmpR op_eq (pe_callB call_len_seq (by rfl) T.len PySem.boot_len (pa_cons (pv 2) pa_nil)) pe_int (nomark _))
        (pe_one (pe_call GC hr (by rfl) gC kC bC .nil pass0 (pa_cons (pv 0) (pa_cons (pe_ix ix_tup (pv 2) pe_int (fun _ _ => rfl)) (pa_cons (pe_ix ix_tup (pv 2) pe_int (fun _ _ => rfl)) pa_nil)))))))) pss_nil)
      (pss_cons (ps_if (pt_cmpR op_eq (pe_ix ix_tup (pv 2) pe_int (fun _ _ => rfl)) pe_str (nomark _)) (pss_one (ps_ret (pe_and (pe_cmpR op_eq (pe_callB call_len_seq (by rfl) T.len PySem.boot_len (pa_cons (pv 2) pa_nil)) pe_int (nomark _))
        (pe_one (pe_cmpR op_in_seq (pe_ix ix_tup (pv 2) pe_int (fun _ _ => rfl)) (pv 1) (by rfl)))))) pss_nil)
      (pss_one (ps_ret (pe_cmpR (op_eqD hr.units) (pv 2) (pe_tup (pa_cons pe_str pa_nil)) (nomark _)))))), ?_⟩
    have l0 : 0 < ws.length := by
      cases ws with
      | nil => exact absurd rfl ne
      | cons x r => simp
    have len : ∀ (n : Nat), decide (V.int ((ws.map V.str).length : Nat) = V.int (n : Nat)) = (ws.length == n) := fun n => by
      rw [dec_int, List.length_map, Bool.eq_iff_iff, beq_iff_eq, beq_iff_eq]
      omega
    have qq := q
    have q := q H (Same.refl H)
    unfold cmdOf at q
    refine seq_go (ifs_go (test_go (op_go ⟨_, rfl, c, _, _, _, rfl, rfl, hc, get_word (i := 0) l0, rfl, _, rfl, ite2 (fun e => ?_) fun e => ?_⟩)))
    · rw [dec_str] at e
      rw [if_pos e] at q
      refine ret_go ⟨_, rfl, c, _, rfl, .inr hc, rfl, _, rfl, ?_⟩
      refine ite2 (fun n => ?_) fun n => ?_
      · have n2 : (ws.length == 3) = true := (len 3).symm.trans n
        have n3 : ws.length = 3 := eq_of_beq n2
        rw [n2] at q
        exact ⟨_, rfl, _, rfl, c, _, _, _, rfl, rfl, hc, get_word (i := 1) (by omega), _, rfl, c, _, _, _, rfl, rfl, hc, get_word (i := 2) (by omega), a, ks, cm, _, _, rfl, ha, dk, q⟩
      · have n2 : (ws.length == 3) = false := by
          rw [← len 3]
          simpa using n
        rw [n2] at q
        exact q
    · rw [dec_str] at e
      rw [if_neg e] at q
      refine next_go ?_
      dsimp only
      refine seq_go (ifs_go (test_go (op_go ⟨_, rfl, c, _, _, _, rfl, rfl, hc, get_word (i := 0) l0, rfl, _, rfl, ite2 (fun e2 => ?_) fun e2 => ?_⟩)))
      · rw [dec_str] at e2
        rw [if_pos e2] at q
        refine ret_go ⟨_, rfl, c, _, rfl, .inr hc, rfl, _, rfl, ?_⟩
        refine ite2 (fun n => ?_) fun n => ?_
        · have n2 : (ws.length == 3) = true := (len 3).symm.trans n
          have n3 : ws.length = 3 := eq_of_beq n2
          rw [n2] at q
          exact ⟨_, rfl, _, rfl, c, _, _, _, rfl, rfl, hc, get_word (i := 1) (by omega), _, rfl, c, _, _, _, rfl, rfl, hc, get_word (i := 2) (by omega), a, ks, cm, _, _, rfl, ha, dk, wk, q⟩
        · have n2 : (ws.length == 3) = false := by
            rw [← len 3]
            simpa using n
          rw [n2] at q
          exact q
      · rw [dec_str] at e2
        rw [if_neg e2] at q
        refine next_go ?_
        dsimp only
        refine seq_go (ifs_go (test_go (op_go ⟨_, rfl, c, _, _, _, rfl, rfl, hc, get_word (i := 0) l0, rfl, _, rfl, ite2 (fun e3 => ?_) fun e3 => ?_⟩)))
        · rw [dec_str] at e3
          rw [if_pos e3] at q
          refine ret_go ⟨_, rfl, c, _, rfl, .inr hc, rfl, _, rfl, ?_⟩
          refine ite2 (fun n => ?_) fun n => ?_
          · have n2 : (ws.length == 2) = true := (len 2).symm.trans n
            have n3 : ws.length = 2 := eq_of_beq n2
            rw [n2] at q
            refine ⟨_, rfl, c, _, _, _, rfl, rfl, hc, get_word (i := 1) (by omega), _, rfl, t, _, rfl, ht, rfl, ?_, ?_⟩
            · rw [List.all_map]
              exact List.all_eq_true.mpr fun _ _ => rfl
            · show Q (.bl (inV (.str (ws.getD 1 "")) (tr.map V.str))) H
              rw [inV_str]
              exact q
          · have n2 : (ws.length == 2) = false := by
              rw [← len 2]
              simpa using n
            rw [n2] at q
            exact q
        · rw [dec_str] at e3
          refine next_go ?_
          dsimp only
          refine ret_go ⟨_, rfl, (by show 1 ≤ sizeLine; decide), fun p hp => ?_⟩
          have s := same_new (o := .tup [V.str ("fail" : Str)]) hp
          have q2 := qq _ s
          unfold cmdOf at q2
          rw [if_neg e, if_neg e2, if_neg e3] at q2
          refine ⟨_, _, .tup (SqT.same hc s) (dpAll_strs ws), .tup (xs := [("fail" : Str)].map V.str) (.inl (.inl upd_same)) (dpAll_strs [("fail" : Str)]), shaped_tup _ wo, shaped_tup _ (by decide +kernel), ?_⟩
          rw [eqv_tups]
          exact q2
end
end Sc

namespace Sc
open PySem L2 PySem.Spec PyProof.Rows Lm
/-! ### refusals: told_once -/
abbrev sTold : Stmt := top 73
theorem scTold : FnScope ["kind", "words", "line", "edition", "word", "name"] ["kind", "words", "line", "edition"] (defScope sTold) := ⟨rfl, rfl, rfl, by decide +kernel, rfl, by decide +kernel, by decide +kernel⟩
/-- rows of new tuples -/
def TA (H : Hp) : List V → List (List V) → Prop
  | [], [] => True
  | r :: rs, x :: xs => (∃ p, r = .ref p ∧ H p = some (.tup x)) ∧ TA H rs xs
  | [], _ :: _ => False
  | _ :: _, [] => False
theorem TA.keep {H H' : Hp} (t : Tups H H') : ∀ {rs : List V} {xs : List (List V)}, TA H rs xs → TA H' rs xs
  | [], [], _ => True.intro
  | _ :: _, _ :: _, ⟨⟨p, e, h⟩, b⟩ => ⟨⟨p, e, t _ _ h⟩, TA.keep t b⟩
  | [], _ :: _, h => h
  | _ :: _, [], h => h
theorem TA.app {H : Hp} : ∀ {rs qs : List V} {xs ys : List (List V)}, TA H rs xs → TA H qs ys → TA H (rs ++ qs) (xs ++ ys)
  | [], _, [], _, _, h => h
  | _ :: _, _, _ :: _, _, ⟨a, b⟩, h => ⟨a, TA.app b h⟩
  | [], _, _ :: _, _, z, _ => z.elim
  | _ :: _, _, [], _, z, _ => z.elim
theorem TA.len {H : Hp} : ∀ {rs : List V} {xs : List (List V)}, TA H rs xs → rs.length = xs.length
  | [], [], _ => rfl
  | _ :: _, _ :: _, ⟨_, b⟩ => by rw [List.length_cons, List.length_cons, TA.len b]
  | [], _ :: _, h => h.elim
  | _ :: _, [], h => h.elim
/-- [(.., word) for word in words]: new tuples -/
theorem mk_go {K : PySem.W.Frag} {te tl : TE} {vs : List Nat} {i : Nat} {σ : L2.St} {H : Hp} {Q : VK} {ws : List Str} (g : Str → List V) (hl : ∀ R : VK, (∀ b H', Same H H' → SqL K H' b (ws.map V.str) → R (.ref b) H') → tl σ H R) (hz : ws.length ≤ 20002)
    (hi : ∀ u, wipe ((wipe σ vs).set i (some u)) vs = wipe σ vs) (hs : ∀ (u : Str) (H' : Hp) (R : VK), (∀ p, H' p = none → R (.ref p) (upd H' p (.tup (g u)))) → te ((wipe σ vs).set i (some (.str u))) H' R)
    (hd : ∀ D rs H', Same H H' → H' D = some (.lst rs) → TA H' rs (ws.map g) → Q (.ref D) H') : tLc (iList K tl) (gName i) tYes te vs σ H Q := by
  refine hl _ fun b H0 s0 hb => ⟨b, rfl, ⟨_, hb⟩, fun D hn => ?_⟩
  refine ⟨fun n m H1 => m = ws.length - n ∧ n ≤ ws.length ∧ Same H0 H1 ∧ ∃ rs, H1 D = some (.lst rs) ∧ TA H1 rs ((ws.take n).map g), ⟨_, rfl, Nat.zero_le _, same_new hn, [], upd_same, True.intro⟩, ?_⟩
  rintro n m H1 ⟨rfl, hle, s1, rs, hD, ta⟩
  have hb1 := SqL.same hb s1
  by_cases h : n < ws.length
  · have hlm : n < (ws.map V.str).length := by
      rw [List.length_map]
      exact h
    refine .inr ⟨⟨_, _, hb1, List.getElem?_eq_getElem hlm⟩, fun H' => Same H0 H' ∧ ∃ rs, H' D = some (.lst rs) ∧ TA H' rs ((ws.take (n + 1)).map g), fun H' ⟨c, d⟩ => ⟨ws.length - (n + 1), by omega, rfl, h, c, d⟩, ?_⟩
    rintro v H' ⟨rfl, hv⟩
    obtain ⟨u, hu, rfl⟩ := map_get (hv _ hb1)
    have et : ws.take (n + 1) = ws.take n ++ [u] := by
      rw [List.take_succ_eq_append_getElem h, (List.getElem?_eq_some_iff.mp hu).2]
    refine ⟨hi _, hs u H' _ fun p hp => ?_⟩
    have s2 := same_new (o := .tup (g u)) hp
    have tl := ta.len
    rw [List.length_map, List.length_take] at tl
    have ntD : ∀ xs, HO.lst rs ≠ .tup xs := fun xs z => by cases z
    have tp := tups_upd (o := .lst (rs ++ [.ref p])) (s2 _ _ hD) ntD
    refine ⟨rs, s2 _ _ hD, by rw [sizeLine_eq]; omega, same_fill hn (s1.trans s2), rs ++ [.ref p], upd_same, ?_⟩
    rw [et, List.map_append]
    exact ((ta.keep s2.tups).keep tp).app ⟨⟨p, rfl, tp _ _ upd_same⟩, True.intro⟩
  · obtain rfl : n = ws.length := by omega
    refine .inl ⟨⟨_, hb1, by rw [List.length_map]; exact Nat.le_refl _⟩, hd D rs H1 (s0.trans s1) hD ?_⟩
    rw [List.take_length] at ta
    exact ta
/-- what a line tells that may be told once -/
def told (kind : Str) (ws : List Str) (line edition : Nat) : List (Str × Int × Str) :=
  if [("needs" : Str), "lays"].contains kind = true then [(kind, edition, ws.getD 1 "")]
  else if (kind == ("program" : Str)) = true then [(kind, edition, Txt.join " " ws)]
  else if (kind == ("cell" : Str)) = true then (kind, -1, ws.getD 1 "") :: (cutW ws (some 2) none).map fun w => (("word" : Str), (line : Int), w)
  else if (kind == ("set" : Str)) = true then (kind, -1, ws.getD 1 "") :: (stepW ws (some 2) none (some 2)).map fun w => (("member" : Str), (line : Int), w)
  else if [("package" : Str), "at"].contains kind = true then [(kind, -1, ws.getD 1 "")]
  else []
def tripV (t : Str × Int × Str) : List V := [.str t.1, .int t.2.1, .str t.2.2]
end Sc

namespace Sc
open PySem L2 PySem.Spec PyProof.Rows Lm
def kinds : List Str := ["needs", "lays", "program", "cell", "set", "package", "at"]
def spTold (K : PySem.W.Frag) : Sp := fun vs H Q _ => ∃ (W : Addr) (kind : Str) (ws : List Str) (line edition : Nat), vs = [.str kind, .ref W, .int (line : Nat), .int (edition : Nat)] ∧
  (kinds.contains kind = true → Words K H W ws ∧ (kind ≠ "program" → 1 < ws.length) ∧ (kind = "program" → (ws.map (·.length)).sum + ws.length * (" " : Str).length ≤ 16777216)) ∧
  ∀ D rs H', Same H H' → H' D = some (.lst rs) → TA H' rs ((told kind ws line edition).map tripV) → Q (.ref D) H'
/-- [(x, y, z)] -/
theorem one_go {t3 : L2.TA} {σ : L2.St} {H : Hp} {Q : VK} {xs : List V} (h3 : ∀ R : List V → Hp → Prop, R xs H → t3 σ H R) (hz : xs.length ≤ 10) (q : ∀ D rs H', Same H H' → H D = none → H' D = some (.lst rs) → TA H' rs [xs] → Q (.ref D) H') : tLst (tCons (tTup t3) tNil) σ H Q := by
  refine h3 _ ⟨by rw [sizeLine_eq]; omega, fun p hp => ⟨by show 1 ≤ sizeLine; decide, fun D hD => ?_⟩⟩
  have s1 := same_new (o := .tup xs) hp
  have s2 := same_new (o := .lst [V.ref p]) hD
  refine q D [.ref p] _ (s1.trans s2) (NdefX.upd_none hD) upd_same ⟨⟨p, rfl, s2 _ _ upd_same⟩, True.intro⟩
/-- kind in (a, b) -/
theorem kind_go {K : PySem.W.Frag} {σ : L2.St} {H : Hp} {R : Bool → Hp → Prop} {kind : Str} (a b : Str) (h0 : σ[0]? = some (some (.str kind))) (q : ∀ H', Same H H' → R ([a, b].contains kind) H') : tTest (tOp (rIn K false) (tVar 0) (tTup (tCons (tC (.str a)) (tCons (tC (.str b)) tNil)))) σ H R := by
  refine test_go (op_go ⟨_, h0, (by show 2 ≤ sizeLine; decide), fun p hp => ?_⟩)
  refine ⟨p, [a, b].map V.str, rfl, .inr (.inl (.inl upd_same)), rfl, rfl, _, rfl, ?_⟩
  show R (inV (.str kind) ([a, b].map V.str)) _
  rw [inV_str]
  exact q _ (same_new hp)
section
variable {P : Program} {w : World} {K : PySem.W.Frag} {mg : Str → Option Value} {base : Heap}
theorem ok_told {f : Addr} {fd : FuncData} (G : Fun K "told_once" "told_once" sTold f fd) : FnOk P w K mg base CX0 1 f fd ["kind", "words", "line", "edition"] (spTold K) := by
  refine G.ok scTold (fun vs H Q E h => ?_) (fun cdv A outer s H vs Q E hr h => ?_)
  · obtain ⟨W, kind, ws, line, edition, rfl, _⟩ := h
    rfl
  · obtain ⟨W, kind, ws, line, edition, rfl, hw, q⟩ := h
    refine ⟨_, pss_cons (ps_if (pt_cmpR op_in_seq (pv 0) (pe_tup (pa_cons pe_str (pa_cons pe_str pa_nil))) (by rfl)) (pss_one (ps_ret (pe_lst (pa_cons (pe_tup (pa_cons (pv 0) (pa_cons (pv 3) (pa_cons (pe_ix ix_list (pv 1) pe_int (fun _ _ => rfl)) pa_nil)))) pa_nil)))) pss_nil)
      (pss_cons (ps_if (pt_cmpR op_eq (pv 0) pe_str (nomark _)) (pss_one (ps_ret (pe_lst (pa_cons (pe_tup (pa_cons (pv 0) (pa_cons (pv 3) (pa_cons (pe_join pe_str (pv 1)) pa_nil)))) pa_nil)))) pss_nil)
      (pss_cons (ps_if (pt_cmpR op_eq (pv 0) pe_str (nomark _)) (pss_one (ps_ret (pe_op op_cat (pe_lst (pa_cons (pe_tup (pa_cons (pv 0) (pa_cons (pe_un un_neg pe_int) (pa_cons (pe_ix ix_list (pv 1) pe_int (fun _ _ => rfl)) pa_nil)))) pa_nil))
        (pe_lc (own := [("word", 4)]) (g := gName 4) (tt := tYes) rfl scTold.nd (pi_list (pe_slice sl_list (pv 1) (po_some pe_int) po_none)) (blkOk_by (own := [("word", 4)]) (N := ["kind", "words", "line", "edition", "word", "name"]) (sc := defScope sTold) (by decide +kernel))
          (fun _ _ _ _ _ => pg_name (i := 4) scTold.nd rfl (Or.inl rfl)) (fun _ _ _ _ _ => pts_nil) (fun _ _ _ _ _ => pe_tup (pa_cons pe_str (pa_cons (pv 2) (pa_cons (pv 4) pa_nil)))))))) pss_nil)
      (pss_cons (ps_if (pt_cmpR op_eq (pv 0) pe_str (nomark _)) (pss_one (ps_ret (pe_op op_cat (pe_lst (pa_cons (pe_tup (pa_cons (pv 0) (pa_cons (pe_un un_neg pe_int) (pa_cons (pe_ix ix_list (pv 1) pe_int (fun _ _ => rfl)) pa_nil)))) pa_nil))
        (pe_lc (own := [("name", 5)]) (g := gName 5) (tt := tYes) rfl scTold.nd (pi_list (pe_step (pv 1) (po_some pe_int) po_none (po_some pe_int))) (blkOk_by (own := [("name", 5)]) (N := ["kind", "words", "line", "edition", "word", "name"]) (sc := defScope sTold) (by decide +kernel))
          (fun _ _ _ _ _ => pg_name (i := 5) scTold.nd rfl (Or.inl rfl)) (fun _ _ _ _ _ => pts_nil) (fun _ _ _ _ _ => pe_tup (pa_cons pe_str (pa_cons (pv 2) (pa_cons (pv 5) pa_nil)))))))) pss_nil)
      (pss_cons (ps_if (pt_cmpR op_in_seq (pv 0) (pe_tup (pa_cons pe_str (pa_cons pe_str pa_nil))) (by rfl)) (pss_one (ps_ret (pe_lst (pa_cons (pe_tup (pa_cons (pv 0) (pa_cons (pe_un un_neg pe_int) (pa_cons (pe_ix ix_list (pv 1) pe_int (fun _ _ => rfl)) pa_nil)))) pa_nil)))) pss_nil)
      (pss_one (ps_ret (pe_lst pa_nil))))))), ?_⟩
    have nxt : ∀ {H1 : Hp}, Same H H1 → kinds.contains kind = true → Words K H1 W ws := fun s c => (hw c).1.same s
    unfold told at q
    refine seq_go (ifs_go (kind_go "needs" "lays" rfl fun H1 s1 => ite2 (fun c => ?_) fun c => ?_))
    · rw [if_pos c] at q
      have kc : kinds.contains kind = true := by
        simp [kinds] at c ⊢
        rcases c with rfl | rfl <;> simp
      have kp : kind ≠ "program" := fun z => by
        rw [z] at c
        exact absurd c (by decide +kernel)
      have w1 := nxt s1 kc
      refine ret_go (one_go (fun R k => ⟨_, rfl, _, rfl, _, rfl, W, _, _, _, rfl, rfl, w1.1, get_word (i := 1) ((hw kc).2.1 kp), k⟩) (by show 3 ≤ 10; decide) fun D rs H' s _ e t => q D rs H' (s1.trans s) e t)
    rw [if_neg c] at q
    refine next_go ?_
    dsimp only
    refine seq_go (ifs_go (test_go (op_go ⟨_, rfl, rfl, _, rfl, ite2 (fun c2 => ?_) fun c2 => ?_⟩)))
    · rw [dec_str] at c2
      rw [if_pos c2] at q
      have ke : kind = "program" := eq_of_beq c2
      have kc : kinds.contains kind = true := by
        rw [ke]
        decide +kernel
      have w1 := nxt s1 kc
      refine ret_go (one_go (fun R k => ⟨_, rfl, _, rfl, ⟨_, rfl⟩, _, rfl, _, W, ws, rfl, rfl, .inl w1.1, (hw kc).2.2 ke, k⟩) (by show 3 ≤ 10; decide) fun D rs H' s _ e t => q D rs H' (s1.trans s) e t)
    rw [dec_str] at c2
    rw [if_neg c2] at q
    have kp : kind ≠ "program" := fun z => c2 (by rw [z]; decide +kernel)
    refine next_go ?_
    dsimp only
    refine seq_go (ifs_go (test_go (op_go ⟨_, rfl, rfl, _, rfl, ite2 (fun c3 => ?_) fun c3 => ?_⟩)))
    · rw [dec_str] at c3
      rw [if_pos c3] at q
      have kc : kinds.contains kind = true := by
        rw [eq_of_beq c3]
        decide +kernel
      have w1 := nxt s1 kc
      refine ret_go (op_go (one_go (xs := [.str kind, .int (-1), .str (ws.getD 1 "")]) (fun R k => ⟨_, rfl, _, rfl, _, rfl, W, _, _, _, rfl, rfl, w1.1, get_word (i := 1) ((hw kc).2.1 kp), k⟩) (by show 3 ≤ 10; decide) fun D rs H2 s2 nD e2 t2 => ?_))
      have w2 := w1.same s2
      refine mk_go (ws := cutW ws (some 2) none) (fun u => [V.str "word", .int (line : Nat), .str u]) (fun R k => ⟨_, rfl, _, rfl, W, _, rfl, w2.1, fun b hb => k b _ (same_new hb) (w2.cut hb (some 2) none).1⟩) (Nat.le_trans (cutW_sub ws (some 2) none).1 w2.2.1) (fun u => rfl)
        (fun u H' R k => ⟨_, rfl, _, rfl, (by show 3 ≤ sizeLine; decide), k⟩) fun D2 rs2 H3 s3 e3 t3 => ?_
      refine ⟨D, D2, rs, rs2, rfl, rfl, s3 _ _ e2, e3, ?_, fun p hp => ?_⟩
      · have l1 := t2.len
        have l2 := t3.len
        rw [List.length_map] at l2
        have := (cutW_sub ws (some 2) none).1
        have := w2.2.1
        rw [sizeLine_eq]
        simp at l1
        omega
      have s4 := same_new (o := .lst (rs ++ rs2)) hp
      refine q p _ _ (((s1.trans s2).trans s3).trans s4) upd_same ?_
      have ta := ((t2.keep s3.tups).app t3).keep s4.tups
      rw [List.map_cons, List.map_map]
      exact ta
    rw [dec_str] at c3
    rw [if_neg c3] at q
    refine next_go ?_
    dsimp only
    refine seq_go (ifs_go (test_go (op_go ⟨_, rfl, rfl, _, rfl, ite2 (fun c4 => ?_) fun c4 => ?_⟩)))
    · rw [dec_str] at c4
      rw [if_pos c4] at q
      have kc : kinds.contains kind = true := by
        rw [eq_of_beq c4]
        decide +kernel
      have w1 := nxt s1 kc
      refine ret_go (op_go (one_go (xs := [.str kind, .int (-1), .str (ws.getD 1 "")]) (fun R k => ⟨_, rfl, _, rfl, _, rfl, W, _, _, _, rfl, rfl, w1.1, get_word (i := 1) ((hw kc).2.1 kp), k⟩) (by show 3 ≤ 10; decide) fun D rs H2 s2 nD e2 t2 => ?_))
      have w2 := w1.same s2
      refine mk_go (ws := stepW ws (some 2) none (some 2)) (fun u => [V.str "member", .int (line : Nat), .str u]) (fun R k => step_go (k := 2) rfl w2 fun b H' s w0 _ => k b H' s w0.1) (Nat.le_trans (stepW_sub ws 2).1 w2.2.1) (fun u => rfl)
        (fun u H' R k => ⟨_, rfl, _, rfl, (by show 3 ≤ sizeLine; decide), k⟩) fun D2 rs2 H3 s3 e3 t3 => ?_
      refine ⟨D, D2, rs, rs2, rfl, rfl, s3 _ _ e2, e3, ?_, fun p hp => ?_⟩
      · have l1 := t2.len
        have l2 := t3.len
        rw [List.length_map] at l2
        have : (stepW ws (some 2) none (some 2)).length ≤ ws.length := (stepW_sub ws 2).1
        have := w2.2.1
        rw [sizeLine_eq]
        simp at l1
        omega
      have s4 := same_new (o := .lst (rs ++ rs2)) hp
      refine q p _ _ (((s1.trans s2).trans s3).trans s4) upd_same ?_
      have ta := ((t2.keep s3.tups).app t3).keep s4.tups
      rw [List.map_cons, List.map_map]
      exact ta
    rw [dec_str] at c4
    rw [if_neg c4] at q
    refine next_go ?_
    dsimp only
    refine seq_go (ifs_go (kind_go "package" "at" rfl fun H2 s2 => ite2 (fun c5 => ?_) fun c5 => ?_))
    · rw [if_pos c5] at q
      have kc : kinds.contains kind = true := by
        simp [kinds] at c5 ⊢
        rcases c5 with rfl | rfl <;> simp
      have w1 := nxt (s1.trans s2) kc
      refine ret_go (one_go (fun R k => ⟨_, rfl, _, rfl, _, rfl, W, _, _, _, rfl, rfl, w1.1, get_word (i := 1) ((hw kc).2.1 kp), k⟩) (by show 3 ≤ 10; decide) fun D rs H' s _ e t => q D rs H' ((s1.trans s2).trans s) e t)
    rw [if_neg c5] at q
    refine next_go ?_
    dsimp only
    refine ret_go ⟨by decide, fun p hp => ?_⟩
    exact q p [] _ ((s1.trans s2).trans (same_new hp)) upd_same True.intro
end
end Sc

namespace Sc
open PySem L2 PySem.Spec PyProof.Rows Lm
/-! ### refusals: words_multiplied -/
abbrev sMul : Stmt := top 79
theorem scMul : FnScope ["cells", "number", "cell"] ["cells"] (defScope sMul) := ⟨rfl, rfl, rfl, by decide +kernel, rfl, by decide +kernel, by decide +kernel⟩
def mulOf (cm qs : List (Str × List Str)) : Nat := qs.foldl (fun acc q => acc * ((look cm q.1).getD []).length) 1
theorem mulOf_snoc (cm qs : List (Str × List Str)) (q : Str × List Str) : mulOf cm (qs ++ [q]) = mulOf cm qs * ((look cm q.1).getD []).length := by
  unfold mulOf
  rw [List.foldl_append]
  rfl
def spMul : Sp := fun vs H Q _ => ∃ (a : Addr) (ks : List (Key × V)) (cm : List (Str × List Str)), vs = [.ref a] ∧ H a = some (.dK ks) ∧ DictAt (WordsTup H) ks cm ∧ (∀ n, mulOf cm (cm.take n) < 2 ^ 60) ∧ Q (.int (mulOf cm cm : Nat)) H
theorem dict_at {β : Type} {Rl : V → β → Prop} : ∀ {rs : List (Key × V)} {qs : List (Str × β)} {i : Nat} {k : Key} {v : V}, DictAt Rl rs qs → rs[i]? = some (k, v) → ∃ q, qs[i]? = some q ∧ k = .inr q.1
  | [], [], i, k, v, _, h => by simp at h
  | r :: rs, q :: qs, 0, k, v, ⟨⟨e, _⟩, _⟩, h => by
    simp at h
    exact ⟨q, rfl, by rw [← e, h]⟩
  | _ :: rs, _ :: qs, i + 1, k, v, ⟨_, b⟩, h => by
    have h2 : rs[i]? = some (k, v) := by simpa using h
    obtain ⟨q, hq, e⟩ := dict_at b h2
    exact ⟨q, by simpa using hq, e⟩
  | [], _ :: _, _, _, _, z, _ => z.elim
  | _ :: _, [], _, _, _, z, _ => z.elim
theorem look_there {β : Type} {qs : List (Str × β)} {q : Str × β} (h : q ∈ qs) : ∃ b, look qs q.1 = some b := by
  cases e : look qs q.1 with
  | some b => exact ⟨b, rfl⟩
  | none =>
    exfalso
    unfold look at e
    rw [Option.map_eq_none_iff, List.find?_eq_none] at e
    exact e q h (decide_eq_true rfl)
section
variable {P : Program} {w : World} {K : PySem.W.Frag} {mg : Str → Option Value} {base : Heap}
theorem ok_mul {f : Addr} {fd : FuncData} (G : Fun K "words_multiplied" "words_multiplied" sMul f fd) (T : NatR mg) : FnOk P w K mg base CX0 1 f fd ["cells"] spMul := by
  refine G.ok scMul (fun vs H Q E h => ?_) (fun cdv A outer s H vs Q E hr h => ?_)
  · obtain ⟨a, ks, cm, rfl, _⟩ := h
    rfl
  · obtain ⟨a, ks, cm, rfl, ha, dk, hb, q⟩ := h
    refine ⟨_, pss_cons (ps_set (i := 1) scMul.nd rfl (Or.inl rfl) pe_int)
      (pss_cons (ps_lock (ps_for PassesOwn.never rfl (pi_keys (pv 0)) (pg_name (i := 2) scMul.nd rfl (Or.inl rfl))
        (pss_one (ps_set (i := 1) scMul.nd rfl (Or.inl rfl) (pe_op op_mul (pv 1) (pe_callB call_len_seq (by rfl) T.len PySem.boot_len (pa_cons (pe_dget (u1 hr.units) (pv 0) (pv 2) (fun _ _ => rfl)) pa_nil)))))))
      (pss_one (ps_ret (pv 1)))), ?_⟩
    refine seq_go ?_
    show tSeq _ _ _ [some (.ref a), some (.int (1 : Nat)), none] H
    refine seq_go ⟨a, .dK ks, ha, True.intro, fun od => ?_⟩
    have back : ∀ o : HO, upd (upd H a o) a (.dK ks) = H := fun o => by
      rw [upd_upd]
      funext b
      by_cases hb : b = a
      · rw [hb, upd_same, ha]
      · rw [upd_ne hb]
    have hlen := dk.len
    refine ⟨_, rfl, a, od, rfl, .inl ⟨ks, upd_same, ?_⟩⟩
    refine ⟨fun i m σ H1 => m = ks.length - i ∧ i ≤ ks.length ∧ H1 = upd H a (.frz od (.dK ks)) ∧ ∃ y, σ = [some (.ref a), some (.int (mulOf cm (cm.take i) : Nat)), y], ⟨_, rfl, Nat.zero_le _, rfl, none, rfl⟩, ?_⟩
    rintro i m σ H1 ⟨rfl, hi, rfl, y, rfl⟩
    by_cases hlt : i < ks.length
    · refine .inr ⟨⟨upd_same, hlt⟩, fun σ' H' => (∃ y, σ' = [some (.ref a), some (.int (mulOf cm (cm.take (i + 1)) : Nat)), y]) ∧ H' = upd H a (.frz od (.dK ks)), fun σ' H' ⟨⟨y', e1⟩, e2⟩ => ⟨ks.length - (i + 1), by omega, rfl, hlt, e2, y', e1⟩, ?_⟩
      rintro v H' ⟨rfl, k, vv, hk, rfl⟩
      obtain ⟨qq, hq, rfl⟩ := dict_at dk hk
      obtain ⟨ws, hws⟩ := look_there (List.mem_of_getElem? hq)
      obtain ⟨vw, hv, p, rfl, hp⟩ := (dict_look (k := qq.1) dk).2 ws hws
      have et : cm.take (i + 1) = cm.take i ++ [qq] := by
        obtain ⟨h1, h2⟩ := List.getElem?_eq_some_iff.mp hq
        rw [List.take_succ_eq_append_getElem h1, h2]
      have nap : p ≠ a := ne_of hp ha fun z => by cases z
      have hb1 := hb i
      dsimp only
      refine ⟨_, rfl, _, rfl, _, rfl, a, _, rfl, .inl ⟨ks, .inr qq.1, .inr ⟨od, upd_same⟩, rfl, hv.symm⟩, p, _, rfl, .inr (.inl (.inl ((upd_ne nap).trans hp))), _, _, rfl, rfl, .inl ⟨by omega, by omega⟩, ⟨some (.str qq.1), ?_⟩, rfl⟩
      rw [et, mulOf_snoc, hws]
      have e : ((mulOf cm (cm.take i) : Nat) : Int) * ((ws.map V.str).length : Nat) = ((mulOf cm (cm.take i) * ((some ws).getD []).length : Nat) : Int) := by
        rw [List.length_map, Int.natCast_mul]
        rfl
      rw [← e]
      rfl
    · obtain rfl : i = ks.length := by omega
      refine .inl ⟨⟨upd_same, Nat.le_refl _⟩, upd_same, ?_⟩
      rw [back]
      rw [hlen, List.take_length]
      exact ⟨_, rfl, q⟩
end
end Sc

namespace Ts
open PySem L2 PySem.Spec PyProof.Rows
/-! ### sets of tuples of keys of any kind (membership and adding; fewer than 64) -/
/-- whether the hash of a value that is no object is made of the value alone -/
def valH : Value → Bool
  | .none | .bool _ | .int .. => true
  | .float bits _ => (Float64.hash? bits).isSome
  | _ => false
theorem class_val {v : Value} (c : carriedByValue v = true) (n : Nat) : ofAClassStatement n v = pure false := by
  cases v <;> first | (cases n <;> rfl) | exact absurd c Bool.false_ne_true
theorem hash_val {v : Value} (c : carriedByValue v = true) (n : Nat) : hashByValue n v = pure (valH v) := by
  cases v <;> first | (cases n <;> rfl) | exact absurd c Bool.false_ne_true
section
variable {P : Program} {w : World} {K : Type} [DecidableEq K] {knd : KeyKind P w K} {A : Around} {E : Value → Shared → Prop} {s : Shared}
theorem class_tup {k : List K} {b : Addr} {Q : Bool → Shared → Prop} (hk : IsTupleKey knd s.heap k b) (h : Q false s) : wpAny (model P w) A (ofAClassStatement 8 (.ref b)) Q E s := by
  have ty := hk.typeIs
  obtain ⟨o, its, n, ho, _, hd, hi⟩ := hk
  unfold ofAClassStatement
  refine wpAny_bind (wpAny_typeOf ty ?_)
  have e : (("tuple" : String) == "tuple") = true := by decide
  simp only [e, if_true, Bool.not_true, Bool.false_eq_true, if_false]
  try refine wpAny_bind (wpAny_pure ?_)
  try simp only [Bool.not_true, Bool.false_eq_true, if_false]
  refine wpAny_bind (wpAny_seqItems ho hd ?_)
  dsimp only
  refine wpAny_bind ?_
  rw [← Array.forIn_toList]
  refine wpAny_forIn_list _ (fun rest r s' => (r.1 = none ∧ s' = s) ∧ ∀ v ∈ rest, carriedByValue v = true) _ (fun v rest r s' ⟨⟨hr, es⟩, all⟩ => ?_) (fun r s' ⟨⟨hr, es⟩, _⟩ => ?_) _ _ ⟨⟨rfl, rfl⟩, hi.byValue⟩
  · subst es
    rw [class_val (all v List.mem_cons_self)]
    refine wpAny_bind (wpAny_pure ?_)
    exact wp_if_neg (by decide) (wpAny_pure ⟨⟨rfl, rfl⟩, fun u hu => all u (List.mem_cons_of_mem _ hu)⟩)
  · obtain ⟨r1, r2⟩ := r
    subst es
    have hr : r1 = none := hr
    subst hr
    exact wpAny_pure h
theorem hash_tup {k : List K} {b : Addr} {Q : Bool → Shared → Prop} (hk : IsTupleKey knd s.heap k b) (h : ∀ c, Q c s) : wpAny (model P w) A (hashByValue 8 (.ref b)) Q E s := by
  have ty := hk.typeIs
  obtain ⟨o, its, n, ho, _, hd, hi⟩ := hk
  unfold hashByValue
  refine wpAny_bind (wpAny_specialOf ty F.slot_tuple_hash.lookup ?_)
  show wpAny _ _ (seqItems? (.ref b) >>= _) _ _ s
  refine wpAny_bind (wpAny_seqItems ho hd ?_)
  refine wpAny_bind ?_
  show wpAny _ _ (forIn its _ _) _ _ s
  rw [← Array.forIn_toList]
  refine wpAny_forIn_list _ (fun rest r s' => s' = s ∧ ∀ v ∈ rest, carriedByValue v = true) _ (fun v rest r s' ⟨es, all⟩ => ?_) (fun r s' ⟨es, _⟩ => ?_) _ _ ⟨rfl, hi.byValue⟩
  · subst es
    rw [hash_val (all v List.mem_cons_self)]
    refine wpAny_bind (wpAny_pure ?_)
    cases valH v
    · refine wp_if_pos (by decide) (wpAny_pure ?_)
      exact wpAny_pure (h _)
    · exact wp_if_neg (by decide) (wpAny_pure ⟨rfl, fun u hu => all u (List.mem_cons_of_mem _ hu)⟩)
  · obtain ⟨r1, r2⟩ := r
    subst es
    cases r1 <;> exact wpAny_pure (h _)
/-- a look among tuples shows nothing of its way -/
theorem unseen {k : List K} {b : Addr} {Q : Bool → Shared → Prop} (hk : IsTupleKey knd s.heap k b) {ys : List Value} (hy : ∀ y ∈ ys, ∃ m c, y = Value.ref c ∧ IsTupleKey knd s.heap m c) (h : Q false s) : wpAny (model P w) A (searchCouldBeSeen (.ref b) ys) Q E s := by
  unfold searchCouldBeSeen
  refine wpAny_bind (wpAny_forIn_list _ (fun rest r s' => (r.1 = none ∧ s' = s) ∧ ∀ y ∈ rest, ∃ m c, y = Value.ref c ∧ IsTupleKey knd s.heap m c) _ (fun v rest r s' ⟨⟨hr, es⟩, all⟩ => ?_) (fun r s' ⟨⟨hr, es⟩, _⟩ => ?_) _ _ ⟨⟨rfl, rfl⟩, hy⟩)
  · subst es
    obtain ⟨m, c, rfl, hc⟩ := all v List.mem_cons_self
    have next := fun u hu => all u (List.mem_cons_of_mem _ hu)
    dsimp only
    by_cases hv : (b == c || (carriedByValue (.ref b) && carriedByValue (.ref c))) = true
    · exact wp_if_pos hv (wpAny_pure ⟨⟨rfl, rfl⟩, next⟩)
    · refine wp_if_neg hv (wpAny_bind (wpAny_eqIsQuiet_tuple hk (wp_if_neg (by decide) (wpAny_bind (wpAny_eqIsQuiet_tuple hc (wp_if_neg (by decide) ?_))))))
      exact wpAny_bind (class_tup hk (wp_if_neg (by decide) (wpAny_bind (class_tup hc (wp_if_neg (by decide) (wpAny_pure ⟨⟨rfl, rfl⟩, next⟩))))))
  · obtain ⟨r1, r2⟩ := r
    subst es
    have hr : r1 = none := hr
    subst hr
    exact wpAny_pure h
end
end Ts

namespace Ts
open PySem L2 PySem.Spec PyProof.Rows
/-- where the way of a hash begins -/
abbrev first (t : SetTable) (h : Int) : SetTable.Probe := runAt t.mask (SetTable.bits h % (t.mask + 1)) (SetTable.bits h)
theorem nth_dummy (m : Nat) : ∀ (n : Nat) (p : SetTable.Probe), p.dummy = none → (nth m p n).dummy = none
  | 0, _, h => h
  | n + 1, p, h => nth_dummy m n (adv m p) (by
      unfold adv
      split <;> exact h)
/-- what is met from the c-th step of the way on -/
theorem probe_at {t : SetTable} {hs : List Int} (T : TabOk t hs) {h : Int} (f : Nat → Int) {k c : Nat} (hk : k < 10 * SetTable.turns t.mask) (hc : c ≤ k) (free : way t.mask h k ∉ t.place.toList) (full : ∀ d, d < k → way t.mask h d ∈ t.place.toList) :
    (∃ d i, c ≤ d ∧ d < k ∧ t.place.toList[i]? = some (way t.mask h d) ∧ f i = h ∧ (∀ d' i', c ≤ d' → d' < d → t.place.toList[i']? = some (way t.mask h d') → f i' ≠ h) ∧ t.probe f h (nth t.mask (first t h) c) = some (.candidate (way t.mask h d) i (nth t.mask (first t h) (d + 1)))) ∨
    ((∀ d' i', c ≤ d' → d' < k → t.place.toList[i']? = some (way t.mask h d') → f i' ≠ h) ∧ t.probe f h (nth t.mask (first t h) c) = some (.empty (way t.mask h k) none)) := by
  have on : ∀ q, nth t.mask (nth t.mask (first t h) c) q = nth t.mask (first t h) (c + q) := fun q => (nth_add t.mask c _ q).symm
  have onj : ∀ q, (nth t.mask (nth t.mask (first t h) c) q).j = way t.mask h (c + q) := fun q => by rw [on]
  have z := go_spec t T.ris T.dm f h (10 * SetTable.turns t.mask) (k - c) (nth t.mask (first t h) c) (nth_dummy _ c _ rfl) (by omega) (fun q hq => by rw [onj]; exact full _ (by omega)) (by rw [onj, Nat.add_sub_of_le hc]; exact free)
  rcases z with ⟨q, i, hq, hi, hf, no, e⟩ | ⟨no, e⟩
  · refine .inl ⟨c + q, i, by omega, by omega, by rw [← onj]; exact hi, hf, fun d' i' h1 h2 h3 => no (d' - c) i' (by omega) (by rw [onj, Nat.add_sub_of_le h1]; exact h3), ?_⟩
    rw [onj, on] at e
    exact e
  · refine .inr ⟨fun d' i' h1 h2 h3 => no (d' - c) i' (by omega) (by rw [onj, Nat.add_sub_of_le h1]; exact h3), ?_⟩
    rw [onj, Nat.add_sub_of_le hc] at e
    exact e
section
variable {P : Program} {w : World} {K : Type} [DecidableEq K] {knd : KeyKind P w K} {A : Around} {E : Value → Shared → Prop} {s : Shared}
/-- a set of the tuples of L, in the sequence of its places -/
structure Tab (knd : KeyKind P w K) (h : Heap) (a : Addr) (L : List (Addr × List K)) (es : Array (Int × Value)) (ep : Nat) (t : SetTable) : Prop where
  ob : ∃ o, h.get? a = some o ∧ o.ExactSet ∧ o.data = .set es ep t
  rows : es.toList = L.map fun p => (tupleKeyHash knd p.2, Value.ref p.1)
  tab : TabOk t (L.map fun p => tupleKeyHash knd p.2)
  nd : (L.map (·.2)).Nodup
  tup : ∀ p ∈ L, IsTupleKey knd h p.2 p.1
  room : L.length * 5 < t.mask * 3
  few : L.length < 64
variable {a : Addr} {L : List (Addr × List K)} {es : Array (Int × Value)} {ep : Nat} {t : SetTable}
theorem Tab.size {h : Heap} (R : Tab knd h a L es ep t) : es.size = L.length := by
  rw [← Array.length_toList, R.rows, List.length_map]
theorem fits_of (d : t.dummies = #[]) (e : t.place.size = es.size) (l : es.size ≤ t.mask) : t.fits es.size = true := by
  unfold SetTable.fits SetTable.fill
  rw [d, Bool.and_eq_true, beq_iff_eq, decide_eq_true_eq]
  exact ⟨e, by rw [e]; exact l⟩
theorem Tab.fits {h : Heap} (R : Tab knd h a L es ep t) : t.fits es.size = true := by
  have h1 := R.tab.sz
  have h2 := R.size
  have h3 := R.room
  rw [List.length_map] at h1
  exact fits_of R.tab.dm (by omega) (by omega)
theorem Tab.entry {h : Heap} (R : Tab knd h a L es ep t) {i : Nat} {p : Addr × List K} (e : L[i]? = some p) : es[i]? = some (tupleKeyHash knd p.2, Value.ref p.1) := by
  rw [← Array.getElem?_toList, R.rows, List.getElem?_map, e]
  rfl
theorem odd_stays {m : Nat} (h : MaskOk m) : ¬ (m % 2 == 0) = true := by
  rw [mask_odd h]
  decide
/-- the look, from the c-th step of the way on -/
theorem look_from (R : Tab knd s.heap a L es ep t) {x : Addr} {k : List K} (hx : IsTupleKey knd s.heap k x) (hu : A.units < cLine) {z : Nat} (hz : z < 10 * SetTable.turns t.mask) (free : way t.mask (tupleKeyHash knd k) z ∉ t.place.toList)
    (full : ∀ d, d < z → way t.mask (tupleKeyHash knd k) d ∈ t.place.toList) {adding : Bool} {Q : SetFound → Shared → Prop} (hin : k ∈ L.map (·.2) → ∀ r : Option Nat, (adding = false → r.isSome = true) → Q (.there r) s) (hout : k ∉ L.map (·.2) → Q (.free (way t.mask (tupleKeyHash knd k) z) false) s) :
    ∀ (f c : Nat) (st : Option SetTable.Probe), st.getD (t.probeStart (tupleKeyHash knd k)) = nth t.mask (first t (tupleKeyHash knd k)) c → c ≤ z → z - c < f →
      (∀ (i : Nat) p, L[i]? = some p → p.2 = k → ∃ d, c ≤ d ∧ d < z ∧ t.place.toList[i]? = some (way t.mask (tupleKeyHash knd k) d)) → wpAny (model P w) A (setSearchFrom a (.ref x) (tupleKeyHash knd k) adding f st) Q E s := by
  intro f
  induction f with
  | zero =>
    intro c st _ _ h
    exact absurd h (Nat.not_lt_zero _)
  | succ f ih =>
    intro c st hst hc hf later
    obtain ⟨o, ho, hex, hd⟩ := R.ob
    rw [setSearchFrom_succ]
    refine wpAny_bind (wpAny_setState_of ho hd R.fits ?_)
    dsimp only
    refine wp_if_neg (odd_stays R.tab.mok) ?_
    try refine wpAny_bind (wpAny_pure ?_)
    rw [hst]
    have hash : ∀ (i : Nat) p, L[i]? = some p → (es[i]?.map (·.1)).getD 0 = tupleKeyHash knd p.2 := fun i p e => by
      rw [R.entry e]
      rfl
    rcases probe_at R.tab (fun i => (es[i]?.map (·.1)).getD 0) hz hc free full with ⟨d, i, d1, d2, hi, hh, no, e⟩ | ⟨no, e⟩
    · rw [e]
      dsimp only
      have il : i < L.length := by
        have h1 := (List.getElem?_eq_some_iff.mp hi).1
        have h2 := R.tab.sz
        rw [List.length_map] at h2
        rw [Array.length_toList] at h1
        omega
      have hp : L[i]? = some L[i] := List.getElem?_eq_getElem il
      generalize L[i] = p at hp
      have mem := List.mem_of_getElem? hp
      have live : t.slot (way t.mask (tupleKeyHash knd k) d) = .live i := slot_live R.tab.ris hi
      have rest : wpAny (model P w) A (searchRest a (.ref x) (tupleKeyHash knd k) adding f es t (way t.mask (tupleKeyHash knd k) d) i (nth t.mask (first t (tupleKeyHash knd k)) (d + 1))) Q E s := by
        unfold searchRest
        rw [R.entry hp]
        dsimp only
        refine wpAny_bind (wpAny_holding (wpAny_eqBool_tuple hu (R.tup p mem) hx ?_))
        refine wpAny_bind (wpAny_setState_of ho hd R.fits ?_)
        dsimp only
        by_cases same : p.2 = k
        · have there := hin (List.mem_map.mpr ⟨p, mem, same⟩)
          cases adding with
          | true =>
            refine wp_if_pos (by simp [same]) ?_
            exact wpAny_pure (there none fun z => nomatch z)
          | false =>
            refine wp_if_neg (by simp) ?_
            try refine wpAny_bind (wpAny_pure ?_)
            rw [sameMem]
            dsimp only
            simp only [if_true, live, R.entry hp]
            refine wpAny_bind (wpAny_isSame_ref_self (wpAny_bind (wpAny_pure ?_)))
            simp only [if_true]
            refine wp_if_pos (by simp [same]) ?_
            exact wpAny_pure (there (some i) fun _ => rfl)
        · refine wp_if_neg (by simp [same]) ?_
          try refine wpAny_bind (wpAny_pure ?_)
          rw [sameMem]
          dsimp only
          simp only [if_true, live, R.entry hp]
          refine wpAny_bind (wpAny_isSame_ref_self (wpAny_bind (wpAny_pure ?_)))
          simp only [if_true]
          refine wp_if_neg (by simp [same]) ?_
          refine ih (d + 1) _ rfl (by omega) (by omega) fun i0 p0 h0 k0 => ?_
          obtain ⟨d', a1, a2, a3⟩ := later i0 p0 h0 k0
          refine ⟨d', ?_, a2, a3⟩
          rcases Nat.lt_trichotomy d' d with y | y | y
          · exact absurd ((hash i0 p0 h0).trans (congrArg (tupleKeyHash knd) k0)) (no d' i0 a1 y a3)
          · rw [y] at a3
            have again := slot_live R.tab.ris a3
            rw [live] at again
            injection again with again
            rw [← again, hp] at h0
            exact absurd ((congrArg Prod.snd (Option.some.inj h0)).trans k0) same
          · exact y
      by_cases l : t.led = true
      · refine wp_if_neg (by simp [l]) ?_
        try refine wpAny_bind (wpAny_pure ?_)
        exact rest
      · refine wp_if_pos (by simp [l]) (wpAny_bind (unseen hx (fun y hy => ?_) ?_))
        · obtain ⟨u, hu1, rfl⟩ := List.mem_map.mp hy
          have hu2 : u ∈ es ∧ u.1 = tupleKeyHash knd k := by simpa using hu1
          have hu3 : u ∈ es.toList := by simpa using hu2.1
          rw [R.rows] at hu3
          obtain ⟨q, hq, rfl⟩ := List.mem_map.mp hu3
          exact ⟨q.2, q.1, rfl, R.tup q hq⟩
        · refine wp_if_neg (by decide) ?_
          try refine wpAny_bind (wpAny_pure ?_)
          exact rest
    · rw [e]
      dsimp only
      refine wpAny_pure (hout fun hm => ?_)
      obtain ⟨p0, h0, k0⟩ := List.mem_map.mp hm
      obtain ⟨i0, hi0, e0⟩ := List.getElem_of_mem h0
      have h00 : L[i0]? = some p0 := by rw [List.getElem?_eq_getElem hi0, e0]
      obtain ⟨d', a1, a2, a3⟩ := later i0 p0 h00 k0
      exact no d' i0 a1 a2 a3 ((hash i0 p0 h00).trans (congrArg (tupleKeyHash knd) k0))
/-- the look as it is asked for -/
theorem look (R : Tab knd s.heap a L es ep t) {x : Addr} {k : List K} (hx : IsTupleKey knd s.heap k x) (hu : A.units < cLine) {adding : Bool} {Q : SetFound → Shared → Prop} (hin : k ∈ L.map (·.2) → ∀ r : Option Nat, (adding = false → r.isSome = true) → Q (.there r) s)
    (hout : ∀ z, k ∉ L.map (·.2) → way t.mask (tupleKeyHash knd k) z ∉ t.place.toList → (∀ d, d < z → way t.mask (tupleKeyHash knd k) d ∈ t.place.toList) → Q (.free (way t.mask (tupleKeyHash knd k) z) false) s) :
    wpAny (model P w) A (setSearch a (.ref x) (tupleKeyHash knd k) adding) Q E s := by
  have room := R.room
  obtain ⟨z, hz, free, full⟩ := R.tab.first (by rw [List.length_map]; omega) (tupleKeyHash knd k)
  have low : z < 100000 := by
    have : 10 * SetTable.turns t.mask ≤ 1420 := by
      unfold SetTable.turns
      rcases R.tab.mok with e | e | e <;> omega
    omega
  unfold setSearch
  refine look_from R hx hu hz free full hin (fun n => hout z n free full) 100000 0 none rfl (Nat.zero_le _) (by omega) fun i p hp e => ?_
  have hi : (L.map fun p => tupleKeyHash knd p.2)[i]? = some (tupleKeyHash knd k) := by
    rw [List.getElem?_map, hp, ← e]
    rfl
  have il : i < t.place.toList.length := by
    have h1 := (List.getElem?_eq_some_iff.mp hp).1
    have h2 := R.tab.sz
    rw [List.length_map] at h2
    rw [Array.length_toList]
    omega
  have hj := List.getElem?_eq_getElem il
  obtain ⟨d, hd, ed⟩ := R.tab.before free hi hj
  exact ⟨d, Nat.zero_le _, hd, by rw [hj, ed]⟩
end
end Ts

namespace Ts
open PySem L2 PySem.Spec PyProof.Rows
theorem first_places {α : Type} (L : List α) : ∀ n, n ≤ L.length → (List.range n).filterMap (fun i => L[i]?) = L.take n
  | 0, _ => rfl
  | n + 1, h => by
    have e := List.getElem?_eq_getElem (l := L) (i := n) h
    have one : [n].filterMap (fun i => L[i]?) = [L[n]] := List.filterMap_cons_some e
    rw [List.range_succ, List.filterMap_append, first_places L n (Nat.le_of_succ_le h), one, List.take_succ_eq_append_getElem h]
theorem all_places {α : Type} (L : List α) : (List.range L.length).filterMap (fun i => L[i]?) = L := by
  rw [first_places L _ (Nat.le_refl _), List.take_length]
section
variable {P : Program} {w : World} {K : Type} [DecidableEq K] {knd : KeyKind P w K} {A : Around} {E : Value → Shared → Prop} {s : Shared}
abbrev rowOf (knd : KeyKind P w K) (p : Addr × List K) : Int × Value := (tupleKeyHash knd p.2, Value.ref p.1)
/-- the rows in another order -/
theorem rows_order (L : List (Addr × List K)) (es : Array (Int × Value)) (order : Array Nat) (hr : es.toList = L.map (rowOf knd)) (hp : order.toList.Perm (List.range L.length)) :
    ∃ M : List (Addr × List K), (order.filterMap (es[·]?)).toList = M.map (rowOf knd) ∧ M.Perm L ∧ (M.map fun p => tupleKeyHash knd p.2) = order.toList.map fun i => (es.map (·.1)).getD i 0 := by
  have ent : ∀ i, es[i]? = (L[i]?).map (rowOf knd) := fun i => by rw [← Array.getElem?_toList, hr, List.getElem?_map]
  have key : ∀ l : List Nat, (∀ i ∈ l, i < L.length) → l.filterMap (fun i => es[i]?) = (l.filterMap fun i => L[i]?).map (rowOf knd) ∧ ((l.filterMap fun i => L[i]?).map fun p => tupleKeyHash knd p.2) = l.map fun i => (es.map (·.1)).getD i 0 := by
    intro l
    induction l with
    | nil => exact fun _ => ⟨rfl, rfl⟩
    | cons i l ih =>
      intro hl
      obtain ⟨e1, e2⟩ := ih fun j hj => hl j (List.mem_cons_of_mem _ hj)
      have il := hl i List.mem_cons_self
      have hi := List.getElem?_eq_getElem il
      have he : es[i]? = some (rowOf knd L[i]) := by rw [ent, hi]; rfl
      refine ⟨?_, ?_⟩
      · rw [List.filterMap_cons_some he, List.filterMap_cons_some hi, List.map_cons, e1]
      · rw [List.filterMap_cons_some hi, List.map_cons, List.map_cons, e2]
        have : (es.map (·.1)).getD i 0 = tupleKeyHash knd (L[i]).2 := by
          rw [Array.getD_eq_getD_getElem?, Array.getElem?_map, he]
          rfl
        rw [this]
  obtain ⟨e1, e2⟩ := key order.toList fun i hi => List.mem_range.mp (hp.mem_iff.mp hi)
  refine ⟨_, by rw [Array.toList_filterMap]; exact e1, ?_, e2⟩
  have z := hp.filterMap fun i => L[i]?
  rw [all_places] at z
  exact z
variable {a : Addr} {L : List (Addr × List K)} {es : Array (Int × Value)} {ep : Nat} {t : SetTable}
theorem tup_same {h h' : Heap} {k : List K} {b : Addr} {o : Obj} (hb : IsTupleKey knd h k b) (ho : h.get? a = some o) (hd : o.data = .set es ep t) (hs : Heap.SameBut a h h') : IsTupleKey knd h' k b := by
  obtain ⟨u, its, n, hu, hc, hd', hi⟩ := hb
  refine ⟨u, its, n, (hs.2 b fun z => ?_).trans hu, hc, hd', hi⟩
  rw [z, ho] at hu
  obtain rfl := Option.some.inj hu
  rw [hd] at hd'
  exact nomatch hd'
/-- the table is laid anew -/
theorem relay {o : Obj} (ho : s.heap.get? a = some o) (hex : o.ExactSet) (hd : o.data = .set es ep t) (hr : es.toList = L.map (rowOf knd)) (hf : t.fits es.size = true) (nd : (L.map (·.2)).Nodup) (tup : ∀ p ∈ L, IsTupleKey knd s.heap p.2 p.1) (few : L.length < 64)
    {wanted m : Nat} (hw : SetTable.sizeAbove wanted - 1 = m) (hm : MaskOk m) (hw2 : SetTable.sizeAbove wanted ≤ 128) (room : L.length * 5 < m * 3) {Q : Unit → Shared → Prop}
    (q : ∀ h' M es' ep' t', Heap.SameBut a s.heap h' → Tab knd h' a M es' ep' t' → M.Perm L → Q () { s with heap := h' }) : wpAny (model P w) A (setRelay a wanted) Q E s := by
  have hsl : es.size = L.length := by rw [← Array.length_toList, hr, List.length_map]
  obtain ⟨t', order, e, hp, T, em, _, _, ed⟩ := relaid_ok t (hs := es.map (·.1)) (wanted := wanted) hw hm (by rw [Array.size_map, hsl]; omega)
  rw [Array.size_map, hsl] at hp
  obtain ⟨M, r1, r2, r3⟩ := rows_order L es order hr hp
  rw [← r3] at T
  have hs2 : (order.filterMap (es[·]?)).size = es.size := by rw [← Array.length_toList, r1, List.length_map, r2.length_eq, hsl]
  rw [setRelay_eq]
  refine wpAny_bind (wpAny_setState_of ho hd hf ?_)
  dsimp only
  refine wp_if_neg (by rw [sizeLine_eq]; omega) ?_
  try refine wpAny_bind (wpAny_pure ?_)
  rw [e]
  dsimp only
  refine wpAny_bind (wp_if_neg (by rw [hs2]; simp) ?_)
  try refine wpAny_bind (wpAny_pure ?_)
  refine wpAny_pure ?_
  dsimp only
  refine wpAny_storeSet_of ho hd ?_ (by rw [hs2, hsl, sizeLine_eq]; omega)
  have sb : Heap.SameBut a s.heap (s.heap.update a (Obj.putSet (order.filterMap (es[·]?)) t')) := Heap.SameBut.update ..
  refine q _ M (order.filterMap (es[·]?)) (ep + 1) t' sb ⟨⟨_, store_at ho hd, ⟨hex.1, hex.2.1, hex.2.2⟩, rfl⟩, r1, T, (r2.map (·.2)).nodup_iff.mpr nd, fun p hpm => tup_same (tup p (r2.mem_iff.mp hpm)) ho hd sb, ?_, by rw [r2.length_eq]; exact few⟩ r2
  rw [r2.length_eq, em]
  exact room
/-- what adding does once the place is known -/
theorem put_tail {o : Obj} {es1 : Array (Int × Value)} {t1 : SetTable} {L1 : List (Addr × List K)} {m n : Nat} (ho : s.heap.get? a = some o) (hex : o.ExactSet) (hd : o.data = .set es ep t) (hr : es1.toList = L1.map (rowOf knd)) (T : TabOk t1 (L1.map fun p => tupleKeyHash knd p.2))
    (nd : (L1.map (·.2)).Nodup) (tup : ∀ p ∈ L1, IsTupleKey knd s.heap p.2 p.1) (few : L1.length < 64) (hl : L1.length = n + 1) (hm : t1.mask = m) (old : n * 5 < m * 3) (hfill : t1.fill = L1.length) {Q : Bool → Shared → Prop}
    (q : ∀ h' M es' ep' t', Heap.SameBut a s.heap h' → Tab knd h' a M es' ep' t' → M.Perm L1 → Q true { s with heap := h' }) :
    wpAny (model P w) A (storeSet a es1 t1 >>= fun _ => (if (!false && t1.tooFull) = true then setRelay a (SetTable.grown (n + 1)) >>= fun _ => pure true else pure true)) Q E s := by
  have hsl : es1.size = L1.length := by rw [← Array.length_toList, hr, List.length_map]
  refine wpAny_bind (wpAny_storeSet_of ho hd ?_ (by rw [hsl, sizeLine_eq]; omega))
  have sb : Heap.SameBut a s.heap (s.heap.update a (Obj.putSet es1 t1)) := Heap.SameBut.update ..
  have ho1 := store_at (es' := es1) (t' := t1) ho hd
  generalize s.heap.update a (Obj.putSet es1 t1) = h1 at sb ho1 ⊢
  have tup1 : ∀ p ∈ L1, IsTupleKey knd h1 p.2 p.1 := fun p hp => tup_same (tup p hp) ho hd sb
  have full : t1.tooFull = decide (L1.length * 5 ≥ m * 3) := by
    unfold SetTable.tooFull
    rw [hfill, hm]
  have tsz := T.sz
  rw [List.length_map] at tsz
  by_cases c : L1.length * 5 ≥ m * 3
  · refine wp_if_pos (by rw [full, decide_eq_true c]; rfl) (wpAny_bind ?_)
    have mk := T.mok
    rw [hm] at mk
    have two : (m = 7 ∧ n = 4) ∨ (m = 31 ∧ n = 18) := by
      rcases mk with e | e | e <;> omega
    have go : ∀ m2, SetTable.sizeAbove (SetTable.grown (n + 1)) - 1 = m2 → MaskOk m2 → SetTable.sizeAbove (SetTable.grown (n + 1)) ≤ 128 → L1.length * 5 < m2 * 3 → wpAny (model P w) A (setRelay a (SetTable.grown (n + 1))) (fun _ s' => wpAny (model P w) A (pure true) Q E s') E { s with heap := h1 } := fun m2 g1 g2 g3 g4 =>
      relay (s := { s with heap := h1 }) ho1 ⟨hex.1, hex.2.1, hex.2.2⟩ rfl hr (fits_of T.dm (by omega) (by rw [hm]; omega)) nd tup1 few g1 g2 g3 g4 fun h2 M es2 ep2 t2 sb2 R2 pm => wpAny_pure (q h2 M es2 ep2 t2 (sb.trans sb2) R2 pm)
    rcases two with ⟨_, e⟩ | ⟨_, e⟩
    · exact go 31 (by rw [e, size_20]) (.inr (.inl rfl)) (by rw [e, size_20]; decide) (by omega)
    · exact go 127 (by rw [e, size_76]) (.inr (.inr rfl)) (by rw [e, size_76]; decide) (by omega)
  · refine wp_if_neg (by rw [full, decide_eq_false c]; decide) (wpAny_pure ?_)
    exact q h1 L1 es1 (ep + 1) t1 sb ⟨⟨_, ho1, ⟨hex.1, hex.2.1, hex.2.2⟩, rfl⟩, hr, T, nd, tup1, by rw [hm]; omega, few⟩ (.refl _)
end
end Ts

namespace Ts
open PySem L2 PySem.Spec PyProof.Rows
section
variable {P : Program} {w : World} {K : Type} [DecidableEq K] {knd : KeyKind P w K} {A : Around} {E : Value → Shared → Prop} {s : Shared}
variable {a : Addr} {L : List (Addr × List K)} {es : Array (Int × Value)} {ep : Nat} {t : SetTable}
theorem no_scan {x : Addr} {es : Array (Int × Value)} : ¬ byScan (.ref x) es = true := by
  simp [byScan, Value.scannable]
theorem add_at (R : Tab knd s.heap a L es ep t) {x : Addr} {k : List K} (hx : IsTupleKey knd s.heap k x) (hu : A.units < cLine) (few : L.length + 1 < 64) {Q : Bool → Shared → Prop}
    (q : ∀ b h' M es' ep' t', Heap.SameBut a s.heap h' → Tab knd h' a M es' ep' t' → (k ∈ L.map (·.2) → M = L) → (k ∉ L.map (·.2) → M.Perm ((x, k) :: L)) → Q b { s with heap := h' }) :
    wpAny (model P w) A (setAddHashed a (.ref x) (tupleKeyHash knd k)) Q E s := by
  obtain ⟨o, ho, hex, hd⟩ := R.ob
  have hsl := R.size
  unfold setAddHashed
  refine wpAny_holding ?_
  rw [show (100000 : Nat) = 99999 + 1 from rfl, setAddHashedIn_succ]
  refine wpAny_bind (wpAny_setState_of ho hd R.fits ?_)
  dsimp only
  refine wp_if_neg no_scan ?_
  try refine wpAny_bind (wpAny_pure ?_)
  refine wpAny_bind (look R hx hu (fun hm r _ => ?_) fun z hm free full => ?_)
  · dsimp only
    exact wpAny_pure (q false s.heap L es ep t (Heap.SameBut.refl a s.heap) R (fun _ => rfl) fun n => absurd hm n)
  · dsimp only
    refine wpAny_bind (wpAny_setState_of ho hd R.fits ?_)
    dsimp only
    obtain ⟨q1, q2, q3, q4, _, _, _, _, q9⟩ := R.tab.put free full
    generalize t.put (way t.mask (tupleKeyHash knd k) z) = pt at q1 q3 q4 q9 ⊢
    obtain ⟨t1, p⟩ := pt
    dsimp only at q1 q3 q4 q9 ⊢
    subst q1
    have hin : (SetTable.insertAt es (SetTable.below t.place (way t.mask (tupleKeyHash knd k) z)) (tupleKeyHash knd k, Value.ref x)).toList = (L.take (SetTable.below t.place (way t.mask (tupleKeyHash knd k) z)) ++ (x, k) :: L.drop (SetTable.below t.place (way t.mask (tupleKeyHash knd k) z))).map (rowOf knd) := by
      rw [SetTable.toList_insertAt, R.rows, List.map_append, List.map_cons, List.map_take, List.map_drop]
    generalize SetTable.below t.place (way t.mask (tupleKeyHash knd k) z) = p at q2 q3 hin ⊢
    generalize SetTable.insertAt es p (tupleKeyHash knd k, Value.ref x) = es1 at hin ⊢
    have pm : (L.take p ++ (x, k) :: L.drop p).Perm ((x, k) :: L) := by
      have h : (L.take p ++ (x, k) :: L.drop p).Perm ((x, k) :: (L.take p ++ L.drop p)) := List.perm_middle
      rw [List.take_append_drop] at h
      exact h
    have hh : (L.take p ++ (x, k) :: L.drop p).map (fun p => tupleKeyHash knd p.2) = (L.map fun p => tupleKeyHash knd p.2).take p ++ tupleKeyHash knd k :: (L.map fun p => tupleKeyHash knd p.2).drop p := by
      rw [List.map_append, List.map_cons, List.map_take, List.map_drop]
    rw [← hh] at q3
    generalize L.take p ++ (x, k) :: L.drop p = L1 at pm q3 hin
    have hlen : L1.length = L.length + 1 := pm.length_eq
    have nd1 : (L1.map (·.2)).Nodup := (pm.map (·.2)).nodup_iff.mpr (by
      rw [List.map_cons]
      exact List.nodup_cons.mpr ⟨hm, R.nd⟩)
    have tup1 : ∀ p ∈ L1, IsTupleKey knd s.heap p.2 p.1 := fun p hp => by
      rcases List.mem_cons.mp (pm.mem_iff.mp hp) with e | hp
      · rw [e]
        exact hx
      · exact R.tup p hp
    rw [List.length_map] at q9
    have fin : ∀ t2 : SetTable, TabOk t2 (L1.map fun p => tupleKeyHash knd p.2) → t2.mask = t.mask → t2.fill = L1.length → wpAny (model P w) A (storeSet a es1 t2 >>= fun _ => (if (!false && t2.tooFull) = true then setRelay a (SetTable.grown (es.size + 1)) >>= fun _ => pure true else pure true)) Q E s := fun t2 T2 m2 f2 => by
      rw [hsl]
      exact put_tail ho hex hd hin T2 nd1 tup1 (by omega) hlen m2 R.room f2 fun h' M es' ep' t' sb R' pm' => q true h' M es' ep' t' sb R' (fun z => absurd z hm) fun _ => pm'.trans pm
    have both : ∀ c : Bool, wpAny (model P w) A (storeSet a es1 (if c = true then t1 else { t1 with plain := false }) >>= fun _ => (if (!false && (if c = true then t1 else { t1 with plain := false }).tooFull) = true then setRelay a (SetTable.grown (es.size + 1)) >>= fun _ => pure true else pure true)) Q E s := fun c => by
      cases c with
      | true => exact fin t1 q3 q4 (by rw [q9, hlen])
      | false => exact fin { t1 with plain := false } ⟨q3.ris, q3.dm, q3.sz, q3.mok, q3.bd, q3.reach⟩ q4 (by rw [← hlen] at q9; exact q9)
    by_cases pl : t1.plain = true
    · refine wp_if_pos pl (wpAny_bind (hash_tup hx fun c => ?_))
      exact both c
    · refine wp_if_neg pl (wpAny_bind (wpAny_pure ?_))
      exact both true
/-- finding -/
theorem find_at (R : Tab knd s.heap a L es ep t) {x : Addr} {k : List K} (hx : IsTupleKey knd s.heap k x) (hu : A.units < cLine) {Q : Option Nat → Shared → Prop} (q : ∀ r : Option Nat, (r.isSome = true ↔ k ∈ L.map (·.2)) → Q r s) :
    wpAny (model P w) A (setFind a (.ref x) (tupleKeyHash knd k)) Q E s := by
  obtain ⟨o, ho, hex, hd⟩ := R.ob
  unfold setFind setFindIn
  refine wpAny_bind (wpAny_setState_of ho hd R.fits ?_)
  dsimp only
  refine wp_if_neg no_scan ?_
  try refine wpAny_bind (wpAny_pure ?_)
  refine wpAny_bind (look R hx hu (fun hm r hr => ?_) fun z hm free full => ?_)
  · exact wpAny_pure (q r ⟨fun _ => hm, fun _ => hr rfl⟩)
  · exact wpAny_pure (q none ⟨(fun z => nomatch z), fun z => absurd z hm⟩)
end
end Ts

namespace Ts
open PySem L2 PySem.Spec PyProof.Rows
/-- a set of tuples of keys, but for the tuples themselves -/
structure Low (P : Program) (w : World) (h : Heap) (a : Addr) (L : List (Addr × List Key)) (es : Array (Int × Value)) (ep : Nat) (t : SetTable) : Prop where
  ob : ∃ o, h.get? a = some o ∧ o.ExactSet ∧ o.data = .set es ep t
  rows : es.toList = L.map (rowOf (mixKind P w))
  tab : TabOk t (L.map fun p => tupleKeyHash (mixKind P w) p.2)
  nd : (L.map (·.2)).Nodup
  room : L.length * 5 < t.mask * 3
  few : L.length < 64
def SetT (P : Program) (w : World) (a : Addr) (L : List (Addr × List Key)) : HO := .ext fun h => ∃ es ep t, Low P w h a L es ep t
/-- the tuples stand -/
def Keyed (H : Hp) (L : List (Addr × List Key)) : Prop := ∀ p ∈ L, H p.1 = some (.tup (p.2.map kV))
section
variable {X : Cx}
theorem Tab.low {P : Program} {w : World} {h : Heap} {a : Addr} {L : List (Addr × List Key)} {es : Array (Int × Value)} {ep : Nat} {t : SetTable} (R : Tab (mixKind P w) h a L es ep t) : Low P w h a L es ep t := ⟨R.ob, R.rows, R.tab, R.nd, R.room, R.few⟩
theorem setT_ok {P : Program} {w : World} {H : Hp} {h : Heap} {a : Addr} {L : List (Addr × List Key)} {es : Array (Int × Value)} {ep : Nat} {t : SetTable} (R : Low P w h a L es ep t) : ObjOk P w H h a (SetT P w a L) := by
  have ⟨o, ho, _, _⟩ := R.ob
  exact ⟨⟨es, ep, t, R⟩, ⟨o, ho⟩, fun h1 h2 ⟨es1, ep1, t1, R1⟩ k => ⟨es1, ep1, t1, let ⟨o1, ho1, r⟩ := R1.ob; ⟨⟨o1, k _ ho1, r⟩, R1.rows, R1.tab, R1.nd, R1.room, R1.few⟩⟩⟩
theorem setT_get {pins : List (Addr × Obj)} {σ : L2.St} {H : Hp} {s : Shared} {a : Addr} {L : List (Addr × List Key)} (I : Inv X pins σ H s) (ha : H a = some (SetT X.prog X.w a L)) (hk : Keyed H L) : ∃ es ep t, Tab (mixKind X.prog X.w) s.heap a L es ep t := by
  obtain ⟨es, ep, t, R⟩ := (show ObjOk X.prog X.w H s.heap a (SetT X.prog X.w a L) from I.hok a _ ha).1
  exact ⟨es, ep, t, R.ob, R.rows, R.tab, R.nd, fun p hp => key_of I.hok (hk p hp), R.room, R.few⟩
theorem Tab.ty {P : Program} {w : World} {K : Type} [DecidableEq K] {knd : KeyKind P w K} {s : Shared} {a : Addr} {L : List (Addr × List K)} {es : Array (Int × Value)} {ep : Nat} {t : SetTable} (R : Tab knd s.heap a L es ep t) : s.TypeIs (.ref a) "set" :=
  let ⟨o, ho, hx, _⟩ := R.ob
  ⟨o, ho, hx.1⟩
theorem Tab.bare {P : Program} {w : World} {K : Type} [DecidableEq K] {knd : KeyKind P w K} {s : Shared} {a : Addr} {L : List (Addr × List K)} {es : Array (Int × Value)} {ep : Nat} {t : SetTable} (R : Tab knd s.heap a L es ep t) : ∀ b, Value.ref a = .ref b → ∃ ob, s.heap.get? b = some ob ∧ ob.dict = none := fun b e => by
  injection e with e
  subst e
  obtain ⟨o, ho, hx, _⟩ := R.ob
  exact ⟨o, ho, hx.2.1⟩
theorem Tab.keep {P : Program} {w : World} {K : Type} [DecidableEq K] {knd : KeyKind P w K} {h : Heap} {a : Addr} {L : List (Addr × List K)} {es : Array (Int × Value)} {ep : Nat} {t : SetTable} (R : Tab knd h a L es ep t) : True := True.intro
/-- set() -/
def rSet0T (P : Program) (w : World) : List V → Hp → VK → Prop := fun xs H Q => xs = [] ∧ ∀ p, H p = none → Q (.ref p) (upd H p (SetT P w p []))
theorem cr_set0T : CallR X (.type "set") (rSet0T X.prog X.w) := by
  intro pins s σ H xs us Q I r h
  obtain ⟨rfl, q⟩ := h
  cases r
  refine setR_new fun _ => ?_
  have new : Low X.prog X.w (s.heap.push { cls := .type "set", dict := none, data := .set #[] 0 (.fresh 0 0 (!X.w.params.followText "set-order")) }) s.heap.objs.size [] #[] 0 (.fresh 0 0 (!X.w.params.followText "set-order")) :=
    ⟨⟨_, Heap.get?_push_size _ rfl, ⟨rfl, rfl, rfl⟩, rfl⟩, rfl, ⟨.nil, rfl, rfl, .inl rfl, (fun x hx => nomatch hx), (fun i h j e => by simp at e)⟩, .nil, (by show 0 * 5 < 7 * 3; decide), (by show 0 < 64; decide)⟩
  exact ⟨.ref _, upd H s.heap.objs.size (SetT X.prog X.w s.heap.objs.size []), I.laid (t' := s.toks) (fun b u e => Heap.get?_push_of_some _ e) (Nat.le_refl _) (setT_ok new), rfl, q _ (I.hok.fresh (Nat.le_refl _))⟩
/-- told in seen -/
def rSInT (P : Program) (w : World) : V → V → Hp → VK → Prop := fun x y H Q => ∃ (b a : Addr) (k : List Key) (L : List (Addr × List Key)), x = V.ref b ∧ y = V.ref a ∧ H b = some (.tup (k.map kV)) ∧ H a = some (SetT P w a L) ∧ Keyed H L ∧ ∀ c : Bool, (c = true ↔ k ∈ L.map Prod.snd) → Q (.bl c) H
theorem op_inT (hu : X.A.units + 1 < cLine) : OpR X (compareOp .In) (rSInT X.prog X.w) := by
  intro pins s σ H x y v u Q I rx ry h
  obtain ⟨b, a, k, L, rfl, rfl, hb, ha, kd, q⟩ := h
  cases rx
  cases ry
  have hx := key_of I.hok hb
  obtain ⟨es, ep, t, R⟩ := setT_get I ha kd
  show wpAny _ _ (do return Value.bool (← contains (.ref a) (.ref b)) : Sem Value) _ _ s
  refine wpAny_bind ?_
  unfold contains
  try with_reducible refine wpAny_holding ?_
  refine wpAny_bind (wpAny_specialOf R.ty F.slot_set_contains.lookup ?_)
  show wpAny _ _ (if (some (Value.builtin "set.__contains__") == some Value.none) = true then _ else _) _ _ s
  rw [if_neg (by rw [beq_builtin_none]; exact Bool.false_ne_true)]
  refine wpAny_bind (wpAny_callSpecialUnlessNone?_slot (name := Str.ofString "__contains__") R.ty F.slot_set_contains (wpAny_call_entry F.slot_set_contains R.ty entry_set_contains ?_ (F.args_set_contains_2 _ _)))
  unfold Builtin.«frozenset.__contains__» Builtin.Frozenset.oneOther
  simp only [List.isEmpty_nil, bind_assoc]
  unfold Builtin.Frozenset.addrOf Builtin.Frozenset.withSetAsKey setContains
  refine wpAny_bind (wpAny_pure ?_)
  try dsimp only
  refine wpAny_bind (wpAny_pure ?_)
  try dsimp only
  refine wpAny_bind (wpAny_tryCatch ?_)
  refine wpAny_holding ?_
  refine wpAny_bind (wpAny_pyHash_tuple hu hx ?_)
  refine wpAny_bind (find_at (s := { s with toks := s.toks + (k.length + 1) }) R hx hu fun r hr => ?_)
  refine wpAny_pure ?_
  show wpAny _ _ (ret (Value.bool r.isSome)) _ _ _
  exact wpAny_pure ⟨_, rfl, wpAny_truthy_bool (wpAny_pure ⟨.bl r.isSome, H, I.tok _, rfl, q _ hr⟩)⟩
/-- seen.add(told) -/
def rSAddT (P : Program) (w : World) : V → List V → Hp → VK → Prop := fun x xs H Q => ∃ (b a : Addr) (k : List Key) (L : List (Addr × List Key)), x = V.ref a ∧ xs = [.ref b] ∧ H b = some (.tup (k.map kV)) ∧ H a = some (SetT P w a L) ∧ Keyed H L ∧ L.length + 1 < 64 ∧
  ∀ M, (k ∈ L.map Prod.snd → M = L) → (k ∉ L.map Prod.snd → M.Perm ((b, k) :: L)) → Q .non (upd H a (SetT P w a M))
theorem mt_saddT (hu : X.A.units + 1 < cLine) : MtR X "set.add" (rSAddT X.prog X.w) := by
  intro pins s σ H x xs v us Q I rx rxs h
  obtain ⟨b, a, k, L, rfl, rfl, hb, ha, kd, few, q⟩ := h
  cases rx
  cases rxs with
  | cons ry rt =>
    cases rt
    cases ry
    have hx := key_of I.hok hb
    obtain ⟨es, ep, t, R⟩ := setT_get I ha kd
    refine wpAny_call_entry F.slot_set_add R.ty F.entry_set_add ?_ (F.args_set_add_2 _ _)
    unfold Builtin.«set.add» Builtin.Frozenset.oneOther
    simp only [List.isEmpty_nil, bind_assoc]
    unfold Builtin.Frozenset.addrOf setAdd
    refine wpAny_bind (wpAny_pure ?_)
    try dsimp only
    refine wpAny_bind (wpAny_pure ?_)
    try dsimp only
    refine wpAny_bind ?_
    refine wpAny_holding ?_
    refine wpAny_bind (wpAny_pyHash_tuple hu hx ?_)
    refine add_at (s := { s with toks := s.toks + (k.length + 1) }) R hx hu few fun c h' M es' ep' t' sb R' m1 m2 => ?_
    show wpAny _ _ (ret Value.none) _ _ _
    have he : ∃ u, h'.get? a = some u := let ⟨o, ho, _⟩ := R'.ob; ⟨o, ho⟩
    exact wpAny_pure ⟨_, rfl, .non, upd H a (SetT X.prog X.w a M), I.write (e := a) (t' := s.toks + (k.length + 1)) (by rw [ha]; trivial) (.inl rfl) (fun c u hc hu => (sb.2 c hc).trans hu) he (setT_ok R'.low), rfl, q M m1 m2⟩
def tSAddT (P : Program) (w : World) (to : TE) (t : TA) : TE := fun σ H Q => to σ H fun x H1 => (∃ a L, x = V.ref a ∧ H1 a = some (SetT P w a L) ∧ Keyed H1 L) ∧ t σ H1 fun xs H2 => rSAddT P w x xs H2 Q
variable {o e : Expr} {es : List Expr} {to : TE} {t : TA} {apos cpos : Pos}
theorem pe_saddT (hu : X.A.units + 1 < cLine) (ho : PE X o to) (ha : PA X (e :: es) t)
    (base : attributeBase o "add" X.env (eval o X.env) = eval o X.env := by rfl)
    (few : ((backTo cpos (starEach (e :: es) X.env)).all (fun x => !x.1) && (backToKw cpos (keywordEach [] X.env)).all (fun x => x.1.isSome)
      && decide ((e :: es).length + ([] : List Keyword).length + (if ([] : List Keyword).isEmpty then 0 else 1) < 30)) = true := by rfl)
    (line : (apos.endLine == cpos.line) = true := by rfl) (hs : starEach (e :: es) X.env = (false, eval e X.env) :: starEach es X.env := by rfl) (plain : (backTo cpos (starEach es X.env)).any (·.1) = false := by rfl) :
    PE X (.Call (.Attribute o "add" apos) (e :: es) [] cpos) (tSAddT X.prog X.w to t) := by
  refine ⟨fun pins s σ H Q I h => ?_⟩
  refine wpAny_Call_method_late base few line rfl (thn (ho.run pins s σ H _ I h) fun v s1 ⟨x, H1, I1, r1, ty, q1⟩ => ?_)
  obtain ⟨a, L, rfl, hka, kd⟩ := ty
  obtain ⟨es1, ep1, t1, R⟩ := setT_get I1 hka kd
  cases r1
  refine ⟨"set", "set.add", F.plainAttrs_set, F.slot_set_add, F.type_set_add, R.ty, R.bare, ?_⟩
  have hA := ha.run cpos pins s1 σ H1 _ I1 q1
  rw [hs] at hA ⊢
  refine Calls.callWith_builtin (by show (false || (backTo cpos (starEach es X.env)).any (·.1)) = false; rw [plain] <;> rfl) (Calls.evalArgs_plain ?_)
  exact thn hA fun us s2 ⟨vs, H2, I2, r2, q2⟩ => mt_saddT hu pins s2 σ H2 (.ref a) vs (.ref a) us Q I2 rfl r2 q2
end
end Ts

namespace Ts
open PySem L2 PySem.Spec PyProof.Rows
/-! ### sets of texts, of any order -/
def txt (e : Int × Value) : Str := match e.2 with
  | .str k _ => k
  | _ => ""
def IsX (w : World) (e : Int × Value) : Prop := ∃ k u, e = (hashStr w k, Value.str k u)
/-- a set of the texts xs, each once -/
def TxS (w : World) (h : Heap) (a : Addr) (xs : List Str) : Prop := ∃ o es ep t, h.get? a = some o ∧ o.ExactSet ∧ o.data = .set es ep t ∧ (∀ e ∈ es.toList, IsX w e) ∧ (es.toList.map txt).Perm xs ∧ xs.Nodup ∧ xs.length < 64 ∧
  t.fits es.size = true ∧ Ris t.place.toList ∧ (w.params.followText "set-order" = true ∨ t.led = true)
theorem TxS.at {w : World} {h h' : Heap} {a : Addr} {xs : List Str} (R : TxS w h a xs) (k : ∀ o, h.get? a = some o → h'.get? a = some o) : TxS w h' a xs := by
  obtain ⟨o, es, ep, t, ho, r⟩ := R
  exact ⟨o, es, ep, t, k o ho, r⟩
theorem txS_new {w : World} {h : Heap} {a : Addr} (ho : h.get? a = some { cls := .type "set", dict := none, data := .set #[] 0 (.fresh 0 0 (!w.params.followText "set-order")) }) : TxS w h a [] :=
  ⟨_, #[], 0, _, ho, ⟨rfl, rfl, rfl⟩, rfl, (fun e he => by simp at he), .refl _, .nil, by decide, rfl, .nil, by
    show _ ∨ (!w.params.followText "set-order") = true
    cases w.params.followText "set-order"
    · exact .inr rfl
    · exact .inl rfl⟩
section
variable {P : Program} {w : World} {A : Around} {E : Value → Shared → Prop} {s : Shared} {a : Addr} {xs : List Str}
theorem is_txt (k : Str) (u : Tok) : (strKind P w).is k (.str k u) = true := by
  show Value.isStrOf k (.str k u) = true
  simp [Value.isStrOf]
theorem elems_x {l : List (Int × Value)} (g : ∀ e ∈ l, IsX w e) : ElemsOf (strKind P w) l := fun e he => by
  obtain ⟨k, u, rfl⟩ := g e he
  exact ⟨⟨k, is_txt k u, rfl⟩, rfl⟩
theorem is_iff {e : Int × Value} (g : IsX w e) (k : Str) : (strKind P w).is k e.2 = true ↔ txt e = k := by
  obtain ⟨y, u, rfl⟩ := g
  refine ⟨fun h => ?_, fun h => ?_⟩
  · exact (strKind P w).inj _ _ _ (is_txt y u) h
  · subst h
    exact is_txt _ u
/-- what stands behind an addition -/
abbrev Grown (xs : List Str) (k : Str) (ys : List Str) : Prop := (∀ y, y ∈ ys ↔ y = k ∨ y ∈ xs) ∧ ys.length ≤ xs.length + 1
theorem tail_x {g : Bool → Sem Unit} (hg : ∀ (b : Bool) (s₁ : Shared) (Q' : Unit → Shared → Prop), Q' () s₁ → wpAny (model P w) A (g b) Q' E s₁) {o : Obj} {es : Array (Int × Value)} {ep : Nat} {t : SetTable} (ho : s.heap.get? a = some o) (hex : o.ExactSet) (hd : o.data = .set es ep t)
    {es1 : Array (Int × Value)} {t2 : SetTable} {ys : List Str} (g1 : ∀ e ∈ es1.toList, IsX w e) (pm : (es1.toList.map txt).Perm ys) (nd : ys.Nodup) (few : ys.length < 64) (hf : t2.fits es1.size = true) (hr : Ris t2.place.toList) (hl : w.params.followText "set-order" = true ∨ t2.led = true) {wasDummy : Bool} {R : Option Bool → Shared → Prop}
    (q : ∀ h', Heap.SameBut a s.heap h' → TxS w h' a ys → R (some true) { s with heap := h' }) :
    wpAny (model P w) A (do
        storeSet a es1 t2
        if (!wasDummy && t2.tooFull) = true then do
            g (relayAll t2 es1 (SetTable.grown es1.size)).2.2
            storeSet a (relayAll t2 es1 (SetTable.grown es1.size)).1 (relayAll t2 es1 (SetTable.grown es1.size)).2.1
            pure (some true)
          else pure (some true)) R E s := by
  have size1 : es1.size = ys.length := by
    have := pm.length_eq
    rw [List.length_map, Array.length_toList] at this
    exact this
  refine wpAny_bind (wpAny_storeSet_of ho hd ?_ (by rw [size1, sizeLine_eq]; omega))
  have ho1 := store_at (es' := es1) (t' := t2) ho hd
  have sb1 := Heap.SameBut.update s.heap a (Obj.putSet es1 t2)
  split
  · have p2 := relayAll_perm t2 es1 (SetTable.grown es1.size)
    have f2 := relayAll_fits t2 es1 (SetTable.grown es1.size)
    have r2 := relayAll_ris t2 es1 (SetTable.grown es1.size)
    have l2 := relayAll_led t2 es1 (SetTable.grown es1.size)
    generalize relayAll t2 es1 (SetTable.grown es1.size) = Z at p2 f2 r2 l2 ⊢
    obtain ⟨es2, t3, gave⟩ := Z
    dsimp only at p2 f2 r2 l2 ⊢
    have size2 : es2.size = es1.size := by rw [← Array.length_toList, p2.length_eq, Array.length_toList]
    refine wpAny_bind (hg _ _ _ (wpAny_bind (wpAny_storeSet_of ho1 rfl (wpAny_pure (q _ (sb1.trans (Heap.SameBut.update _ a _)) ?_)) (by rw [size2, size1, sizeLine_eq]; omega))))
    exact ⟨_, es2, _, t3, store_at ho1 rfl, hex, rfl, fun e he => g1 e (p2.mem_iff.mp he), (p2.map txt).trans pm, nd, few, f2, r2, hl.imp id fun z => by rw [l2]; exact z⟩
  · exact wpAny_pure (q _ sb1 ⟨_, es1, _, t2, ho1, hex, rfl, g1, pm, nd, few, hf, hr, hl⟩)
theorem add_x {k : Str} {u : Tok} {Q : Bool → Shared → Prop} (R : TxS w s.heap a xs) (few : xs.length + 1 < 64) (q : ∀ b h' ys, Heap.SameBut a s.heap h' → TxS w h' a ys → Grown xs k ys → Q b { s with heap := h' }) :
    wpAny (model P w) A (setAddHashed a (.str k u) ((strKind P w).hash k)) Q E s := by
  obtain ⟨o, es, ep, t, ho, hex, hd, g, pm, nd, _, hf, hr, hl⟩ := R
  have key : (strKind P w).is k (.str k u) = true := is_txt k u
  have el := elems_x (P := P) g
  have size : es.size = xs.length := by
    have := pm.length_eq
    rw [List.length_map, Array.length_toList] at this
    exact this
  unfold setAddHashed setAddHashedIn
  refine wpAny_holding (wpAny_bind (wpAny_setState_of ho hd hf ?_))
  dsimp only
  rw [byScan_of (x := .str k u) rfl (by rw [size]; unfold scanBound; omega) el]
  simp only [↓reduceIte]
  unfold setAddByScan
  refine wpAny_bind (wpAny_bind (wpAny_rule (wpAny_bind (wpAny_setScan_of key ho hd hf el ?_))))
  cases hfi : List.findIdx? (fun e => (strKind P w).is k e.2) es.toList with
  | some j =>
    dsimp only
    obtain ⟨hj, pj, _⟩ := List.findIdx?_eq_some_iff_getElem.mp hfi
    have hk : k ∈ xs := pm.mem_iff.mp (List.mem_map.mpr ⟨_, List.getElem_mem hj, (is_iff (P := P) (g _ (List.getElem_mem hj)) k).mp pj⟩)
    refine wpAny_pure (wpAny_pure (q _ s.heap xs (Heap.SameBut.refl a s.heap) ⟨o, es, ep, t, ho, hex, hd, g, pm, nd, by omega, hf, hr, hl⟩ ⟨fun y => ⟨.inr, fun z => z.elim (fun e => by rw [e]; exact hk) id⟩, Nat.le_succ _⟩))
  | none =>
    dsimp only
    have hk : k ∉ xs := fun z => by
      obtain ⟨e, he, ek⟩ := List.mem_map.mp (pm.mem_iff.mpr z)
      have c := List.findIdx?_eq_none_iff.mp hfi e he
      rw [(is_iff (P := P) (g e he) k).mpr ek] at c
      cases c
    have gave : ∀ (b : Bool) {s₁ : Shared} {Q' : Unit → Shared → Prop}, Q' () s₁ → wpAny (model P w) A (match b with | true => rule "set.scan.the-table-gave-way" | false => pure ()) Q' E s₁ := fun b s₁ Q' z => by
      cases b <;> first | exact wpAny_pure z | exact wpAny_rule z
    have p1 := layNew_perm t es ((strKind P w).hash k) (.str k u)
    have f1 := layNew_fits t es ((strKind P w).hash k) (.str k u)
    have r1 := layNew_ris t es ((strKind P w).hash k) (.str k u) hr
    have l1 := layNew_led t es ((strKind P w).hash k) (.str k u)
    generalize layNew t es ((strKind P w).hash k) (.str k u) = Z at p1 f1 r1 l1 ⊢
    obtain ⟨es1, t1, wasDummy, gv⟩ := Z
    dsimp only at p1 f1 r1 l1 ⊢
    rw [Array.toList_push] at p1
    have pc : es1.toList.Perm (((strKind P w).hash k, Value.str k u) :: es.toList) := p1.trans (List.perm_append_singleton _ _)
    have g1 : ∀ e ∈ es1.toList, IsX w e := fun e he => by
      rcases List.mem_cons.mp (pc.mem_iff.mp he) with z | z
      · rw [z]
        exact ⟨k, u, rfl⟩
      · exact g e z
    have pk : (es1.toList.map txt).Perm (k :: xs) := (pc.map txt).trans (pm.cons k)
    have nd1 : (k :: xs).Nodup := List.nodup_cons.mpr ⟨hk, nd⟩
    have led1 : w.params.followText "set-order" = true ∨ t1.led = true := hl.imp id fun z => by rw [l1]; exact z
    have fin : ∀ h', Heap.SameBut a s.heap h' → TxS w h' a (k :: xs) → Q true { s with heap := h' } := fun h' sb r => q true h' (k :: xs) sb r ⟨fun y => List.mem_cons, Nat.le_refl _⟩
    refine wpAny_bind (gave _ ?_)
    split
    · refine wpAny_bind ?_
      rw [hashByValue_scannable 8 (x := .str k u) rfl]
      refine wpAny_pure ?_
      refine tail_x ?_ ho hex hd g1 pk nd1 (by rw [List.length_cons]; omega) ?_ ?_ ?_ ?_
      · intro b s₁ Q' z
        cases b <;> first | exact wpAny_pure z | exact wpAny_rule z
      · first | (split <;> first | exact f1 | exact SetTable.fits_plain_off f1) | exact f1
      · first | (split <;> exact r1) | exact r1
      · first | (split <;> exact led1) | exact led1
      · intro h' sb r
        dsimp only
        exact wpAny_pure (fin h' sb r)
    · refine wpAny_bind (wpAny_pure ?_)
      simp only [↓reduceIte]
      refine tail_x ?_ ho hex hd g1 pk nd1 (by rw [List.length_cons]; omega) f1 r1 led1 ?_
      · intro b s₁ Q' z
        cases b <;> first | exact wpAny_pure z | exact wpAny_rule z
      · intro h' sb r
        dsimp only
        exact wpAny_pure (fin h' sb r)
end
end Ts

namespace Ts
open PySem L2 PySem.Spec PyProof.Rows
/-- the texts ys are those of xs, each once -/
abbrev Same1 (xs ys : List Str) : Prop := ys.Nodup ∧ (∀ y, y ∈ ys ↔ y ∈ xs) ∧ ys.length ≤ xs.length
section
variable {P : Program} {w : World} {A : Around} {E : Value → Shared → Prop} {s : Shared}
theorem TxS.nodup {h : Heap} {a : Addr} {xs : List Str} (R : TxS w h a xs) : xs.Nodup := by
  obtain ⟨_, _, _, _, _, _, _, _, _, nd, _⟩ := R
  exact nd
/-- the loop of set.update over texts -/
theorem update_x {I : Addr} {fp wr : List Addr} {G : Array GenState → Array GenState → Prop} {n : Nat} {Pv : Nat → Value → Prop} {St : Nat → Shared → Prop} {R : Result → Shared → Prop} (W : WalksS P w A.in1 I fp wr G n Pv St) (S : Addr) (apart : S ∉ fp) (xs : List Str) (hn : n = xs.length)
    (few : xs.length < 64) (val : ∀ (i : Nat) v, Pv i v → ∃ k u, xs[i]? = some k ∧ v = .str k u) : ∀ (m i : Nat) (s : Shared), n - i = m → i ≤ n → St i s → (∃ ys, TxS w s.heap S ys ∧ Same1 (xs.take i) ys) →
      (∀ s' ys, Moved (S :: wr) G s s' → TxS w s'.heap S ys → Same1 xs ys → R (.ok (.ret .none)) s') → codeAny (model P w) A (.builtin "set.update.loop" ⟨[.ref S, .ref I], []⟩) R s := by
  have notw : S ∉ wr := fun h => apart (W.sub _ h)
  have up : ∀ b ∈ wr, b ∈ S :: wr := fun b hb => List.mem_cons_of_mem _ hb
  intro m
  induction m with
  | zero =>
    intro i s hm hi st ⟨ys, hS, g⟩ q
    obtain rfl : i = n := by omega
    refine codeAny_builtin F.entry_set_update_loop ?_
    rw [Around.under_plainId F.plain_set_update_loop _]
    show wpAny _ A.in1 (pyNext (.ref I) >>= _) _ _ s
    refine wpAny_bind (W.done s _ _ st fun s' mv => ?_)
    show wpAny _ A.in1 (ret Value.none) _ _ s'
    rw [List.take_of_length_le (by omega)] at g
    exact wpAny_pure (q s' ys (mv.mono up) (hS.at fun o e => mv.heap S o notw e) g)
  | succ m ih =>
    intro i s hm hi st ⟨ys, hS, g⟩ q
    have lt : i < n := by omega
    refine codeAny_builtin F.entry_set_update_loop ?_
    rw [Around.under_plainId F.plain_set_update_loop _]
    show wpAny _ A.in1 (pyNext (.ref I) >>= _) _ _ s
    refine wpAny_bind (W.item i s _ _ lt st fun v s' hP st' mv => ?_)
    obtain ⟨z, u, hz, rfl⟩ := val i v hP
    have hS1 : TxS w s'.heap S ys := hS.at fun o e => mv.heap S o notw e
    show wpAny _ A.in1 (holding [Value.str z u] (setAdd S (.str z u)) >>= _) _ _ s'
    refine wpAny_bind (wpAny_holding ?_)
    unfold setAdd
    refine wpAny_holding (wpAny_bind ((strKind P w).pyHash (k := z) (is_txt z u) ?_))
    have hlen := g.2.2
    rw [List.length_take] at hlen
    refine add_x (s := { s' with toks := s'.toks + 1 }) hS1 (by omega) fun b h' zs sb hS2 gr => ?_
    have g2 : Same1 (xs.take (i + 1)) zs := by
      refine ⟨hS2.nodup, fun y => ?_, ?_⟩
      · rw [gr.1 y, g.2.1 y, List.take_add_one, hz, List.mem_append]
        simp [or_comm]
      · have := gr.2
        have := g.2.2
        rw [List.length_take] at this ⊢
        omega
    refine wpAny_pure ⟨plainId_quiet F.plain_set_update_loop _, ih (i + 1) _ (by omega) lt (W.frame _ s' _ _ st' (Nat.le_succ _) fun b hb o e => ?_) ⟨zs, hS2, g2⟩ fun s'' y2 mv2 hS3 g3 => ?_⟩
    · rw [sb.2 b (fun h : b = S => apart (by rw [← h]; exact hb))]
      exact e
    · refine q s'' y2 (Moved.trans W.gtrans ((mv.mono up).then_heap (Nat.le_succ _) fun b o hb e => ?_) mv2) hS3 g3
      rw [sb.2 b (fun h : b = S => hb (by rw [h]; exact List.mem_cons_self))]
      exact e
abbrev newSetO (w : World) : Obj := { cls := .type "set", dict := none, data := .set #[] 0 (.fresh 0 0 (!w.params.followText "set-order")) }
/-- set(t), t a tuple of texts -/
theorem make_x {l : Addr} {items : Array Value} (xs : List Str) {Q : Value → Shared → Prop} (hh : A.handled = none) (hl : s.heap.IsTuple l items) (val : ∀ (i : Nat) v, items[i]? = some v → ∃ k u, xs[i]? = some k ∧ v = Value.str k u) (size : items.size = xs.length) (few : xs.length < 64)
    (q : ∀ (h' : Heap) (tk : Nat) ys, TxS w h' s.heap.objs.size ys → Same1 xs ys → (∀ b o, s.heap.get? b = some o → h'.get? b = some o) → Q (.ref s.heap.objs.size) { s with heap := h', toks := tk }) : wpAny (model P w) A (call (.type "set") [.ref l]) Q E s := by
  obtain ⟨c, tl, hmro⟩ := F.called_set.mro
  have hmade := F.called_set.made
  have hsub := F.called_set.sub
  refine wpAny_call (codeAny_of_tree ?_)
  show wpAny _ _ (callAny (.type "set") _) _ _ _
  refine wpAny_pure ⟨Code.quiet_builtin _ (by decide +kernel), codeAny_builtin F.entry_type_call ?_⟩
  rw [Around.under_plain (weight_type_call_type "set" [.ref l] []) rfl]
  have h1 := F.called_set.notType
  have h2 := F.called_set.canCreate
  have hct := F.typeCall_set_1 (.ref l)
  repeat (any_goals (first | assumption | wp_step))
  refine codeAny_mono (code_set_led1 (.ref l) (E := E) (Q₁ := fun obj s₁ => obj = .ref s.heap.objs.size ∧ s₁ = { s with heap := s.heap.push (newSetO w) }) ⟨rfl, rfl⟩) fun r s₁ hr => ?_
  cases r with
  | error e => exact hr
  | ok fl =>
    cases fl with
    | ret obj =>
      obtain ⟨rfl, rfl⟩ := hr
      have hS : (s.heap.push (newSetO w)).get? s.heap.objs.size = some (newSetO w) := Heap.get?_push_size _ rfl
      have hT : Shared.TypeIs { s with heap := s.heap.push (newSetO w) } (.ref s.heap.objs.size) "set" := ⟨_, hS, rfl⟩
      have hli := F.called_set.init.lookup
      have hbi := F.called_set.init.bind (.ref s.heap.objs.size)
      repeat (any_goals (first | assumption | wp_step))
      refine codeAny_mono (codeAny_call_builtin (R := wants (fun r s₂ => r = .none ∧ ∃ h' tk ys, s₂ = { s with heap := h', toks := tk } ∧ TxS w h' s.heap.objs.size ys ∧ Same1 xs ys ∧ (∀ b o, s.heap.get? b = some o → h'.get? b = some o)) E) F.called_set.init.plain F.entry_set_init (check_set_init_1 hT ?_)) fun r₂ s₂ hr₂ => ?_
      · obtain ⟨ol, hol, hcl, nl, hdl⟩ := hl
        obtain ⟨ocls, odict, odata, oslots⟩ := ol
        simp only at hcl hdl
        subst hcl
        subst hdl
        have hol' : (s.heap.push (newSetO w)).get? l = some { cls := .type "tuple", dict := odict, data := .seq items nl, slots := oslots } := Heap.get?_push_of_some _ hol
        have hsls := F.sub_tuple_set
        have hslf := F.sub_tuple_frozenset
        have hne : (Value.type "tuple" == Value.type "dict") = false := by decide
        have hl1 : (s.heap.push (newSetO w)).IsTuple l items := ⟨_, hol', rfl, nl, rfl⟩
        unfold Builtin.«set.__init__» noKeywords Builtin.Frozenset.updateFrom
        generalize hPI : pyIter = PI
        wp_walk
        subst hPI
        refine wpAny_pyIter_tuple hl1 (wpAny_bind (wpAny_runValue ?_))
        have low : l < s.heap.objs.size := Heap.lt_size hol
        have hh3 : A.in1.in1.in1.handled = none := by simp [hh]
        have neI : l ≠ (s.heap.push (newSetO w)).objs.size := by
          rw [Heap.size_push]
          exact Nat.ne_of_lt (Nat.lt_succ_of_lt low)
        have apart : s.heap.objs.size ∉ [(s.heap.push (newSetO w)).objs.size, l] := by
          rw [Heap.size_push]
          simp only [List.mem_cons, List.not_mem_nil, or_false, not_or]
          exact ⟨Nat.ne_of_lt (Nat.lt_succ_self _), Nat.ne_of_gt low⟩
        refine update_x ((Walks.tuple hh3 _ l neI items).toS) s.heap.objs.size apart xs size few val (items.size - 0) 0 _ (by omega) (Nat.zero_le _) ⟨⟨_, Heap.get?_push_size _ rfl, rfl, rfl⟩, (hl1.push _)⟩ ?start ?fin
        case start => exact ⟨[], txS_new (Heap.get?_push_of_some _ hS), .nil, fun y => by simp, Nat.le_refl _⟩
        case fin =>
          intro s' ys mv hS' g
          obtain ⟨h', g2, d', tk', os'⟩ := s'
          have eg : g2 = s.gens := mv.gens
          have ed : d' = s.drawn := mv.drawn
          have eo : os' = s.os := mv.os
          subst eg
          subst ed
          subst eo
          refine wpAny_pure ?_
          show wpAny _ _ (ret Value.none) _ _ _
          refine wpAny_pure ⟨rfl, h', tk', ys, rfl, hS', g, fun b o e => ?_⟩
          have hb0 : b < s.heap.objs.size := Heap.lt_size e
          exact mv.heap b o (by
            rw [Heap.size_push]
            simp only [List.mem_cons, List.not_mem_nil, or_false, not_or]
            exact ⟨Nat.ne_of_lt hb0, Nat.ne_of_lt (Nat.lt_succ_of_lt hb0)⟩) (Heap.get?_push_of_some _ (Heap.get?_push_of_some _ e))
      · cases r₂ with
        | error e => exact hr₂
        | ok fl₂ =>
          cases fl₂ with
          | ret r =>
            obtain ⟨rfl, h', tk, ys, rfl, hS', g, k⟩ := hr₂
            repeat (any_goals (first | assumption | wp_step))
            exact q _ _ _ hS' g k
          | _ => exact hr₂.elim
    | _ => exact hr.elim
end
end Ts

namespace Ts
open PySem L2 PySem.Spec PyProof.Rows
/-! ### the order of texts -/
theorem lt_irr : ∀ a : List Nat, ltCps a a = false
  | [] => rfl
  | x :: r => by simp [ltCps, lt_irr r]
theorem lt_tri : ∀ a b : List Nat, ltCps a b = false → ltCps b a = false → a = b
  | [], [], _, _ => rfl
  | [], _ :: _, h, _ => by cases h
  | _ :: _, [], _, h => by cases h
  | x :: r, y :: t, h, g => by
    simp [ltCps] at h g
    have e : x = y := by omega
    subst e
    rw [lt_tri r t (h.2 rfl) (g.2 rfl)]
theorem lt_tr : ∀ a b c : List Nat, ltCps a b = true → ltCps b c = true → ltCps a c = true
  | a, b, [], _, h => by cases b <;> simp [ltCps] at h
  | [], _, _ :: _, _, _ => rfl
  | x :: r, [], _ :: _, h, _ => by cases h
  | x :: r, y :: t, z :: u, h, g => by
    simp [ltCps] at h g ⊢
    rcases h with h | ⟨rfl, h⟩
    · rcases g with g | ⟨rfl, g⟩
      · left
        omega
      · exact .inl h
    · rcases g with g | ⟨rfl, g⟩
      · exact .inl g
      · exact .inr ⟨rfl, lt_tr r t u h g⟩
def ltS (x y : Str) : Bool := ltCps x.cps.toList y.cps.toList
theorem ltS_irr (x : Str) : ltS x x = false := lt_irr _
theorem ltS_tri {x y : Str} (h : ltS x y = false) (g : ltS y x = false) : x = y := by
  have e := lt_tri _ _ h g
  obtain ⟨⟨a⟩⟩ := x
  obtain ⟨⟨b⟩⟩ := y
  have e : a = b := e
  rw [e]
theorem ltS_tr {x y z : Str} (h : ltS x y = true) (g : ltS y z = true) : ltS x z = true := lt_tr _ _ _ h g
theorem rising_all : ∀ (r : List Str) (p : Str), risingS p r = true → ∀ y ∈ r, ltS y p = false
  | [], _, _, _, hy => by cases hy
  | x :: r, p, h, y, hy => by
    unfold risingS at h
    rw [Bool.and_eq_true, Bool.not_eq_true'] at h
    have hx : ltS x p = false := h.1
    rcases List.mem_cons.mp hy with e | hy
    · rw [e]
      exact hx
    · have g := rising_all r x h.2 y hy
      cases c : ltS y p with
      | false => rfl
      | true =>
        cases d : ltS p x with
        | true =>
          rw [ltS_tr c d] at g
          cases g
        | false =>
          rw [ltS_tri d hx, g] at c
          cases c
abbrev Up (l : List Str) : Prop := l.Pairwise fun x y => ltS x y = true
theorem up_rising : ∀ (r : List Str) (p : Str), risingS p r = true → (p :: r).Nodup → Up (p :: r)
  | [], p, _, _ => .cons (fun _ h => nomatch h) .nil
  | x :: r, p, h, nd => by
    have all := rising_all _ _ h
    have h2 := h
    unfold risingS at h2
    rw [Bool.and_eq_true] at h2
    have n := List.nodup_cons.mp nd
    refine .cons (fun y hy => ?_) (up_rising r x h2.2 n.2)
    cases c : ltS p y with
    | true => rfl
    | false => exact absurd hy (by rw [← ltS_tri c (all y hy)]; exact n.1)
theorem up_of {l : List Str} (h : sortedS l = true) (nd : l.Nodup) : Up l := by
  cases l with
  | nil => exact .nil
  | cons x r => exact up_rising r x h nd
theorem up_eq : ∀ {l m : List Str}, Up l → Up m → (∀ y, y ∈ l ↔ y ∈ m) → l = m
  | [], [], _, _, _ => rfl
  | [], x :: _, _, _, h => absurd ((h x).mpr List.mem_cons_self) (fun z => nomatch z)
  | x :: _, [], _, _, h => absurd ((h x).mp List.mem_cons_self) (fun z => nomatch z)
  | x :: r, y :: t, .cons a1 a2, .cons b1 b2, h => by
    have e : x = y := by
      rcases List.mem_cons.mp ((h x).mp List.mem_cons_self) with e | e
      · exact e
      · rcases List.mem_cons.mp ((h y).mpr List.mem_cons_self) with g | g
        · exact g.symm
        · have := ltS_tr (a1 y g) (b1 x e)
          rw [ltS_irr] at this
          cases this
    subst e
    congr 1
    refine up_eq a2 b2 fun z => ⟨fun hz => ?_, fun hz => ?_⟩
    · rcases List.mem_cons.mp ((h z).mp (List.mem_cons_of_mem _ hz)) with g | g
      · have := a1 z hz
        rw [g, ltS_irr] at this
        cases this
      · exact g
    · rcases List.mem_cons.mp ((h z).mpr (List.mem_cons_of_mem _ hz)) with g | g
      · have := b1 z hz
        rw [g, ltS_irr] at this
        cases this
      · exact g
/-- a text comes to its place -/
def insX (k : Str) : List Str → List Str
  | [] => [k]
  | x :: r => if k = x then x :: r else if ltS k x = true then k :: x :: r else x :: insX k r
/-- the texts ascending, each once -/
def upW (xs : List Str) : List Str := xs.foldr insX []
theorem mem_ins {k y : Str} : ∀ {l : List Str}, y ∈ insX k l ↔ y = k ∨ y ∈ l
  | [] => by simp [insX]
  | x :: r => by
    unfold insX
    split
    · rename_i e
      subst e
      simp
    · split
      · simp
      · rw [List.mem_cons, mem_ins, List.mem_cons]
        constructor
        · rintro (h | h | h)
          · exact .inr (.inl h)
          · exact .inl h
          · exact .inr (.inr h)
        · rintro (h | h | h)
          · exact .inr (.inl h)
          · exact .inl h
          · exact .inr (.inr h)
theorem up_ins {k : Str} : ∀ {l : List Str}, Up l → Up (insX k l)
  | [], _ => .cons (fun _ h => nomatch h) .nil
  | x :: r, .cons a b => by
    unfold insX
    split
    · exact .cons a b
    · rename_i ne
      split
      · rename_i h
        exact .cons (fun y hy => by
          rcases List.mem_cons.mp hy with e | hy
          · rw [e]
            exact h
          · exact ltS_tr h (a y hy)) (.cons a b)
      · rename_i h
        refine .cons (fun y hy => ?_) (up_ins b)
        rcases mem_ins.mp hy with e | hy
        · subst e
          cases c : ltS x y with
          | true => rfl
          | false => exact absurd (ltS_tri (by simpa using h) c) ne
        · exact a y hy
theorem up_upW : ∀ xs : List Str, Up (upW xs)
  | [] => .nil
  | _ :: r => up_ins (up_upW r)
theorem mem_upW {y : Str} : ∀ {xs : List Str}, y ∈ upW xs ↔ y ∈ xs
  | [] => by simp [upW]
  | x :: r => by
    show y ∈ insX x (upW r) ↔ _
    rw [mem_ins, mem_upW, List.mem_cons]
theorem sorted_upW {xs ys zs : List Str} (g : Same1 xs ys) (pm : zs.Perm ys) (so : sortedS zs = true) : zs = upW xs :=
  up_eq (up_of so (pm.nodup_iff.mpr g.1)) (up_upW xs) fun y => by rw [pm.mem_iff, g.2.1, mem_upW]
section
variable {P : Program} {w : World} {A : Around} {E : Value → Shared → Prop} {s : Shared} {a : Addr} {xs : List Str}
theorem strs_x : ∀ (l : List (Int × Value)), (∀ e ∈ l, IsX w e) → ∀ vs, vs.Perm (l.map (·.2)) → ∃ ys, StrsAre vs ys ∧ ys.Perm (l.map txt) := by
  intro l hl vs
  have one : ∀ us : List Value, (∀ v ∈ us, ∃ k u, v = Value.str k u) → StrsAre us (us.map fun v => txt (0, v)) := by
    intro us
    induction us with
    | nil => exact fun _ => .nil
    | cons v us ih =>
      intro h
      obtain ⟨k, u, rfl⟩ := h v List.mem_cons_self
      exact .cons k u (ih fun x hx => h x (List.mem_cons_of_mem _ hx))
  intro pm
  refine ⟨_, one vs fun v hv => ?_, ?_⟩
  · obtain ⟨e, he, rfl⟩ := List.mem_map.mp (pm.mem_iff.mp hv)
    obtain ⟨k, u, rfl⟩ := hl e he
    exact ⟨k, u, rfl⟩
  · have := pm.map fun v => txt (0, v)
    rw [List.map_map] at this
    exact this
/-- sorted(set) -/
theorem sorted_x {Q : Value → Shared → Prop} (R : TxS w s.heap a xs) (hh : A.handled = none)
    (q : ∀ s' p (out : Array Value) (c : Nat) (zs : List Str), (∀ b o, s.heap.get? b = some o → s'.heap.get? b = some o) → s'.gens = s.gens → s'.os = s.os → s.heap.objs.size ≤ p → s'.heap.get? p = some (seqObj "list" out c) → StrsAre out.toList zs → zs.Perm xs → sortedS zs = true → Q (.ref p) s') :
    wpAny (model P w) A (call (.builtin "sorted") [.ref a]) Q E s := by
  obtain ⟨o, es, ep, t, ho, hex, hd, g, pm, nd, few, hf, hr, hl⟩ := R
  have size : es.size = xs.length := by
    have := pm.length_eq
    rw [List.length_map, Array.length_toList] at this
    exact this
  refine Calls.call_function_entry kind_sorted plain_sorted entry_sorted (args_sorted1 _) ?_
  unfold Builtin.«sorted»
  refine wpAny_bind (m := checkCount "sorted" 1 1 _) (wpAny_pure ?_)
  refine wpAny_bind (collect_set (A := A.in1) hh ⟨o, ho, hex.1, hd⟩ hf (by unfold scanBound; omega) hr hl fun s1 vs k1 hz g1 o1 p1 => ?_)
  obtain ⟨ys, st, py⟩ := strs_x es.toList g vs p1
  have len : vs.length < 64 := by
    rw [p1.length_eq, List.length_map, Array.length_toList, size]
    exact few
  refine wpAny_bind (wpAny_newList ?_ (by rw [sizeLine_eq]; omega))
  have hoL : (s1.heap.push (seqObj "list" vs.toArray 0)).get? s1.heap.objs.size = some (seqObj "list" vs.toArray 0) := Heap.get?_push_size _ rfl
  refine wpAny_bind (wpAny_holding (wpAny_call_entry slot_list_sort ⟨_, hoL, rfl⟩ entry_list_sort (list_sort_treeK strKind_oneLt hoL st.keysOf (fun v₁ v₂ rest e => keyKind_strs (by rw [← e]; exact st)) len fun st' a1 a2 => ⟨_, rfl, ?_⟩) (args_list_sort _)))
  obtain ⟨zs, z1, z2, z3⟩ := sorted_out_str st a1 a2
  obtain ⟨c, hc⟩ := sortedHeap_at (vs := vs) (out := (arrOf st').map (·.2)) hoL
  refine wpAny_pure ⟨_, rfl, q _ s1.heap.objs.size _ c zs (fun b u e => ?_) g1 o1 hz hc z1 (z2.trans (py.trans pm)) z3⟩
  have hq := k1 b u e
  have hlt := Heap.lt_size hq
  show (sortedHeap (s1.heap.push (seqObj "list" vs.toArray 0)) s1.heap.objs.size vs _).get? b = some u
  rw [sortedHeap_old (Nat.ne_of_lt hlt) (by rw [size_push']; exact Nat.lt_succ_of_lt hlt)]
  exact Heap.get?_push_of_some _ hq
end
theorem strs_get : ∀ {us : List Value} {xs : List Str} {i : Nat} {v : Value}, StrsAre us xs → us[i]? = some v → ∃ k u, xs[i]? = some k ∧ v = Value.str k u
  | _, _, _, _, .nil, h => by simp at h
  | _, _, 0, _, .cons k u _, h => by
    simp at h
    exact ⟨k, u, rfl, h.symm⟩
  | _, _, i + 1, _, .cons _ _ t, h => by
    obtain ⟨k, u, e1, e2⟩ := strs_get (i := i) t (by simpa using h)
    exact ⟨k, u, by simpa using e1, e2⟩
def SetX (w : World) (a : Addr) (xs : List Str) : HO := .ext fun h => TxS w h a xs
section
variable {X : Cx}
theorem setX_ok {P : Program} {w : World} {H : Hp} {h : Heap} {a : Addr} {xs : List Str} (R : TxS w h a xs) : ObjOk P w H h a (SetX w a xs) := by
  have ⟨o, _, _, _, ho, _⟩ := R
  exact ⟨R, ⟨o, ho⟩, fun h1 h2 p k => p.at k⟩
def rSetX (K : PySem.W.Frag) (w : World) : List V → Hp → VK → Prop := fun vs H Q => ∃ (l : Addr) (xs : List Str), vs = [V.ref l] ∧ SqT K H l (xs.map V.str) ∧ xs.length < 64 ∧ ∀ a ys, H a = none → Same1 xs ys → Q (.ref a) (upd H a (SetX w a ys))
theorem cr_setX (hc : X.calm = true) : CallR X (.type "set") (rSetX X.K X.w) := by
  intro pins s σ H vs us Q I r h
  obtain ⟨l, xs, rfl, hl, few, q⟩ := h
  rw [Vals.ref1 r]
  obtain ⟨its, rv, pl, hz⟩ := I.tuple hl
  have st := rv.strs
  have hn : H s.heap.objs.size = none := I.hok.fresh (Nat.le_refl _)
  refine make_x (P := X.prog) (w := X.w) xs (I.ok.hd hc) pl (fun i v hv => ?_) (by rw [List.size_toArray, st.length]) few fun h' tk ys R g k => ?_
  · exact strs_get st (by simpa using hv)
  · exact ⟨.ref s.heap.objs.size, upd H s.heap.objs.size (SetX X.w s.heap.objs.size ys), I.laid (t' := tk) k (Nat.le_refl _) (setX_ok R), rfl, q _ ys hn g⟩
def rSortedX (w : World) : List V → Hp → VK → Prop := fun vs H Q => ∃ (a : Addr) (xs : List Str), vs = [V.ref a] ∧ H a = some (SetX w a xs) ∧ ∀ (zs : List Str) (p : Addr), zs.Perm xs → sortedS zs = true → H p = none → Q (.ref p) (upd H p (.lst (zs.map V.str)))
theorem cr_sortedX (hc : X.calm = true) : CallR X (.builtin "sorted") (rSortedX X.w) := by
  intro pins s σ H vs us Q I r h
  obtain ⟨a, xs, rfl, ha, q⟩ := h
  have R : TxS X.w s.heap a xs := (I.hok a _ ha).1
  have few : xs.length < 64 := by
    obtain ⟨_, _, _, _, _, _, _, _, _, _, f, _⟩ := R
    exact f
  rw [Vals.ref1 r]
  refine sorted_x R (I.ok.hd hc) fun s' p out c zs k g o hp hg st pm so => ?_
  have len : (zs.map V.str).length ≤ sizeLine := by
    rw [List.length_map, pm.length_eq, sizeLine_eq]
    omega
  have hn : H p = none := I.hok.fresh hp
  have J : Inv X pins σ (upd H p (.lst (zs.map V.str))) { s with heap := s'.heap, gens := s'.gens, drawn := s'.drawn, toks := s'.toks } :=
    I.call (ch := []) (Un.laid k hp hn) (I.hok.laid k hp ⟨len, out.toList, c, vals_of_strs st, hg⟩) (by rw [g]; exact I.bare) (fun _ z => nomatch z)
  have e : s' = { s with heap := s'.heap, gens := s'.gens, drawn := s'.drawn, toks := s'.toks } := by
    cases s'
    cases s
    cases o
    rfl
  rw [e]
  exact ⟨.ref p, _, J, rfl, q zs p pm so hn⟩
end
end Ts

namespace Sc
open PySem L2 PySem.Spec PyProof.Rows Lm
/-! ### programs: joined -/
abbrev sJoined : Stmt := top 45
theorem scJoined : FnScope ["wakes", "more"] ["wakes", "more"] (defScope sJoined) := ⟨rfl, rfl, rfl, by decide +kernel, rfl, by decide +kernel, by decide +kernel⟩
def joinW (xs ys : List Str) : List Str := Ts.upW (xs ++ ys)
def spJoined (K : PySem.W.Frag) : Sp := fun vs H Q _ => ∃ (a b : Addr) (xs ys : List Str), vs = [.ref a, .ref b] ∧ SqT K H a (xs.map V.str) ∧ SqT K H b (ys.map V.str) ∧ xs.length + ys.length < 64 ∧
  ∀ p H', Same H H' → H' p = some (.tup ((joinW xs ys).map V.str)) → Q (.ref p) H'
section
variable {P : Program} {w : World} {K : PySem.W.Frag} {mg : Str → Option Value} {base : Heap}
theorem ok_joined {f : Addr} {fd : FuncData} (G : Fun K "joined" "joined" sJoined f fd) (T : NatR mg) : FnOk P w K mg base CX0 1 f fd ["wakes", "more"] (spJoined K) := by
  refine G.ok scJoined (fun vs H Q E h => ?_) (fun cdv A outer s H vs Q E hr h => ?_)
  · obtain ⟨a, b, xs, ys, rfl, _⟩ := h
    rfl
  · obtain ⟨a, b, xs, ys, rfl, ha, hb, few, q⟩ := h
    refine ⟨_, pss_one (ps_ret (pe_callTy call_tuple_of (by rfl) T.tuple (by decide +kernel) (pa_cons (pe_callB (Ts.cr_sortedX rfl) (by rfl) T.sorted (by decide +kernel) (pa_cons (pe_callTy (Ts.cr_setX rfl) (by rfl) T.set (by decide +kernel) (pa_cons (pe_op op_catA (pv 0) (pv 1)) pa_nil)) pa_nil)) pa_nil))), ?_⟩
    have go : ∀ (c : Addr) (H1 : Hp), Same H H1 → SqT K H1 c ((xs ++ ys).map V.str) → tCB (fun vs H Q => ∃ p ys, vs = [.ref p] ∧ ((SqL K H p ys ∧ ∀ l, H l = none → Q (.ref l) (upd H l (.tup ys))) ∨ (SqT K H p ys ∧ Q (.ref p) H))) (tCons (tCB (Ts.rSortedX w) (tCons (tCB (Ts.rSetX K w) (tCons (fun _ _ R => R (.ref c) H1) tNil)) tNil)) tNil) [] H Q := by
      intro c H1 s1 hc
      refine cb_go (cons_go (cb_go (cons_go (cb_go (cons_go ?_)))))
      refine ⟨c, xs ++ ys, rfl, hc, by rw [List.length_append]; exact few, fun z ks hz g => ?_⟩
      refine ⟨z, ks, rfl, upd_same, fun zs p pm so hp => ?_⟩
      refine ⟨p, zs.map V.str, rfl, .inl ⟨.inl (.inl upd_same), fun l hl => ?_⟩⟩
      rw [Ts.sorted_upW g pm so] at hl ⊢
      have s2 := same_new (o := Ts.SetX w z ks) hz
      have s3 := same_new (o := .lst ((Ts.upW (xs ++ ys)).map V.str)) hp
      have s4 := same_new (o := .tup ((Ts.upW (xs ++ ys)).map V.str)) hl
      exact q l _ (((s1.trans s2).trans s3).trans s4) upd_same
    have sz : (xs.map V.str).length + (ys.map V.str).length ≤ sizeLine := by
      rw [List.length_map, List.length_map, sizeLine_eq]
      omega
    refine ret_go ?_
    refine cb_go (cons_go (cb_go (cons_go (cb_go (cons_go (op_go ⟨_, rfl, _, rfl, ?_⟩))))))
    refine ⟨a, b, _, _, rfl, rfl, ha, hb, sz, fun e => ?_, fun _ e => ?_, fun _ _ p hp => ?_⟩
    · have e : xs = [] := by simpa using e
      subst e
      exact go b H (Same.refl H) hb
    · have e : ys = [] := by simpa using e
      subst e
      exact go a H (Same.refl H) (by rw [List.append_nil]; exact ha)
    · exact go p _ (same_new hp) (.inl (.inl (by rw [upd_same, List.map_append])))
end
end Sc

namespace Sc
open PySem L2 PySem.Spec PyProof.Rows Lm
/-! ### t.index(x), t a tuple whose object is known -/
def TupF (H : Hp) (a : Addr) (xs : List V) : Prop := ∃ o, H a = some (.frz o (.tup xs)) ∧ o.dict = none
theorem TupF.sq {K : PySem.W.Frag} {H : Hp} {a : Addr} {xs : List V} (h : TupF H a xs) : SqT K H a xs := by
  obtain ⟨o, h, _⟩ := h
  exact .inl (.inr ⟨o, h⟩)
theorem TupF.same {H H' : Hp} {a : Addr} {xs : List V} (h : TupF H a xs) (s : Same H H') : TupF H' a xs := by
  obtain ⟨o, h, d⟩ := h
  exact ⟨o, s _ _ h, d⟩
def rIxF (K : PySem.W.Frag) : V → List V → Hp → VK → Prop := fun x xs H Q => ∃ p, ∃ ys : List Str, ∃ z j, x = .ref p ∧ xs = [.str z] ∧ SqT K H p (ys.map V.str) ∧ ys[j]? = some z ∧ (∀ m, m < j → ys[m]? ≠ some z) ∧ Q (.int (j : Nat)) H
def tIxF (K : PySem.W.Frag) (te : TE) (t : L2.TA) : TE := fun σ H Q => te σ H fun x H1 => (∃ a xs, x = V.ref a ∧ TupF H1 a xs) ∧ t σ H1 fun xs H2 => rIxF K x xs H2 Q
theorem ixF_go {K : PySem.W.Frag} {te : TE} {t : L2.TA} {σ : L2.St} {H : Hp} {Q : VK} (h : te σ H fun x H1 => (∃ a xs, x = V.ref a ∧ TupF H1 a xs) ∧ t σ H1 fun xs H2 => rIxF K x xs H2 Q) : tIxF K te t σ H Q := h
section
variable {X : Cx} {o e : Expr} {es : List Expr} {to : TE} {t : L2.TA} {apos cpos : Pos}
theorem pe_ixF (ho : PE X o to) (ha : PA X (e :: es) t)
    (base : attributeBase o "index" X.env (eval o X.env) = eval o X.env := by rfl)
    (few : ((backTo cpos (starEach (e :: es) X.env)).all (fun x => !x.1) && (backToKw cpos (keywordEach [] X.env)).all (fun x => x.1.isSome)
      && decide ((e :: es).length + ([] : List Keyword).length + (if ([] : List Keyword).isEmpty then 0 else 1) < 30)) = true := by rfl)
    (line : (apos.endLine == cpos.line) = true := by rfl) (hs : starEach (e :: es) X.env = (false, eval e X.env) :: starEach es X.env := by rfl) (plain : (backTo cpos (starEach es X.env)).any (·.1) = false := by rfl) :
    PE X (.Call (.Attribute o "index" apos) (e :: es) [] cpos) (tIxF X.K to t) := by
  refine ⟨fun pins s σ H Q I h => ?_⟩
  refine wpAny_Call_method_late base few line rfl (thn (ho.run pins s σ H _ I h) fun v s1 ⟨x, H1, I1, r1, ty, q1⟩ => ?_)
  obtain ⟨a, xs, rfl, ob, hka, nd⟩ := ty
  have ok : s1.heap.get? a = some ob ∧ ObjOk X.prog X.w H1 s1.heap a (.tup xs) := I1.hok a _ hka
  obtain ⟨hget, hz, its, rv, ot, hot, hcl, _⟩ := ok
  cases r1
  refine ⟨"tuple", "tuple.index", F.plainAttrs_tuple, F.slot_tuple_index, F.type_tuple_index, ⟨ot, hot, hcl⟩, fun b eb => ?_, ?_⟩
  · injection eb with eb
    subst eb
    exact ⟨ob, hget, nd⟩
  have hA := ha.run cpos pins s1 σ H1 _ I1 q1
  rw [hs] at hA ⊢
  refine Calls.callWith_builtin (by show (false || (backTo cpos (starEach es X.env)).any (·.1)) = false; rw [plain] <;> rfl) (Calls.evalArgs_plain ?_)
  exact thn hA fun us s2 ⟨vs, H2, I2, r2, q2⟩ => mt_tup_index pins s2 σ H2 (.ref a) vs (.ref a) us Q I2 rfl r2 q2
end
/-! ### tuple(d), d a dict by texts -/
section
variable {prog : Program} {w : World} {A : Around} {E : Value → Shared → Prop} {s : Shared} {T : String} {r d : Addr} {n : Nat} {Pv : Nat → Value → Prop} {OK : Heap → Prop}
theorem collect_src {Q : List Value → Shared → Prop} (src : PySem.W.KdlSrc prog w T r d n Pv OK) (hh : A.handled = none) (ok : OK s.heap) (hn : n ≤ sizeLine)
    (q : ∀ (h' : Heap) (tk : Nat) (acc : Array Value), (∀ b o, s.heap.get? b = some o → h'.get? b = some o) → ItemsOf Pv acc n → Q acc.toList { s with heap := h', toks := tk }) : wpAny (model prog w) A (collect (.ref r)) Q E s := by
  unfold collect
  refine wpAny_bind (wpAny_runValue (codeAny_builtin F.entry_proto_collect ?_))
  rw [Around.under_plainId F.plain_proto_collect _]
  show wpAny _ A.in1 (newList [] >>= fun l => again (.builtin "list.__iadd__" ⟨[l, .ref r], []⟩)) _ _ s
  refine wpAny_bind (wpAny_newObj_type ?_)
  refine wpAny_pure ⟨plainId_quiet F.plain_list_iadd _, codeAny_builtin F.entry_list_iadd ?_⟩
  rw [Around.under_plainId F.plain_list_iadd _]
  show wpAny _ A.in1 (Builtin.List.listExtendWith (.ref s.heap.objs.size) (.ref r) (.ref s.heap.objs.size)) _ _ _
  have hS : (s.heap.push { cls := .type "list", data := .seq ([] : List Value).toArray }).get? s.heap.objs.size = some { cls := .type "list", data := .seq #[] 0 } := Heap.get?_push_size _ rfl
  have lt := src.there _ ok
  refine wpAny_mono (PySem.W.kdl_extend (A := A) (R := fun rr s' => rr = .ok (.ret (.ref s.heap.objs.size)) ∧ ∃ (h' : Heap) (tk : Nat) (acc : Array Value) (c' : Nat), s' = { s with heap := h', toks := tk } ∧
      (∀ b o, s.heap.get? b = some o → h'.get? b = some o) ∧ h'.get? s.heap.objs.size = some { cls := .type "list", dict := none, data := .seq acc c', slots := #[] } ∧ ItemsOf Pv acc n)
    (s := { s with heap := s.heap.push { cls := .type "list", data := .seq ([] : List Value).toArray } }) src hh (src.keep _ _ ok fun b _ o e => Heap.get?_push_of_some _ e) s.heap.objs.size (Nat.ne_of_gt lt.1) (Nat.ne_of_gt lt.2) _ 0 hS
    (fun h' tk acc c' hk e hi => ⟨rfl, h', tk, acc, c', rfl, fun b o z => hk b o (Nat.ne_of_lt (Heap.lt_size z)) (Heap.get?_push_of_some _ z), e, hi⟩) hn) (fun fin s' h => ?_) (fun e s' h => ?_)
  · cases fin with
    | done f =>
      obtain ⟨e, h', tk, acc, c', rfl, hk, hS', hi⟩ := h
      cases e
      show wpAny _ A (load s.heap.objs.size >>= _) _ _ _
      exact wpAny_bind (wpAny_load hS' (wpAny_pure (q h' tk acc hk hi)))
    | again c' =>
      refine ⟨h.1, codeAny_mono h.2 fun rr s'' hr' => ?_⟩
      obtain ⟨rfl, h', tk, acc, c', rfl, hk, hS', hi⟩ := hr'
      show wpAny _ A (load s.heap.objs.size >>= _) _ _ _
      exact wpAny_bind (wpAny_load hS' (wpAny_pure (q h' tk acc hk hi)))
  · exact absurd h.1 (by simp)
theorem new_src {Q₁ : Value → Shared → Prop} (src : PySem.W.KdlSrc prog w "dict" r d n Pv OK) (hh : A.handled = none) (ok : OK s.heap) (hn : n ≤ sizeLine)
    (q : ∀ (h' : Heap) (tk : Nat) (acc : Array Value), (∀ b o, s.heap.get? b = some o → h'.get? b = some o) → ItemsOf Pv acc n → Q₁ (.ref h'.objs.size) { s with heap := h'.push { cls := .type "tuple", data := .seq acc }, toks := tk }) :
    codeAny (model prog w) A (.call (.builtin "tuple.__new__") ⟨[.type "tuple", .ref r], []⟩) (wants Q₁ E) s := by
  refine codeAny_of_tree ?_
  show wpAny _ A.in1 (do checkBuiltinCall "tuple.__new__" ⟨[.type "tuple", .ref r], []⟩; again (.builtin "tuple.__new__" ⟨[.type "tuple", .ref r], []⟩)) _ _ s
  refine wpAny_bind (wpAny_of_eq (F.newCall_tuple_1 _) (wpAny_pure ⟨plainId_quiet F.plain_tuple_new _, codeAny_builtin F.entry_tuple_new ?_⟩))
  rw [Around.under_plainId F.plain_tuple_new _]
  have hsub := sub_tuple_self
  have hinit := init_tuple_lookup
  have hmh := madeHere_tuple
  have hTI : s.TypeIs (.ref r) "dict" := src.type s ok
  have hh1 : A.in1.handled = none := hh
  wp_walk using wpAny_typeOf hTI, collect_src (A := A.in1) src hh1 ok hn
  intro h' tk acc hk hacc
  show wpAny _ _ (Builtin.Tuple.tupleExact acc.toList.toArray >>= fun v => ret v) _ _ _
  unfold Builtin.Tuple.tupleExact
  refine wpAny_bind (wpAny_newObj_type ?_ (by show acc.toList.toArray.size ≤ sizeLine; simp only [Array.toArray_toList]; rw [hacc.1]; exact hn))
  refine wpAny_pure ?_
  have e : acc.toList.toArray = acc := by simp
  rw [e]
  exact q h' tk acc hk hacc
end
def rTupD : List V → Hp → VK → Prop := fun vs H Q => ∃ (a : Addr) (ks : List (Key × V)), vs = [.ref a] ∧ H a = some (.dK ks) ∧ ∀ p H', H p = none → Same H H' → TupF H' p (ks.map fun q => kV q.1) → Q (.ref p) H'
section
variable {X : Cx}
theorem call_tupD (hc : X.calm = true) : CallR X (.type "tuple") rTupD := by
  intro pins s σ H vs us Q I r h
  obtain ⟨a, kvs, rfl, ha, q⟩ := h
  rw [Vals.ref1 r]
  obtain ⟨z, lo, vs, rel, dd⟩ := dk_of I.hok ha
  obtain ⟨ep, hat⟩ := dd.dictAt
  have hz : vs.length ≤ sizeLine := by
    rw [← rel.length]
    exact z
  have ek : (kvs.map fun kv => kV kv.1) = vs.map fun p => kV p.1 := by
    have e := congrArg (List.map kV) rel.keys
    rw [List.map_map, List.map_map] at e
    exact e
  refine callType_codes (Q₁ := fun obj s₁ => s₁.TypeIs obj "tuple" ∧ EP X pins σ Q obj s₁) F.called_tuple (F.typeCall_tuple_1 _) F.entry_object_init
    (new_src (A := X.A.in1) (PySem.W.kdl_dict (knd := mixKind X.prog X.w) (kvs := vs) (ep := ep) lo) (I.ok.hd hc) hat hz fun h' tk acc hk hacc => ⟨⟨_, Heap.get?_push_size _ rfl, rfl⟩, ?_⟩) fun obj s₁ h₁ => ?_
  · have hv : Vals (vs.map fun p => kV p.1) acc.toList := keys_at (by rw [Array.length_toList]; exact hacc.1) fun j v e => hacc.2 j v (by rw [← Array.getElem?_toList]; exact e)
    have I1 : Inv X pins σ H { s with heap := h', toks := tk } := I.kept hk
    have hn : H h'.objs.size = none := I1.hok.fresh (Nat.le_refl _)
    have new : ObjOk X.prog X.w (upd H h'.objs.size (.frz { cls := .type "tuple", data := .seq acc } (.tup (kvs.map fun q => kV q.1)))) (h'.push { cls := .type "tuple", data := .seq acc }) h'.objs.size (.frz { cls := .type "tuple", data := .seq acc } (.tup (kvs.map fun q => kV q.1))) := by
      refine ⟨Heap.get?_push_size _ rfl, by rw [List.length_map]; exact z, acc.toList, by rw [ek]; exact hv, ?_⟩
      rw [Array.toArray_toList]
      exact IsTup.new _ _
    exact ⟨.ref h'.objs.size, _, I1.laid (t' := tk) (fun b u e => Heap.get?_push_of_some _ e) (Nat.le_refl _) new, rfl, q _ _ hn (same_new hn) ⟨_, upd_same, rfl⟩⟩
  · exact ⟨h₁.1, F.args_object_init_2 obj _, object_init_meets F.called_tuple.init.lookup F.called_tuple.made (by decide) X.prog X.w X.A.in1 _ s₁ ⟨h₁.1, rfl, h₁.2⟩⟩
end
end Sc

namespace Sc
open PySem L2 PySem.Spec PyProof.Rows Lm
/-! ### a release as programs see it -/
structure Re where
  r : Addr
  rx : Addr
  text : Str
  cells : Addr
  packages : Addr
  sets : Addr
  words : Addr
  owned : Addr
  triggers : Addr
  parts : Addr
  homes : Addr
  members : Addr
def Re.fields (x : Re) : List (Str × V) := [("text", .str x.text), ("cells", .ref x.cells), ("packages", .ref x.packages), ("sets", .ref x.sets), ("words_of", .ref x.words), ("owned", .ref x.owned), ("triggers", .ref x.triggers), ("parts", .ref x.parts), ("homes", .ref x.homes), ("members", .ref x.members)]
def reNames : List Str := ["text", "cells", "packages", "sets", "words_of", "owned", "triggers", "parts", "homes", "members"]
theorem Re.lk_cells (x : Re) : x.fields.lookup ("cells" : Str) = some (V.ref x.cells) := by rfl
theorem Re.lk_words (x : Re) : x.fields.lookup ("words_of" : Str) = some (V.ref x.words) := by rfl
theorem Re.lk_triggers (x : Re) : x.fields.lookup ("triggers" : Str) = some (V.ref x.triggers) := by rfl
structure Re.At (x : Re) (C : Addr) (cm : List (Str × List Str)) (tr : List Str) (H : Hp) : Prop where
  obj : H x.r = some (.ins C x.rx x.fields)
  cells : TupF H x.cells ((cm.map (·.1)).map V.str)
  words : ∃ ks, H x.words = some (.dK ks) ∧ DictAt (WordsTup H) ks cm
  wok : WordsOk cm
  trig : H x.triggers = some (.tup (tr.map V.str))
  few : cm.length ≤ 100
theorem WordsTup.same {H H' : Hp} (s : Same H H') {v : V} {ws : List Str} (h : WordsTup H v ws) : WordsTup H' v ws := by
  obtain ⟨p, e, hp⟩ := h
  exact ⟨p, e, s _ _ hp⟩
theorem DictAt.imp {β : Type} {R R' : V → β → Prop} (f : ∀ v b, R v b → R' v b) : ∀ {rs : List (Key × V)} {qs : List (Str × β)}, DictAt R rs qs → DictAt R' rs qs
  | [], [], _ => True.intro
  | _ :: _, _ :: _, ⟨⟨e, h⟩, b⟩ => ⟨⟨e, f _ _ h⟩, DictAt.imp f b⟩
  | [], _ :: _, z => z.elim
  | _ :: _, [], z => z.elim
theorem Re.At.same {x : Re} {C : Addr} {cm : List (Str × List Str)} {tr : List Str} {H H' : Hp} (h : x.At C cm tr H) (s : Same H H') : x.At C cm tr H' := by
  obtain ⟨ks, e, d⟩ := h.words
  exact ⟨s _ _ h.obj, h.cells.same s, ⟨ks, s _ _ e, d.imp fun _ _ z => z.same s⟩, h.wok, s _ _ h.trig, h.few⟩
theorem fld_re {K : PySem.W.Frag} {C : Addr} {x : Re} {cm : List (Str × List Str)} {tr : List Str} {i : Nat} {σ : L2.St} {H : Hp} {Q : VK} {f : Str} {v : V} (O : Own K C reNames) (hx : x.At C cm tr H) (hs : σ[i]? = some (some (.ref x.r))) (hf : f ∈ reNames) (hl : x.fields.lookup f = some v) (q : Q v H) : tFld K (tVar i) f σ H Q :=
  ⟨_, hs, x.r, C, x.rx, _, v, rfl, hx.obj, O.cl, O.no f hf, hl, q⟩
theorem name_go {i : Nat} {v : V} {σ : L2.St} {H : Hp} {Q : L2.St → Hp → Prop} (h : Q (σ.set i (some v)) H) : gName i v σ H Q := h
theorem asg_go {te : TE} {g : TG} {D : Ends} {σ : L2.St} {H : Hp} (h : te σ H fun x H1 => g x σ H1 fun σ2 H2 => D.nx σ2 H2) : tAsg te g D σ H := h
theorem tup_go {t : L2.TA} {σ : L2.St} {H : Hp} {Q : VK} (h : t σ H fun xs H1 => xs.length ≤ sizeLine ∧ ∀ p, H1 p = none → Q (.ref p) (upd H1 p (.tup xs))) : tTup t σ H Q := h
theorem sl_go {r : V → Option Int → Option Int → Hp → VK → Prop} {te : TE} {tl th : TO} {σ : L2.St} {H : Hp} {Q : VK} (h : te σ H fun x H1 => tl σ H1 fun l H2 => th σ H2 fun u H3 => r x l u H3 Q) : tSl r te tl th σ H Q := h
/-! ### words and wakes -/
def ixS (names : List Str) (c : Str) : Nat := (names.findIdx? fun y => y == c).getD 0
theorem ixS_at {names : List Str} {c : Str} (h : c ∈ names) : names[ixS names c]? = some c ∧ (∀ m, m < ixS names c → names[m]? ≠ some c) := by
  unfold ixS
  cases e : names.findIdx? fun y => y == c with
  | none =>
    exfalso
    have := List.findIdx?_eq_none_iff.mp e c h
    simp at this
  | some i =>
    obtain ⟨hi, h1, h2⟩ := List.findIdx?_eq_some_iff_getElem.mp e
    refine ⟨?_, fun m hm hz => ?_⟩
    · rw [Option.getD_some, List.getElem?_eq_getElem hi, eq_of_beq h1]
    · obtain ⟨hl, hz⟩ := List.getElem?_eq_some_iff.mp hz
      have := h2 m hm
      rw [hz] at this
      simp at this
theorem ixS_lt {names : List Str} {c : Str} (h : c ∈ names) : ixS names c < names.length := (List.getElem?_eq_some_iff.mp (ixS_at h).1).1
def StAt (H : Hp) (v : V) (st : List Str × List Str) : Prop := ∃ p a b, v = .ref p ∧ H p = some (.tup [.ref a, .ref b]) ∧ H a = some (.tup (st.1.map V.str)) ∧ H b = some (.tup (st.2.map V.str))
theorem StAt.same {H H' : Hp} {v : V} {st : List Str × List Str} (h : StAt H v st) (s : Same H H') : StAt H' v st := by
  obtain ⟨p, a, b, e, h1, h2, h3⟩ := h
  exact ⟨p, a, b, e, s _ _ h1, s _ _ h2, s _ _ h3⟩
def putW (ws : List Str) (i : Nat) (w : Str) : List Str := ws.take i ++ [w] ++ ws.drop (i + 1)
/-- a set, a copy or a wake that may stand there -/
def goodCmd (names : List Str) (c : List Str) : Bool :=
  if c.getD 0 "" == ("wake" : Str) then c.length == 2 else if c.getD 0 "" == ("copy" : Str) then c.length == 3 && names.contains (c.getD 1 "") && names.contains (c.getD 2 "") else c.getD 0 "" == ("set" : Str) && (c.length == 3 && names.contains (c.getD 1 ""))
def behind (names : List Str) (c : List Str) (st : List Str × List Str) : List Str × List Str :=
  if c.getD 0 "" == ("wake" : Str) then (st.1, joinW st.2 [c.getD 1 ""])
  else if c.getD 0 "" == ("copy" : Str) then (putW st.1 (ixS names (c.getD 2 "")) (st.1.getD (ixS names (c.getD 1 "")) ""), st.2)
  else (putW st.1 (ixS names (c.getD 1 "")) (c.getD 2 ""), st.2)
theorem cut_take (ws : List Str) {i : Nat} (h : i ≤ ws.length) : cutV (ws.map V.str) none (some (i : Int)) = (ws.take i).map V.str := by
  rw [cutV_map]
  unfold cutW
  rw [HT.sIx_nat, HT.sIx_none, List.drop_zero, Nat.sub_zero, Nat.min_eq_left h]
theorem cut_drop (ws : List Str) {i : Nat} (h : i ≤ ws.length) : cutV (ws.map V.str) (some (i : Int)) none = (ws.drop i).map V.str := by
  rw [cutV_map]
  unfold cutW
  rw [HT.sIx_nat, HT.sIx_none, Nat.min_eq_left h, List.take_of_length_le (by rw [List.length_drop]; exact Nat.le_refl _)]
/-- t + u of texts -/
theorem cat_go {K : PySem.W.Frag} {H : Hp} {Q : VK} {a b : Addr} {xs ys : List Str} (ha : H a = some (.tup (xs.map V.str))) (hb : H b = some (.tup (ys.map V.str))) (hz : xs.length + ys.length ≤ 1000) (q : ∀ p H', Same H H' → H' p = some (.tup ((xs ++ ys).map V.str)) → Q (.ref p) H') : rCatA K (.ref a) (.ref b) H Q := by
  refine ⟨a, b, _, _, rfl, rfl, .inl (.inl ha), .inl (.inl hb), by rw [List.length_map, List.length_map, sizeLine_eq]; omega, fun e => ?_, fun _ e => ?_, fun _ _ p hp => ?_⟩
  · have e : xs = [] := by simpa using e
    subst e
    exact q b H (Same.refl H) hb
  · have e : ys = [] := by simpa using e
    subst e
    exact q a H (Same.refl H) (by rw [List.append_nil]; exact ha)
  · exact q p _ (same_new hp) (by rw [upd_same, List.map_append])
end Sc

namespace Sc
open PySem L2 PySem.Spec PyProof.Rows Lm
/-! ### state_behind -/
abbrev sBehind : Stmt := top 44
theorem scBehind : FnScope ["release", "command", "state", "words", "wakes", "word", "place"] ["release", "command", "state"] (defScope sBehind) := ⟨rfl, rfl, rfl, by decide +kernel, rfl, by decide +kernel, by decide +kernel⟩
def spBehind (K : PySem.W.Frag) (CR : Addr) : Sp := fun vs H Q _ => ∃ (x : Re) (c s : Addr) (cm : List (Str × List Str)) (tr ws : List Str) (st : List Str × List Str), vs = [.ref x.r, .ref c, .ref s] ∧ x.At CR cm tr H ∧ H c = some (.tup (ws.map V.str)) ∧ StAt H (.ref s) st ∧
  goodCmd (cm.map (·.1)) ws = true ∧ st.1.length = cm.length ∧ st.2.length < 50 ∧ ∀ p H', Same H H' → StAt H' (.ref p) (behind (cm.map (·.1)) ws st) → Q (.ref p) H'
section
variable {P : Program} {w : World} {K : PySem.W.Frag} {mg : Str → Option Value} {base : Heap} {CR : Addr}
theorem last_go {K : PySem.W.Frag} {H : Hp} {Q : VK} {a b : Addr} {v0 v1 v2 : Option V} {ws ks : List Str} {wd : Str} {i : Nat} (ha : H a = some (.tup (ws.map V.str))) (hb : H b = some (.tup (ks.map V.str))) (hi : i < ws.length) (hz : ws.length ≤ 100)
    (q : ∀ p H', Same H H' → StAt H' (.ref p) (putW ws i wd, ks) → Q (.ref p) H') :
    tRet (tTup (tCons (tOp (rCatA K) (tOp (rCatA K) (tSl (rSlA K) (tVar 3) tNoPart (tPart (tVar 6))) (tTup (tCons (tVar 5) tNil))) (tSl (rSlA K) (tVar 3) (tPart (tOp (rI0 fun i j => V.int (i + j)) (tVar 6) (tC (V.int 1)))) tNoPart)) (tCons (tVar 4) tNil)))
      { nx := fun _ H' => Q V.non H', rt := Q } [v0, v1, v2, some (.ref a), some (.ref b), some (.str wd), some (.int (i : Nat))] H := by
  refine ret_go (tup_go (cons_go (op_go (op_go (sl_go ?_)))))
  refine ⟨_, rfl, _, rfl, _, rfl, a, _, rfl, .inl (.inl ha), fun z => ?_, fun _ p1 hp1 => ?_⟩
  · exfalso
    have z := z.2
    rw [List.length_map, HT.sIx_nat, Nat.min_eq_left (Nat.le_of_lt hi)] at z
    omega
  rw [cut_take ws (Nat.le_of_lt hi)] 
  have s1 := same_new (o := .tup ((ws.take i).map V.str)) hp1
  refine ⟨_, rfl, (by show 1 ≤ sizeLine; decide), fun p2 hp2 => ?_⟩
  have s2 := same_new (o := .tup ([wd].map V.str)) hp2
  refine cat_go (xs := ws.take i) (ys := [wd]) (s2 _ _ upd_same) upd_same ?_ fun p3 H3 s3 e3 => ?_
  · rw [List.length_take, List.length_singleton]
    omega
  have s13 := (s1.trans s2).trans s3
  refine sl_go ⟨_, rfl, _, rfl, ⟨_, _, rfl, rfl, _, rfl, ?_⟩⟩
  refine ⟨a, _, rfl, .inl (.inl (s13 _ _ ha)), fun z => ?_, fun _ p4 hp4 => ?_⟩
  · exfalso
    have z := z.1
    have e1 : ((i : Nat) : Int) + 1 = ((i + 1 : Nat) : Int) := by omega
    rw [e1, List.length_map, HT.sIx_nat] at z
    omega
  have e1 : ((i : Nat) : Int) + 1 = ((i + 1 : Nat) : Int) := by omega
  rw [e1, cut_drop ws hi] 
  have s4 := same_new (o := .tup ((ws.drop (i + 1)).map V.str)) hp4
  refine cat_go (xs := ws.take i ++ [wd]) (ys := ws.drop (i + 1)) (s4 _ _ e3) upd_same ?_ fun p5 H5 s5 e5 => ?_
  · rw [List.length_append, List.length_take, List.length_drop, List.length_singleton]
    omega
  have s15 := (s13.trans s4).trans s5
  refine ⟨_, rfl, (by show 2 ≤ sizeLine; decide), fun p6 hp6 => ?_⟩
  have s6 := same_new (o := .tup [V.ref p5, V.ref b]) hp6
  exact q p6 _ (s15.trans s6) ⟨p6, p5, b, rfl, upd_same, s6 _ _ e5, s6 _ _ (s15 _ _ hb)⟩
theorem ok_behind {f fJ : Addr} {fd fdJ : FuncData} (G : Fun K "state_behind" "state_behind" sBehind f fd) (T : NatR mg) (O : Own K CR reNames)
    (GJ : FnOk P w K mg base CX0 1 fJ fdJ ["wakes", "more"] (spJoined K)) (gJ : mg "joined" = some (.ref fJ)) (kJ : PySem.W.keepIn K (.ref fJ) = true) (bJ : Binds K fdJ ["wakes", "more"] []) :
    FnOk P w K mg base CX0 2 f fd ["release", "command", "state"] (spBehind K CR) := by
  refine G.ok scBehind (fun vs H Q E h => ?_) (fun cdv A outer s H vs Q E hr h => ?_)
  · obtain ⟨x, c, s, cm, tr, ws, st, rfl, _⟩ := h
    rfl
  · obtain ⟨x, c, s, cm, tr, ws, st, rfl, ha, hc, hs, gc, l1, l2, q⟩ := h
    refine ⟨_, pss_cons (ps_asg (pv 2) (pg_tup (by rfl) (pgs_cons (pg_name (i := 3) scBehind.nd rfl (Or.inl rfl)) (pgs_cons (pg_name (i := 4) scBehind.nd rfl (Or.inl rfl)) pgs_nil))))
      (pss_cons (ps_if (pt_cmpR op_eq (pe_ix ix_tup (pv 1) pe_int (fun _ _ => rfl)) pe_str (nomark _)) (pss_one (ps_ret (pe_tup (pa_cons (pv 3) (pa_cons (pe_call GJ hr (by rfl) gJ kJ bJ .nil pass0 (pa_cons (pv 4) (pa_cons (pe_tup (pa_cons (pe_ix ix_tup (pv 1) pe_int (fun _ _ => rfl)) pa_nil)) pa_nil))) pa_nil))))) pss_nil)
      (pss_cons (ps_if (pt_cmpR op_eq (pe_ix ix_tup (pv 1) pe_int (fun _ _ => rfl)) pe_str (nomark _))
          (pss_cons (ps_set (i := 5) scBehind.nd rfl (Or.inl rfl) (pe_ix ix_tup (pv 3) (pe_ixF (pe_fld (pv 0) rfl) (pa_cons (pe_ix ix_tup (pv 1) pe_int (fun _ _ => rfl)) pa_nil)) (fun _ _ => rfl)))
            (pss_one (ps_set (i := 6) scBehind.nd rfl (Or.inl rfl) (pe_ixF (pe_fld (pv 0) rfl) (pa_cons (pe_ix ix_tup (pv 1) pe_int (fun _ _ => rfl)) pa_nil)))))
          (pss_cons (ps_set (i := 5) scBehind.nd rfl (Or.inl rfl) (pe_ix ix_tup (pv 1) pe_int (fun _ _ => rfl)))
            (pss_one (ps_set (i := 6) scBehind.nd rfl (Or.inl rfl) (pe_ixF (pe_fld (pv 0) rfl) (pa_cons (pe_ix ix_tup (pv 1) pe_int (fun _ _ => rfl)) pa_nil))))))
      (pss_one (ps_ret (pe_tup (pa_cons (pe_op op_catA (pe_op op_catA (pe_slice sl_tupA (pv 3) po_none (po_some (pv 6))) (pe_tup (pa_cons (pv 5) pa_nil))) (pe_slice sl_tupA (pv 3) (po_some (pe_op op_add (pv 6) pe_int)) po_none)) (pa_cons (pv 4) pa_nil))))))), ?_⟩
    obtain ⟨p0, a, b, e0, hp, h1, h2⟩ := hs
    cases e0
    refine seq_go ⟨_, rfl, s, _, rfl, .inl (.inl hp), rfl, _, _, rfl, _, _, rfl, rfl, ?_⟩
    dsimp only
    have len0 : 0 < ws.length := by
      cases ws with
      | nil => simp [goodCmd] at gc
      | cons y r => exact Nat.succ_pos _
    unfold goodCmd at gc
    unfold behind at q
    refine seq_go (ifs_go (test_go (op_go ⟨_, rfl, c, _, _, _, rfl, rfl, .inl (.inl hc), get_word (i := 0) len0, rfl, _, rfl, ite2 (fun e => ?_) fun e => ?_⟩)))
    · rw [dec_str] at e
      rw [if_pos e] at gc q
      have l3 : ws.length = 2 := eq_of_beq gc
      refine ret_go ⟨_, rfl, _, rfl, _, rfl, c, _, _, _, rfl, rfl, .inl (.inl hc), get_word (i := 1) (by omega), (by show 1 ≤ sizeLine; decide), fun p1 hp1 => ?_⟩
      have s1 := same_new (o := .tup ([ws.getD 1 ""].map V.str)) hp1
      refine ⟨b, p1, st.2, [ws.getD 1 ""], rfl, .inl (.inl (s1 _ _ h2)), .inl (.inl upd_same), ?_, fun p2 H2 s2 e2 => ?_⟩
      · rw [List.length_singleton]
        omega
      refine ⟨(by show 2 ≤ sizeLine; decide), fun p3 hp3 => ?_⟩
      have s3 := same_new (o := .tup [V.ref a, V.ref p2]) hp3
      exact q p3 _ ((s1.trans s2).trans s3) ⟨p3, a, p2, rfl, upd_same, s3 _ _ (s2 _ _ (s1 _ _ h1)), s3 _ _ e2⟩
    · rw [dec_str] at e
      rw [if_neg e] at gc q
      refine next_go ?_
      dsimp only
      refine seq_go (ifs_go (test_go (op_go ⟨_, rfl, c, _, _, _, rfl, rfl, .inl (.inl hc), get_word (i := 0) len0, rfl, _, rfl, ite2 (fun e2 => ?_) fun e2 => ?_⟩)))
      · rw [dec_str] at e2
        rw [if_pos e2] at gc q
        rw [Bool.and_eq_true, Bool.and_eq_true] at gc
        obtain ⟨⟨l3, m1⟩, m2⟩ := gc
        have l3 : ws.length = 3 := eq_of_beq l3
        have m1 : ws.getD 1 "" ∈ cm.map (·.1) := by simpa using m1
        have m2 : ws.getD 2 "" ∈ cm.map (·.1) := by simpa using m2
        have i1 := ixS_at m1
        have i2 := ixS_at m2
        have b1 : ixS (cm.map (·.1)) (ws.getD 1 "") < st.1.length := by
          rw [l1, ← List.length_map (f := (·.1)) (as := cm)]
          exact ixS_lt m1
        refine seq_go ⟨_, rfl, ?_⟩
        refine fld_re O ha rfl (by decide) x.lk_cells ⟨⟨_, _, rfl, ha.cells⟩, _, rfl, c, _, _, _, rfl, rfl, .inl (.inl hc), get_word (i := 1) (by omega), x.cells, _, _, _, rfl, rfl, ha.cells.sq, i1.1, i1.2, a, _, _, _, rfl, rfl, .inl (.inl h1), get_word b1, ?_⟩
        refine name_go ?_
        dsimp only
        refine asg_go (ixF_go (fld_re O ha rfl (by decide) x.lk_cells ⟨⟨_, _, rfl, ha.cells⟩, _, rfl, c, _, _, _, rfl, rfl, .inl (.inl hc), get_word (i := 2) (by omega), x.cells, _, _, _, rfl, rfl, ha.cells.sq, i2.1, i2.2, name_go ?_⟩))
        exact last_go h1 h2 (by rw [l1, ← List.length_map (f := (·.1)) (as := cm)]; exact ixS_lt m2) (by rw [l1]; exact ha.few) q
      · rw [dec_str] at e2
        rw [if_neg e2] at gc q
        rw [Bool.and_eq_true, Bool.and_eq_true] at gc
        obtain ⟨_, l3, m1⟩ := gc
        have l3 : ws.length = 3 := eq_of_beq l3
        have m1 : ws.getD 1 "" ∈ cm.map (·.1) := by simpa using m1
        have i1 := ixS_at m1
        refine seq_go (asg_go ⟨_, rfl, c, _, _, _, rfl, rfl, .inl (.inl hc), get_word (i := 2) (by omega), name_go ?_⟩)
        dsimp only
        refine asg_go (ixF_go (fld_re O ha rfl (by decide) x.lk_cells ⟨⟨_, _, rfl, ha.cells⟩, _, rfl, c, _, _, _, rfl, rfl, .inl (.inl hc), get_word (i := 1) (by omega), x.cells, _, _, _, rfl, rfl, ha.cells.sq, i1.1, i1.2, name_go ?_⟩))
        exact last_go h1 h2 (by rw [l1, ← List.length_map (f := (·.1)) (as := cm)]; exact ixS_lt m1) (by rw [l1]; exact ha.few) q
end
end Sc

namespace Sc
open PySem L2 PySem.Spec PyProof.Rows Lm
/-! ### what commands come to -/
abbrev Stt := List Str × List Str
mutual
def runC (ns : List Str) : Cmd → Stt → List Stt × Bool
  | .plain ws, st => if ws.getD 0 "" == ("fail" : Str) then ([], true) else ([behind ns ws st], false)
  | .cond c w f s, st => if st.1.getD (ixS ns c) "" == w then runL ns f st else runL ns s st
def runL (ns : List Str) : List Cmd → Stt → List Stt × Bool
  | [], _ => ([], false)
  | c :: cs, st => if (runC ns c st).2 = true then ((runC ns c st).1, true) else ((runC ns c st).1 ++ (runL ns cs ((runC ns c st).1.getLast?.getD st)).1, (runL ns cs ((runC ns c st).1.getLast?.getD st)).2)
end
mutual
def cntC : Cmd → Nat
  | .plain _ => 1
  | .cond _ _ f s => cntL f + cntL s
def cntL : List Cmd → Nat
  | [] => 0
  | c :: cs => cntC c + cntL cs
end
mutual
def deepC : Cmd → Nat
  | .plain _ => 0
  | .cond _ _ f s => 1 + max (deepL f) (deepL s)
def deepL : List Cmd → Nat
  | [] => 0
  | c :: cs => max (deepC c) (deepL cs)
end
mutual
def gdC (ns : List Str) : Cmd → Bool
  | .plain ws => ws == [("fail" : Str)] || (goodCmd ns ws && !(ws.getD 0 "" == ("fail" : Str)) && !(ws.getD 0 "" == ("if" : Str)))
  | .cond c _ f s => ns.contains c && gdL ns f && gdL ns s
def gdL (ns : List Str) : List Cmd → Bool
  | [] => true
  | c :: cs => gdC ns c && gdL ns cs
end
def lastSt (st : Stt) (l : List Stt) : Stt := l.getLast?.getD st
theorem lastSt_app (st : Stt) (a b : List Stt) : lastSt (lastSt st a) b = lastSt st (a ++ b) := by
  unfold lastSt
  rw [List.getLast?_append]
  cases b.getLast? <;> rfl
mutual
theorem runC_len (ns : List Str) : ∀ (c : Cmd) (st : Stt), (runC ns c st).1.length ≤ cntC c
  | .plain ws, st => by
    unfold runC cntC
    split <;> simp
  | .cond c w f s, st => by
    have h1 := runL_len ns f st
    have h2 := runL_len ns s st
    unfold runC cntC
    split <;> omega
theorem runL_len (ns : List Str) : ∀ (cs : List Cmd) (st : Stt), (runL ns cs st).1.length ≤ cntL cs
  | [], st => by simp [runL]
  | c :: cs, st => by
    have h1 := runC_len ns c st
    have h2 := runL_len ns cs ((runC ns c st).1.getLast?.getD st)
    unfold runL cntL
    split
    · dsimp only
      omega
    · rw [List.length_append]
      omega
end
theorem insX_len (k : Str) : ∀ l : List Str, (Ts.insX k l).length ≤ l.length + 1
  | [] => Nat.le_refl _
  | x :: r => by
    have := insX_len k r
    unfold Ts.insX
    split
    · exact Nat.le_succ _
    · split
      · exact Nat.le_refl _
      · rw [List.length_cons, List.length_cons]
        omega
theorem upW_len : ∀ l : List Str, (Ts.upW l).length ≤ l.length
  | [] => Nat.le_refl _
  | x :: r => by
    have h1 := insX_len x (Ts.upW r)
    have h2 := upW_len r
    show (Ts.insX x (Ts.upW r)).length ≤ _
    rw [List.length_cons]
    omega
/-- a state of a house of n cells, with few wakes -/
def SzOk (n k : Nat) (st : Stt) : Prop := st.1.length = n ∧ st.2.length ≤ k
theorem putW_len {ws : List Str} {i : Nat} {w : Str} (h : i < ws.length) : (putW ws i w).length = ws.length := by
  unfold putW
  rw [List.length_append, List.length_append, List.length_take, List.length_drop, List.length_singleton]
  omega
theorem behind_sz {ns c : List Str} {st : Stt} {k : Nat} (g : goodCmd ns c = true) (h : SzOk ns.length k st) : SzOk ns.length (k + 1) (behind ns c st) := by
  unfold goodCmd at g
  unfold behind
  split
  · refine ⟨h.1, ?_⟩
    have := upW_len (st.2 ++ [c.getD 1 ""])
    rw [List.length_append, List.length_singleton] at this
    have := h.2
    show (Ts.upW _).length ≤ _
    omega
  · rename_i e
    rw [if_neg e] at g
    split
    · rename_i e2
      rw [if_pos e2, Bool.and_eq_true] at g
      have m : c.getD 2 "" ∈ ns := by simpa using g.2
      exact ⟨(putW_len (by rw [h.1]; exact ixS_lt m)).trans h.1, Nat.le_succ_of_le h.2⟩
    · rename_i e2
      rw [if_neg e2, Bool.and_eq_true, Bool.and_eq_true] at g
      have m : c.getD 1 "" ∈ ns := by simpa using g.2.2
      exact ⟨(putW_len (by rw [h.1]; exact ixS_lt m)).trans h.1, Nat.le_succ_of_le h.2⟩
/-! ### things that are no lists stay -/
def NL (H H' : Hp) : Prop := ∀ a o, H a = some o → (∀ xs, o ≠ .lst xs) → H' a = some o
theorem Same.nl {H H' : Hp} (s : Same H H') : NL H H' := fun a o e _ => s a o e
theorem NL.trans {H H1 H2 : Hp} (a : NL H H1) (b : NL H1 H2) : NL H H2 := fun c o e n => b c o (a c o e n) n
theorem Off.nl {L : Addr} {H H' : Hp} {vs : List V} (h : H L = some (.lst vs)) (o : Off [L] H H') : NL H H' := fun a u e n => o a u (fun z => by
  rw [List.mem_singleton.mp z, h] at e
  exact n vs (Option.some.inj e).symm) e
theorem NL.tups {H H' : Hp} (s : NL H H') : Tups H H' := fun a xs e => s a _ e fun ys z => by cases z
theorem Re.At.nl {x : Re} {C : Addr} {cm : List (Str × List Str)} {tr : List Str} {H H' : Hp} (h : x.At C cm tr H) (s : NL H H') : x.At C cm tr H' := by
  obtain ⟨ks, e, d⟩ := h.words
  obtain ⟨o, eo, n⟩ := h.cells
  exact ⟨s _ _ h.obj fun xs z => (by cases z), ⟨o, s _ _ eo fun xs z => (by cases z), n⟩, ⟨ks, s _ _ e fun xs z => (by cases z), d.imp fun _ _ ⟨p, e, hp⟩ => ⟨p, e, s _ _ hp fun xs z => by cases z⟩⟩, h.wok, s _ _ h.trig fun xs z => (by cases z), h.few⟩
theorem StAt.keep {H H' : Hp} {v : V} {st : Stt} (h : StAt H v st) (s : Tups H H') : StAt H' v st := by
  obtain ⟨p, a, b, e, h1, h2, h3⟩ := h
  exact ⟨p, a, b, e, s _ _ h1, s _ _ h2, s _ _ h3⟩
def StsAt (H : Hp) : List V → List Stt → Prop
  | [], [] => True
  | v :: vs, s :: ss => StAt H v s ∧ StsAt H vs ss
  | [], _ :: _ => False
  | _ :: _, [] => False
theorem StsAt.keep {H H' : Hp} (t : Tups H H') : ∀ {vs : List V} {ss : List Stt}, StsAt H vs ss → StsAt H' vs ss
  | [], [], _ => True.intro
  | _ :: _, _ :: _, ⟨a, b⟩ => ⟨a.keep t, StsAt.keep t b⟩
  | [], _ :: _, h => h
  | _ :: _, [], h => h
theorem StsAt.app {H : Hp} : ∀ {vs us : List V} {ss ts : List Stt}, StsAt H vs ss → StsAt H us ts → StsAt H (vs ++ us) (ss ++ ts)
  | [], _, [], _, _, h => h
  | _ :: _, _, _ :: _, _, ⟨a, b⟩, h => ⟨a, StsAt.app b h⟩
  | [], _, _ :: _, _, z, _ => z.elim
  | _ :: _, _, [], _, z, _ => z.elim
theorem StsAt.len {H : Hp} : ∀ {vs : List V} {ss : List Stt}, StsAt H vs ss → vs.length = ss.length
  | [], [], _ => rfl
  | _ :: _, _ :: _, ⟨_, b⟩ => by rw [List.length_cons, List.length_cons, StsAt.len b]
  | [], _ :: _, z => z.elim
  | _ :: _, [], z => z.elim
/-- the last of the states -/
theorem StsAt.last {H : Hp} {st : Stt} : ∀ {vs : List V} {ss : List Stt}, StsAt H vs ss → ss ≠ [] → ∃ v, atI vs (-1) = some v ∧ StAt H v (lastSt st ss) := by
  intro vs ss h ne
  have key : ∀ {vs : List V} {ss : List Stt}, StsAt H vs ss → ss ≠ [] → ∃ v, vs.getLast? = some v ∧ StAt H v (lastSt st ss) := by
    intro vs
    induction vs with
    | nil =>
      intro ss h ne
      cases ss with
      | nil => exact absurd rfl ne
      | cons s ss => exact h.elim
    | cons v vs ih =>
      intro ss h ne
      cases ss with
      | nil => exact h.elim
      | cons s ss =>
        obtain ⟨a, b⟩ := h
        cases ss with
        | nil =>
          cases vs with
          | nil => exact ⟨v, rfl, a⟩
          | cons u us => exact b.elim
        | cons t ts =>
          obtain ⟨u, e, g⟩ := ih b (by simp)
          refine ⟨u, ?_, g⟩
          cases vs with
          | nil => exact b.elim
          | cons y ys => rw [List.getLast?_cons_cons]; exact e
  obtain ⟨v, e, g⟩ := key h ne
  refine ⟨v, ?_, g⟩
  rw [List.getLast?_eq_getElem?] at e
  have hl : vs ≠ [] := fun z => by
    rw [z] at e
    cases e
  have hp : 0 < vs.length := List.length_pos_iff.mpr hl
  unfold atI ixN
  rw [if_neg (by decide), if_pos (by omega)]
  show vs[((-1 : Int) + (vs.length : Nat)).toNat]? = some v
  have e2 : ((-1 : Int) + (vs.length : Nat)).toNat = vs.length - 1 := by omega
  rw [e2, e]
end Sc

namespace Sc
open PySem L2 PySem.Spec PyProof.Rows Lm
/-! ### part_to_run -/
abbrev sPart : Stmt := top 43
theorem scPart : FnScope ["release", "command", "words", "holds"] ["release", "command", "words"] (defScope sPart) := ⟨rfl, rfl, rfl, by decide +kernel, rfl, by decide +kernel, by decide +kernel⟩
def spPart43 (CR : Addr) : Sp := fun vs H Q _ => ∃ (x : Re) (p a f s : Addr) (cm : List (Str × List Str)) (tr ws : List Str) (c wd : Str), vs = [.ref x.r, .ref p, .ref a] ∧ x.At CR cm tr H ∧ H p = some (.tup [.str "if", .str c, .str wd, .ref f, .ref s]) ∧ H a = some (.tup (ws.map V.str)) ∧
  c ∈ cm.map (·.1) ∧ ws.length = cm.length ∧ Q (.ref (if ws.getD (ixS (cm.map (·.1)) c) "" == wd then f else s)) H
section
variable {P : Program} {w : World} {K : PySem.W.Frag} {mg : Str → Option Value} {base : Heap} {CR : Addr}
theorem ok_part {f : Addr} {fd : FuncData} (G : Fun K "part_to_run" "part_to_run" sPart f fd) (T : NatR mg) (O : Own K CR reNames) : FnOk P w K mg base CX0 1 f fd ["release", "command", "words"] (spPart43 CR) := by
  refine G.ok scPart (fun vs H Q E h => ?_) (fun cdv A outer s H vs Q E hr h => ?_)
  · obtain ⟨x, p, a, f, s, cm, tr, ws, c, wd, rfl, _⟩ := h
    rfl
  · obtain ⟨x, p, a, f, s, cm, tr, ws, c, wd, rfl, hx, hp, ha, m1, l1, q⟩ := h
    refine ⟨_, pss_cons (ps_set (i := 3) scPart.nd rfl (Or.inl rfl) (pe_cmpR op_eq (pe_ix ix_tup (pv 2) (pe_ixF (pe_fld (pv 0) rfl) (pa_cons (pe_ix ix_tup (pv 1) pe_int (fun _ _ => rfl)) pa_nil)) (fun _ _ => rfl)) (pe_ix ix_tup (pv 1) pe_int (fun _ _ => rfl)) (nomark _)))
      (pss_one (ps_ret (pe_ifExp (pt_val (pv 3)) (pe_ix ix_tup (pv 1) pe_int (fun _ _ => rfl)) (pe_ix ix_tup (pv 1) pe_int (fun _ _ => rfl))))), ?_⟩
    have i1 := ixS_at m1
    have b1 : ixS (cm.map (·.1)) c < ws.length := by
      rw [l1, ← List.length_map (f := (·.1)) (as := cm)]
      exact ixS_lt m1
    refine seq_go (asg_go (op_go ⟨_, rfl, ixF_go (fld_re O hx rfl (by decide) x.lk_cells ⟨⟨_, _, rfl, hx.cells⟩, _, rfl, p, _, _, _, rfl, rfl, .inl (.inl hp), rfl, x.cells, _, _, _, rfl, rfl, hx.cells.sq, i1.1, i1.2, a, _, _, _, rfl, rfl, .inl (.inl ha), get_word b1, ?_⟩)⟩))
    refine ⟨_, rfl, p, _, _, _, rfl, rfl, .inl (.inl hp), rfl, rfl, name_go ?_⟩
    dsimp only
    rw [dec_str]
    refine ret_go ⟨_, rfl, _, rfl, ite2 (fun e => ?_) fun e => ?_⟩
    · rw [if_pos e] at q
      exact ⟨_, rfl, p, _, _, _, rfl, rfl, .inl (.inl hp), rfl, q⟩
    · rw [if_neg e] at q
      exact ⟨_, rfl, p, _, _, _, rfl, rfl, .inl (.inl hp), rfl, q⟩
end
end Sc

namespace Sc
open PySem L2 PySem.Spec PyProof.Rows Lm
/-! ### run_commands -/
abbrev sRun : Stmt := top 42
theorem scRun : FnScope ["release", "program", "states", "command"] ["release", "program", "states"] (defScope sRun) := ⟨rfl, rfl, rfl, by decide +kernel, rfl, by decide +kernel, by decide +kernel⟩
/-- programs with ifs at most so deep -/
def spRun (CR : Addr) (d : Nat) : Sp := fun vs H Q _ => ∃ (x : Re) (p L : Addr) (cm : List (Str × List Str)) (tr : List Str) (cs : List Cmd) (us : List V) (ss : List Stt) (st : Stt), vs = [.ref x.r, .ref p, .ref L] ∧ x.At CR cm tr H ∧ ProgAt H p cs ∧ gdL (cm.map (·.1)) cs = true ∧ deepL cs ≤ d ∧
  H L = some (.lst us) ∧ StsAt H us ss ∧ ss ≠ [] ∧ lastSt st ss = st ∧ ss.length + cntL cs ≤ 45 ∧ SzOk cm.length ss.length st ∧
  ∀ H' us2, Off [L] H H' → H' L = some (.lst (us ++ us2)) → StsAt H' us2 (runL (cm.map (·.1)) cs st).1 → Q (.bl (runL (cm.map (·.1)) cs st).2) H'
theorem CmdsAt.get {H : Hp} : ∀ {rs : List V} {cs : List Cmd} {i : Nat} {v : V}, CmdsAt H rs cs → rs[i]? = some v → ∃ c, cs[i]? = some c ∧ CmdAt H v c
  | [], [], i, v, _, h => by simp at h
  | r :: rs, c :: cs, 0, v, a, h => by
    unfold CmdsAt at a
    simp at h
    exact ⟨c, rfl, by rw [← h]; exact a.1⟩
  | r :: rs, c :: cs, i + 1, v, a, h => by
    unfold CmdsAt at a
    obtain ⟨d, e, g⟩ := CmdsAt.get (i := i) a.2 (by simpa using h)
    exact ⟨d, by simpa using e, g⟩
  | [], _ :: _, _, _, z, _ => by
    unfold CmdsAt at z
    exact z.elim
  | _ :: _, [], _, _, z, _ => by
    unfold CmdsAt at z
    exact z.elim
theorem gd_mem {ns : List Str} {c : Cmd} : ∀ {cs : List Cmd}, gdL ns cs = true → c ∈ cs → gdC ns c = true
  | [], _, h => by cases h
  | x :: r, g, h => by
    unfold gdL at g
    rw [Bool.and_eq_true] at g
    rcases List.mem_cons.mp h with e | h
    · rw [e]
      exact g.1
    · exact gd_mem g.2 h
theorem deep_mem {c : Cmd} : ∀ {cs : List Cmd}, c ∈ cs → deepC c ≤ deepL cs
  | [], h => by cases h
  | x :: r, h => by
    unfold deepL
    rcases List.mem_cons.mp h with e | h
    · rw [e]
      exact Nat.le_max_left _ _
    · exact Nat.le_trans (deep_mem h) (Nat.le_max_right _ _)
theorem cnt_mem {c : Cmd} : ∀ {cs : List Cmd}, c ∈ cs → cntC c ≤ cntL cs
  | [], h => by cases h
  | x :: r, h => by
    unfold cntL
    rcases List.mem_cons.mp h with e | h
    · rw [e]
      omega
    · have := cnt_mem h
      omega
/-- amid a run -/
structure Amid (CR : Addr) (x : Re) (cm : List (Str × List Str)) (tr : List Str) (cs : List Cmd) (us : List V) (ss : List Stt) (st : Stt) (L : Addr) (H : Hp) (i : Nat) (H1 : Hp) : Prop where
  off : Off [L] H H1
  at_ : ∃ us2 acc, H1 L = some (.lst (us ++ us2)) ∧ StsAt H1 us2 acc ∧ runL (cm.map (·.1)) cs st = (acc ++ (runL (cm.map (·.1)) (cs.drop i) (lastSt st acc)).1, (runL (cm.map (·.1)) (cs.drop i) (lastSt st acc)).2) ∧
    acc.length + cntL (cs.drop i) ≤ cntL cs ∧ SzOk cm.length (ss.length + acc.length) (lastSt st acc)
section
variable {P : Program} {w : World} {K : PySem.W.Frag} {mg : Str → Option Value} {base : Heap} {CR : Addr}
theorem ok_run0 {f fB : Addr} {fd fdB : FuncData} (G : Fun K "run_commands" "run_commands" sRun f fd) (O : Own K CR reNames)
    (GB : FnOk P w K mg base CX0 2 fB fdB ["release", "command", "state"] (spBehind K CR)) (gB : mg "state_behind" = some (.ref fB)) (kB : PySem.W.keepIn K (.ref fB) = true) (bB : Binds K fdB ["release", "command", "state"] []) :
    FnOk P w K mg base CX0 3 f fd ["release", "program", "states"] (spRun CR 0) := by
  refine G.ok scRun (fun vs H Q E h => ?_) (fun cdv A outer s H vs Q E hr h => ?_)
  · obtain ⟨x, p, L, cm, tr, cs, us, ss, st, rfl, _⟩ := h
    rfl
  · obtain ⟨x, p, L, cm, tr, cs, us, ss, st, rfl, hx, hp, gd, dp, hL, sa, ne, ls, few, sz, q⟩ := h
    refine ⟨_, pss_cons (ps_for PassesOwn.never rfl (pi_tup (pv 1)) (pg_name (i := 3) scRun.nd rfl (Or.inl rfl))
        (pss_cons (ps_if (pt_cmpR op_eq (pe_ix ix_tup (pv 3) pe_int (fun _ _ => rfl)) pe_str (nomark _)) (pss_one (ps_ret pe_bl)) pss_nil)
          (pss_one (ps_if (pt_cmpR op_eq (pe_ix ix_tup (pv 3) pe_int (fun _ _ => rfl)) pe_str (nomark _)) pss_never
            (pss_one (ps_expr (pe_bm PySem.F.plainAttrs_list PySem.F.slot_list_append PySem.F.type_list_append mt_append (pv 2) (pa_cons (pe_call GB hr (by rfl) gB kB bB .nil pass0 (pa_cons (pv 0) (pa_cons (pv 3) (pa_cons (pe_ix ix_list (pv 2) (pe_un un_neg pe_int) (fun _ _ => rfl)) pa_nil)))) pa_nil))))))))
      (pss_one (ps_ret pe_bl)), ?_⟩
    obtain ⟨rs, hrs, ca⟩ := hp
    have nl1 : ∀ {H1 : Hp}, Off [L] H H1 → NL H H1 := fun o => o.nl hL
    refine seq_go ⟨_, rfl, p, rfl, ⟨_, .inl (.inl hrs)⟩, ?_⟩
    refine for_tup (xs := rs) (fun i σ H1 => (∃ y, σ = [some (.ref x.r), some (.ref p), some (.ref L), y]) ∧ Amid CR x cm tr cs us ss st L H i H1) ⟨⟨none, rfl⟩, Off.refl _ _, [], [], by rw [List.append_nil]; exact hL, True.intro, rfl, by show 0 + _ ≤ _; rw [List.drop_zero]; omega, sz⟩
      (fun i σ H1 _ ⟨_, a⟩ => .inl (.inl ((nl1 a.off).tups _ _ hrs))) (fun i v σ H1 hv ⟨⟨y, e⟩, a⟩ => ?_) fun σ H1 ⟨⟨y, e⟩, a⟩ => ?_
    · subst e
      obtain ⟨c, hc, cav⟩ := ca.get hv
      obtain ⟨off, us2, acc, h1, h2, h3, h4, h5⟩ := a
      have nl := nl1 off
      have cav := cav.keep nl.tups
      have mem := List.mem_of_getElem? hc
      have gdc := gd_mem gd mem
      have dpc := deep_mem mem
      obtain ⟨il, ec⟩ := List.getElem?_eq_some_iff.mp hc
      have ed : cs.drop i = c :: cs.drop (i + 1) := by rw [← ec]; exact List.drop_eq_getElem_cons il
      rw [ed] at h3 h4
      cases c with
      | cond c w f s =>
        unfold deepC at dpc
        omega
      | plain ws =>
        unfold CmdAt at cav
        obtain ⟨t, rfl, ht⟩ := cav
        unfold gdC at gdc
        rw [show cntL (Cmd.plain ws :: cs.drop (i + 1)) = 1 + cntL (cs.drop (i + 1)) by rw [cntL, cntC]] at h4
        have l0 : 0 < ws.length := by
          cases ws with
          | nil => simp [goodCmd] at gdc
          | cons y r => exact Nat.succ_pos _
        refine name_go ?_
        refine seq_go (ifs_go (test_go (op_go ⟨_, rfl, t, _, _, _, rfl, rfl, .inl (.inl ht), get_word (i := 0) l0, rfl, _, rfl, ite2 (fun e => ?_) fun e => ?_⟩)))
        · rw [dec_str] at e
          have er : runL (cm.map (·.1)) (.plain ws :: cs.drop (i + 1)) (lastSt st acc) = ([], true) := by
            unfold runL runC
            rw [if_pos e]
            rfl
          rw [er] at h3
          have e1 : (runL (cm.map (·.1)) cs st).1 = acc := by rw [h3]; exact List.append_nil _
          have e2 : (runL (cm.map (·.1)) cs st).2 = true := by rw [h3]
          have q2 := q H1 us2 off h1 (by rw [e1]; exact h2)
          rw [e2] at q2
          exact ret_go q2
        · rw [dec_str] at e
          have good : goodCmd (cm.map (·.1)) ws = true ∧ ¬ (ws.getD 0 "" == ("if" : Str)) = true := by
            rw [Bool.or_eq_true] at gdc
            rcases gdc with g | g
            · exfalso
              rw [eq_of_beq g] at e
              exact e (by decide +kernel)
            · rw [Bool.and_eq_true, Bool.and_eq_true, Bool.not_eq_true'] at g
              exact ⟨g.1.1, by simpa using g.2⟩
          refine next_go ?_
          dsimp only
          refine ifs_go (test_go (op_go ⟨_, rfl, t, _, _, _, rfl, rfl, .inl (.inl ht), get_word (i := 0) l0, rfl, _, rfl, ite2 (fun e2 => ?_) fun _ => ?_⟩))
          · rw [dec_str] at e2
            exact absurd e2 good.2
          obtain ⟨lv, hlv, slv⟩ := StsAt.last (st := st) (StsAt.app (sa.keep nl.tups) h2) (by
            cases ss with
            | nil => exact absurd rfl ne
            | cons y r => simp)
          have els : lastSt st (ss ++ acc) = lastSt st acc := by rw [← lastSt_app, ls]
          rw [els] at slv
          obtain ⟨sp, spa, spb, rfl, sp1, sp2, sp3⟩ := slv
          refine drop_go (bm_go ⟨_, rfl, .inl ⟨rfl, _, .inl (.inl h1)⟩, cons_go ⟨_, rfl, _, rfl, _, rfl, _, rfl, L, _, _, _, rfl, rfl, .inl (.inl h1), hlv, ?_⟩⟩)
          refine ⟨x, t, sp, cm, tr, ws, lastSt st acc, rfl, hx.nl nl, ht, ⟨sp, spa, spb, rfl, sp1, sp2, sp3⟩, good.1, h5.1, ?_, fun r H2 s2 st2 => ?_⟩
          · have := h5.2
            omega
          have hL2 := s2 _ _ h1
          refine ⟨L, _, _, rfl, rfl, hL2, ?_, ?_⟩
          · have := (StsAt.app (sa.keep nl.tups) h2).len
            rw [this, List.length_append, sizeLine_eq]
            omega
          have er : runL (cm.map (·.1)) (.plain ws :: cs.drop (i + 1)) (lastSt st acc) = ([behind (cm.map (·.1)) ws (lastSt st acc)] ++ (runL (cm.map (·.1)) (cs.drop (i + 1)) (behind (cm.map (·.1)) ws (lastSt st acc))).1, (runL (cm.map (·.1)) (cs.drop (i + 1)) (behind (cm.map (·.1)) ws (lastSt st acc))).2) := by
            conv => lhs; unfold runL runC
            rw [if_neg e]
            rfl
          rw [er] at h3
          have lst2 : lastSt st (acc ++ [behind (cm.map (·.1)) ws (lastSt st acc)]) = behind (cm.map (·.1)) ws (lastSt st acc) := by
            unfold lastSt
            rw [List.getLast?_append]
            rfl
          have t2 : Tups H1 (upd H2 L (.lst (us ++ us2 ++ [.ref r]))) := fun b ys hb => by
            rw [upd_ne (ne_of hb h1 fun z => by cases z)]
            exact s2 _ _ hb
          have o2 : Off [L] H1 (upd H2 L (.lst (us ++ us2 ++ [.ref r]))) := fun b o n hb => by
            rw [upd_ne (fun z => n (by rw [z]; exact List.mem_singleton.mpr rfl))]
            exact s2 _ _ hb
          have st3 : StAt (upd H2 L (.lst (us ++ us2 ++ [.ref r]))) (.ref r) (behind (cm.map (·.1)) ws (lastSt st acc)) := st2.keep fun b ys hb => by
            rw [upd_ne (ne_of hb hL2 fun z => by cases z)]
            exact hb
          refine ⟨⟨_, rfl⟩, off.trans o2, us2 ++ [.ref r], acc ++ [behind (cm.map (·.1)) ws (lastSt st acc)], by rw [upd_same, List.append_assoc], (h2.keep t2).app ⟨st3, True.intro⟩, ?_, ?_, ?_⟩
          · rw [lst2, h3, List.append_assoc]
          · rw [List.length_append, List.length_singleton]
            omega
          · rw [lst2]
            have g := behind_sz (ns := cm.map (·.1)) (c := ws) good.1 (k := ss.length + acc.length) (st := lastSt st acc) (by rw [List.length_map]; exact h5)
            rw [List.length_map] at g
            rw [List.length_append, List.length_singleton, ← Nat.add_assoc]
            exact g
    · subst e
      obtain ⟨off, us2, acc, h1, h2, h3, _, _⟩ := a
      rw [ca.len, List.drop_length] at h3
      dsimp only
      refine ret_go ?_
      have e1 : (runL (cm.map (·.1)) cs st).1 = acc := by rw [h3]; exact List.append_nil _
      have e2 : (runL (cm.map (·.1)) cs st).2 = false := by rw [h3]; rfl
      have q2 := q H1 us2 off h1 (by rw [e1]; exact h2)
      rw [e2] at q2
      exact q2
end
end Sc

namespace Sc
open PySem L2 PySem.Spec PyProof.Rows Lm
theorem lastSt_one (st b : Stt) : lastSt st [b] = b := rfl
theorem good_of {ns ws : List Str} (g : gdC ns (.plain ws) = true) (e : ¬ (ws.getD 0 "" == ("fail" : Str)) = true) : goodCmd ns ws = true ∧ ¬ (ws.getD 0 "" == ("if" : Str)) = true := by
  unfold gdC at g
  rw [Bool.or_eq_true] at g
  rcases g with g | g
  · exfalso
    rw [eq_of_beq g] at e
    exact e (by decide +kernel)
  · rw [Bool.and_eq_true, Bool.and_eq_true, Bool.not_eq_true'] at g
    exact ⟨g.1.1, by simpa using g.2⟩
mutual
theorem runC_sz (ns : List Str) : ∀ (c : Cmd) (st : Stt) (k : Nat), gdC ns c = true → SzOk ns.length k st → SzOk ns.length (k + (runC ns c st).1.length) (lastSt st (runC ns c st).1)
  | .plain ws, st, k, g, h => by
    unfold runC
    split
    · exact h
    · rename_i e
      rw [lastSt_one]
      exact behind_sz (good_of g e).1 h
  | .cond c w f s, st, k, g, h => by
    unfold gdC at g
    rw [Bool.and_eq_true, Bool.and_eq_true] at g
    have h1 := runL_sz ns f st k g.1.2 h
    have h2 := runL_sz ns s st k g.2 h
    unfold runC
    split
    · exact h1
    · exact h2
theorem runL_sz (ns : List Str) : ∀ (cs : List Cmd) (st : Stt) (k : Nat), gdL ns cs = true → SzOk ns.length k st → SzOk ns.length (k + (runL ns cs st).1.length) (lastSt st (runL ns cs st).1)
  | [], st, k, _, h => by
    unfold runL
    exact h
  | c :: cs, st, k, g, h => by
    unfold gdL at g
    rw [Bool.and_eq_true] at g
    have h1 := runC_sz ns c st k g.1 h
    have h2 := runL_sz ns cs (lastSt st (runC ns c st).1) _ g.2 h1
    unfold runL
    split
    · exact h1
    · show SzOk _ (k + ((runC ns c st).1 ++ (runL ns cs (lastSt st (runC ns c st).1)).1).length) (lastSt st ((runC ns c st).1 ++ (runL ns cs (lastSt st (runC ns c st).1)).1))
      rw [← lastSt_app, List.length_append, ← Nat.add_assoc]
      exact h2
end
theorem lastSt_def {a b : Stt} {l : List Stt} (h : l ≠ []) : lastSt a l = lastSt b l := by
  unfold lastSt
  cases e : l.getLast? with
  | none => exact absurd (List.getLast?_eq_none_iff.mp e) h
  | some y => rfl
theorem runL_stop {ns : List Str} {c : Cmd} {cs : List Cmd} {st : Stt} {l : List Stt} (h : runC ns c st = (l, true)) : runL ns (c :: cs) st = (l, true) := by
  unfold runL
  rw [h, if_pos rfl]
theorem runL_on {ns : List Str} {c : Cmd} {cs : List Cmd} {st : Stt} {l : List Stt} (h : runC ns c st = (l, false)) : runL ns (c :: cs) st = (l ++ (runL ns cs (lastSt st l)).1, (runL ns cs (lastSt st l)).2) := by
  conv => lhs; unfold runL
  rw [h, if_neg Bool.false_ne_true]
  rfl
section
variable {P : Program} {w : World} {K : PySem.W.Frag} {mg : Str → Option Value} {base : Heap} {CR : Addr}
theorem ok_runS {d k : Nat} {f fB fP : Addr} {fd fdB fdP : FuncData} (hk : 3 ≤ k) (G : Fun K "run_commands" "run_commands" sRun f fd) (O : Own K CR reNames)
    (GB : FnOk P w K mg base CX0 2 fB fdB ["release", "command", "state"] (spBehind K CR)) (gB : mg "state_behind" = some (.ref fB)) (kB : PySem.W.keepIn K (.ref fB) = true) (bB : Binds K fdB ["release", "command", "state"] [])
    (GP : FnOk P w K mg base CX0 1 fP fdP ["release", "command", "words"] (spPart43 CR)) (gP : mg "part_to_run" = some (.ref fP)) (kP : PySem.W.keepIn K (.ref fP) = true) (bP : Binds K fdP ["release", "command", "words"] [])
    (GR : FnOk P w K mg base CX0 k f fd ["release", "program", "states"] (spRun CR d)) (gR : mg "run_commands" = some (.ref f)) (kR : PySem.W.keepIn K (.ref f) = true) (bR : Binds K fd ["release", "program", "states"] []) :
    FnOk P w K mg base CX0 (k + 1) f fd ["release", "program", "states"] (spRun CR (d + 1)) := by
  refine G.ok scRun (fun vs H Q E h => ?_) (fun cdv A outer s H vs Q E hr h => ?_)
  · obtain ⟨x, p, L, cm, tr, cs, us, ss, st, rfl, _⟩ := h
    rfl
  · obtain ⟨x, p, L, cm, tr, cs, us, ss, st, rfl, hx, hp, gd, dp, hL, sa, ne, ls, few, sz, q⟩ := h
    have hr2 := hr.mono (show 2 ≤ k by omega)
    have hr1 := hr.mono (show 1 ≤ k by omega)
    refine ⟨_, pss_cons (ps_for PassesOwn.never rfl (pi_tup (pv 1)) (pg_name (i := 3) scRun.nd rfl (Or.inl rfl))
        (pss_cons (ps_if (pt_cmpR op_eq (pe_ix ix_tup (pv 3) pe_int (fun _ _ => rfl)) pe_str (nomark _)) (pss_one (ps_ret pe_bl)) pss_nil)
          (pss_one (ps_if (pt_cmpR op_eq (pe_ix ix_tup (pv 3) pe_int (fun _ _ => rfl)) pe_str (nomark _))
            (pss_one (ps_if (pt_val (pe_call GR hr (by rfl) gR kR bR .nil pass0 (pa_cons (pv 0) (pa_cons (pe_call GP hr1 (by rfl) gP kP bP .nil pass0 (pa_cons (pv 0) (pa_cons (pv 3) (pa_cons (pe_ix ix_tup (pe_ix ix_list (pv 2) (pe_un un_neg pe_int) (fun _ _ => rfl)) pe_int (fun _ _ => rfl)) pa_nil)))) (pa_cons (pv 2) pa_nil))))) (pss_one (ps_ret pe_bl)) pss_nil))
            (pss_one (ps_expr (pe_bm PySem.F.plainAttrs_list PySem.F.slot_list_append PySem.F.type_list_append mt_append (pv 2) (pa_cons (pe_call GB hr2 (by rfl) gB kB bB .nil pass0 (pa_cons (pv 0) (pa_cons (pv 3) (pa_cons (pe_ix ix_list (pv 2) (pe_un un_neg pe_int) (fun _ _ => rfl)) pa_nil)))) pa_nil))))))))
      (pss_one (ps_ret pe_bl)), ?_⟩
    obtain ⟨rs, hrs, ca⟩ := hp
    have nl1 : ∀ {H1 : Hp}, Off [L] H H1 → NL H H1 := fun o => o.nl hL
    refine seq_go ⟨_, rfl, p, rfl, ⟨_, .inl (.inl hrs)⟩, ?_⟩
    refine for_tup (xs := rs) (fun i σ H1 => (∃ y, σ = [some (.ref x.r), some (.ref p), some (.ref L), y]) ∧ Amid CR x cm tr cs us ss st L H i H1) ⟨⟨none, rfl⟩, Off.refl _ _, [], [], by rw [List.append_nil]; exact hL, True.intro, rfl, by show 0 + _ ≤ _; rw [List.drop_zero]; omega, sz⟩
      (fun i σ H1 _ ⟨_, a⟩ => .inl (.inl ((nl1 a.off).tups _ _ hrs))) (fun i v σ H1 hv ⟨⟨y, e⟩, a⟩ => ?_) fun σ H1 ⟨⟨y, e⟩, a⟩ => ?_
    · subst e
      obtain ⟨c, hc, cav⟩ := ca.get hv
      obtain ⟨off, us2, acc, h1, h2, h3, h4, h5⟩ := a
      have nl := nl1 off
      have cav := cav.keep nl.tups
      have mem := List.mem_of_getElem? hc
      have gdc := gd_mem gd mem
      have dpc := deep_mem mem
      obtain ⟨il, ec⟩ := List.getElem?_eq_some_iff.mp hc
      have ed : cs.drop i = c :: cs.drop (i + 1) := by rw [← ec]; exact List.drop_eq_getElem_cons il
      rw [ed] at h3 h4
      obtain ⟨lv, hlv, slv⟩ := StsAt.last (st := st) (StsAt.app (sa.keep nl.tups) h2) (by
        cases ss with
        | nil => exact absurd rfl ne
        | cons y r => simp)
      have els : lastSt st (ss ++ acc) = lastSt st acc := by rw [← lastSt_app, ls]
      rw [els] at slv
      obtain ⟨sp, spa, spb, rfl, sp1, sp2, sp3⟩ := slv
      cases c with
      | cond c wd fs sn =>
        unfold CmdAt at cav
        obtain ⟨t, pa, pb, fa, sb, rfl, ht, hpa, cfa, hpb, csb⟩ := cav
        unfold gdC at gdc
        rw [Bool.and_eq_true, Bool.and_eq_true] at gdc
        have m1 : c ∈ cm.map (·.1) := by simpa using gdc.1.1
        rw [show cntL (Cmd.cond c wd fs sn :: cs.drop (i + 1)) = cntL fs + cntL sn + cntL (cs.drop (i + 1)) by rw [cntL, cntC]] at h4
        unfold deepC at dpc
        refine name_go ?_
        refine seq_go (ifs_go (test_go (op_go ⟨_, rfl, t, _, _, _, rfl, rfl, .inl (.inl ht), rfl, rfl, _, rfl, ite2 (fun e => ?_) fun e => ?_⟩)))
        · exact absurd e (by decide +kernel)
        refine next_go ?_
        dsimp only
        refine ifs_go (test_go (op_go ⟨_, rfl, t, _, _, _, rfl, rfl, .inl (.inl ht), rfl, rfl, _, rfl, ite2 (fun _ => ?_) fun e => ?_⟩))
        · refine ifs_go (val_go ⟨_, rfl, _, rfl, _, rfl, _, rfl, _, rfl, L, _, _, _, rfl, rfl, .inl (.inl h1), hlv, sp, _, _, _, rfl, rfl, .inl (.inl sp1), rfl, ?_⟩)
          refine ⟨x, t, spa, pa, pb, cm, tr, _, c, wd, rfl, hx.nl nl, ht, sp2, m1, h5.1, _, rfl, ?_⟩
          obtain ⟨part, ad, ea, pg, gp, dpp, cp, er⟩ : ∃ part ad, (if (lastSt st acc).1.getD (ixS (cm.map (·.1)) c) "" == wd then pa else pb) = ad ∧ ProgAt H1 ad part ∧ gdL (cm.map (·.1)) part = true ∧ deepL part ≤ d ∧ cntL part ≤ cntL fs + cntL sn ∧ runC (cm.map (·.1)) (.cond c wd fs sn) (lastSt st acc) = runL (cm.map (·.1)) part (lastSt st acc) := by
            by_cases z : ((lastSt st acc).1.getD (ixS (cm.map (·.1)) c) "" == wd) = true
            · refine ⟨fs, pa, if_pos z, ⟨fa, hpa, cfa⟩, gdc.1.2, by omega, by omega, ?_⟩
              conv => lhs; unfold runC
              rw [if_pos z]
            · refine ⟨sn, pb, if_neg z, ⟨sb, hpb, csb⟩, gdc.2, by omega, by omega, ?_⟩
              conv => lhs; unfold runC
              rw [if_neg z]
          have nem : ss ++ acc ≠ [] := by
            cases ss with
            | nil => exact absurd rfl ne
            | cons y r => simp
          refine ⟨x, ad, L, cm, tr, part, us ++ us2, ss ++ acc, lastSt st acc, by rw [ea]; rfl, hx.nl nl, pg, gp, dpp, h1, (sa.keep nl.tups).app h2, nem, (lastSt_def nem).trans els, ?_, by rw [List.length_append]; exact h5, fun H2 us3 o2 hL2 st3 => ?_⟩
          · rw [List.length_append]
            omega
          have t2 := (Off.nl h1 o2).tups
          have app2 := (h2.keep t2).app st3
          rw [List.append_assoc] at hL2
          have ln := runL_len (cm.map (·.1)) part (lastSt st acc)
          have sz2 := runL_sz (cm.map (·.1)) part (lastSt st acc) (ss.length + acc.length) gp (by rw [List.length_map]; exact h5)
          rw [List.length_map] at sz2
          cases eo : runL (cm.map (·.1)) part (lastSt st acc) with
          | mk out fl =>
            rw [eo] at app2 er ln sz2
            dsimp only at app2 ln sz2 ⊢
            cases fl with
            | true =>
              rw [runL_stop er] at h3
              have e1 : (runL (cm.map (·.1)) cs st).1 = acc ++ out := by rw [h3]
              have e2 : (runL (cm.map (·.1)) cs st).2 = true := by rw [h3]
              have q2 := q H2 (us2 ++ us3) (off.trans o2) hL2 (by rw [e1]; exact app2)
              rw [e2] at q2
              exact ⟨_, rfl, ite2 (fun _ => ret_go q2) fun z => absurd rfl z⟩
            | false =>
              rw [runL_on er] at h3
              refine ⟨_, rfl, ite2 (fun z => absurd z (by decide)) fun _ => next_go ?_⟩
              refine ⟨⟨_, rfl⟩, off.trans o2, us2 ++ us3, acc ++ out, hL2, app2, ?_, ?_, ?_⟩
              · rw [h3, ← lastSt_app, List.append_assoc]
              · rw [List.length_append]
                omega
              · rw [← lastSt_app, List.length_append, ← Nat.add_assoc]
                exact sz2
        · exact absurd (by decide +kernel) e
      | plain ws =>
        unfold CmdAt at cav
        obtain ⟨t, rfl, ht⟩ := cav
        unfold gdC at gdc
        rw [show cntL (Cmd.plain ws :: cs.drop (i + 1)) = 1 + cntL (cs.drop (i + 1)) by rw [cntL, cntC]] at h4
        have l0 : 0 < ws.length := by
          cases ws with
          | nil => simp [goodCmd] at gdc
          | cons y r => exact Nat.succ_pos _
        refine name_go ?_
        refine seq_go (ifs_go (test_go (op_go ⟨_, rfl, t, _, _, _, rfl, rfl, .inl (.inl ht), get_word (i := 0) l0, rfl, _, rfl, ite2 (fun e => ?_) fun e => ?_⟩)))
        · rw [dec_str] at e
          have er : runL (cm.map (·.1)) (.plain ws :: cs.drop (i + 1)) (lastSt st acc) = ([], true) := by
            unfold runL runC
            rw [if_pos e]
            rfl
          rw [er] at h3
          have e1 : (runL (cm.map (·.1)) cs st).1 = acc := by rw [h3]; exact List.append_nil _
          have e2 : (runL (cm.map (·.1)) cs st).2 = true := by rw [h3]
          have q2 := q H1 us2 off h1 (by rw [e1]; exact h2)
          rw [e2] at q2
          exact ret_go q2
        · rw [dec_str] at e
          have good : goodCmd (cm.map (·.1)) ws = true ∧ ¬ (ws.getD 0 "" == ("if" : Str)) = true := by
            rw [Bool.or_eq_true] at gdc
            rcases gdc with g | g
            · exfalso
              rw [eq_of_beq g] at e
              exact e (by decide +kernel)
            · rw [Bool.and_eq_true, Bool.and_eq_true, Bool.not_eq_true'] at g
              exact ⟨g.1.1, by simpa using g.2⟩
          refine next_go ?_
          dsimp only
          refine ifs_go (test_go (op_go ⟨_, rfl, t, _, _, _, rfl, rfl, .inl (.inl ht), get_word (i := 0) l0, rfl, _, rfl, ite2 (fun e2 => ?_) fun _ => ?_⟩))
          · rw [dec_str] at e2
            exact absurd e2 good.2
          refine drop_go (bm_go ⟨_, rfl, .inl ⟨rfl, _, .inl (.inl h1)⟩, cons_go ⟨_, rfl, _, rfl, _, rfl, _, rfl, L, _, _, _, rfl, rfl, .inl (.inl h1), hlv, ?_⟩⟩)
          refine ⟨x, t, sp, cm, tr, ws, lastSt st acc, rfl, hx.nl nl, ht, ⟨sp, spa, spb, rfl, sp1, sp2, sp3⟩, good.1, h5.1, ?_, fun r H2 s2 st2 => ?_⟩
          · have := h5.2
            omega
          have hL2 := s2 _ _ h1
          refine ⟨L, _, _, rfl, rfl, hL2, ?_, ?_⟩
          · have := (StsAt.app (sa.keep nl.tups) h2).len
            rw [this, List.length_append, sizeLine_eq]
            omega
          have er : runL (cm.map (·.1)) (.plain ws :: cs.drop (i + 1)) (lastSt st acc) = ([behind (cm.map (·.1)) ws (lastSt st acc)] ++ (runL (cm.map (·.1)) (cs.drop (i + 1)) (behind (cm.map (·.1)) ws (lastSt st acc))).1, (runL (cm.map (·.1)) (cs.drop (i + 1)) (behind (cm.map (·.1)) ws (lastSt st acc))).2) := by
            conv => lhs; unfold runL runC
            rw [if_neg e]
            rfl
          rw [er] at h3
          have lst2 : lastSt st (acc ++ [behind (cm.map (·.1)) ws (lastSt st acc)]) = behind (cm.map (·.1)) ws (lastSt st acc) := by
            unfold lastSt
            rw [List.getLast?_append]
            rfl
          have t2 : Tups H1 (upd H2 L (.lst (us ++ us2 ++ [.ref r]))) := fun b ys hb => by
            rw [upd_ne (ne_of hb h1 fun z => by cases z)]
            exact s2 _ _ hb
          have o2 : Off [L] H1 (upd H2 L (.lst (us ++ us2 ++ [.ref r]))) := fun b o n hb => by
            rw [upd_ne (fun z => n (by rw [z]; exact List.mem_singleton.mpr rfl))]
            exact s2 _ _ hb
          have st3 : StAt (upd H2 L (.lst (us ++ us2 ++ [.ref r]))) (.ref r) (behind (cm.map (·.1)) ws (lastSt st acc)) := st2.keep fun b ys hb => by
            rw [upd_ne (ne_of hb hL2 fun z => by cases z)]
            exact hb
          refine ⟨⟨_, rfl⟩, off.trans o2, us2 ++ [.ref r], acc ++ [behind (cm.map (·.1)) ws (lastSt st acc)], by rw [upd_same, List.append_assoc], (h2.keep t2).app ⟨st3, True.intro⟩, ?_, ?_, ?_⟩
          · rw [lst2, h3, List.append_assoc]
          · rw [List.length_append, List.length_singleton]
            omega
          · rw [lst2]
            have g := behind_sz (ns := cm.map (·.1)) (c := ws) good.1 (k := ss.length + acc.length) (st := lastSt st acc) (by rw [List.length_map]; exact h5)
            rw [List.length_map] at g
            rw [List.length_append, List.length_singleton, ← Nat.add_assoc]
            exact g
    · subst e
      obtain ⟨off, us2, acc, h1, h2, h3, _, _⟩ := a
      rw [ca.len, List.drop_length] at h3
      dsimp only
      refine ret_go ?_
      have e1 : (runL (cm.map (·.1)) cs st).1 = acc := by rw [h3]; exact List.append_nil _
      have e2 : (runL (cm.map (·.1)) cs st).2 = false := by rw [h3]; rfl
      have q2 := q H1 us2 off h1 (by rw [e1]; exact h2)
      rw [e2] at q2
      exact q2
end
end Sc

namespace Sc
open PySem L2 PySem.Spec PyProof.Rows Lm
/-! ### whole_run, stops -/
abbrev sWhole : Stmt := top 40
abbrev sStops : Stmt := top 41
theorem scWhole : FnScope ["release", "program", "words", "states", "failed", "behind", "wakes"] ["release", "program", "words"] (defScope sWhole) := ⟨rfl, rfl, rfl, by decide +kernel, rfl, by decide +kernel, by decide +kernel⟩
theorem scStops : FnScope ["release", "program", "words", "states"] ["release", "program", "words"] (defScope sStops) := ⟨rfl, rfl, rfl, by decide +kernel, rfl, by decide +kernel, by decide +kernel⟩
/-- a program of the release, and words, as a run takes them -/
structure Takes (CR : Addr) (x : Re) (cm : List (Str × List Str)) (tr : List Str) (p a : Addr) (cs : List Cmd) (ws : List Str) (H : Hp) : Prop where
  re : x.At CR cm tr H
  prog : ProgAt H p cs
  good : gdL (cm.map (·.1)) cs = true
  deep : deepL cs ≤ 2
  words : H a = some (.tup (ws.map V.str))
  len : ws.length = cm.length
  few : cntL cs ≤ 40
theorem Takes.same {CR : Addr} {x : Re} {cm : List (Str × List Str)} {tr : List Str} {p a : Addr} {cs : List Cmd} {ws : List Str} {H H' : Hp} (t : Takes CR x cm tr p a cs ws H) (s : Same H H') : Takes CR x cm tr p a cs ws H' := by
  obtain ⟨rs, e, c⟩ := t.prog
  exact ⟨t.re.same s, ⟨rs, s _ _ e, c.keep s.tups⟩, t.good, t.deep, s _ _ t.words, t.len, t.few⟩
def spWhole (CR : Addr) : Sp := fun vs H Q _ => ∃ (x : Re) (p a : Addr) (cm : List (Str × List Str)) (tr : List Str) (cs : List Cmd) (ws : List Str), vs = [.ref x.r, .ref p, .ref a] ∧ Takes CR x cm tr p a cs ws H ∧
  ∀ t b k H', Same H H' → H' t = some (.tup [.ref b, .ref k, .bl (runL (cm.map (·.1)) cs (ws, [])).2]) → H' b = some (.tup ((lastSt (ws, []) (runL (cm.map (·.1)) cs (ws, [])).1).1.map V.str)) → H' k = some (.tup ((lastSt (ws, []) (runL (cm.map (·.1)) cs (ws, [])).1).2.map V.str)) → Q (.ref t) H'
def spStops (CR : Addr) : Sp := fun vs H Q _ => ∃ (x : Re) (p a : Addr) (cm : List (Str × List Str)) (tr : List Str) (cs : List Cmd) (ws : List Str), vs = [.ref x.r, .ref p, .ref a] ∧ Takes CR x cm tr p a cs ws H ∧
  ∀ t us H', Same H H' → H' t = some (.tup us) → StsAt H' us (runL (cm.map (·.1)) cs (ws, [])).1 → Q (.ref t) H'
section
variable {P : Program} {w : World} {K : PySem.W.Frag} {mg : Str → Option Value} {base : Heap} {CR : Addr}
/-- states = [(words, ())], then the run -/
theorem start_go {H : Hp} {a : Addr} {ws : List Str} {R : VK} (ha : H a = some (.tup (ws.map V.str))) (q : ∀ L H', H L = none → Same H H' → (∃ v, H' L = some (.lst [v]) ∧ StsAt H' [v] [(ws, [])]) → R (.ref L) H') (σ : L2.St) (hs : σ[2]? = some (some (.ref a))) :
    tLst (tCons (tTup (tCons (tVar 2) (tCons (tTup tNil) tNil))) tNil) σ H R := by
  refine ⟨_, hs, (by show 0 ≤ sizeLine; decide), fun p0 h0 => ⟨(by show 2 ≤ sizeLine; decide), fun p1 h1 => ⟨(by show 1 ≤ sizeLine; decide), fun L hL => ?_⟩⟩⟩
  have s0 := same_new (o := .tup []) h0
  have s1 := same_new (o := .tup [V.ref a, V.ref p0]) h1
  have s2 := same_new (o := .lst [V.ref p1]) hL
  refine q L _ (NdefX.upd_none (NdefX.upd_none hL)) ((s0.trans s1).trans s2) ⟨_, upd_same, ⟨p1, a, p0, rfl, s2 _ _ upd_same, s2 _ _ (s1 _ _ (s0 _ _ ha)), s2 _ _ (s1 _ _ upd_same)⟩, True.intro⟩
theorem ok_whole {f fR : Addr} {fd fdR : FuncData} (G : Fun K "whole_run" "whole_run" sWhole f fd)
    (GR : FnOk P w K mg base CX0 5 fR fdR ["release", "program", "states"] (spRun CR 2)) (gR : mg "run_commands" = some (.ref fR)) (kR : PySem.W.keepIn K (.ref fR) = true) (bR : Binds K fdR ["release", "program", "states"] []) :
    FnOk P w K mg base CX0 6 f fd ["release", "program", "words"] (spWhole CR) := by
  refine G.ok scWhole (fun vs H Q E h => ?_) (fun cdv A outer s H vs Q E hr h => ?_)
  · obtain ⟨x, p, a, cm, tr, cs, ws, rfl, _⟩ := h
    rfl
  · obtain ⟨x, p, a, cm, tr, cs, ws, rfl, tk, q⟩ := h
    refine ⟨_, pss_cons (ps_set (i := 3) scWhole.nd rfl (Or.inl rfl) (pe_lst (pa_cons (pe_tup (pa_cons (pv 2) (pa_cons (pe_tup pa_nil) pa_nil))) pa_nil)))
      (pss_cons (ps_set (i := 4) scWhole.nd rfl (Or.inl rfl) (pe_call GR hr (by rfl) gR kR bR .nil pass0 (pa_cons (pv 0) (pa_cons (pv 1) (pa_cons (pv 3) pa_nil)))))
      (pss_cons (ps_asg (pe_ix ix_list (pv 3) (pe_un un_neg pe_int) (fun _ _ => rfl)) (pg_tup (by rfl) (pgs_cons (pg_name (i := 5) scWhole.nd rfl (Or.inl rfl)) (pgs_cons (pg_name (i := 6) scWhole.nd rfl (Or.inl rfl)) pgs_nil))))
      (pss_one (ps_ret (pe_tup (pa_cons (pv 5) (pa_cons (pv 6) (pa_cons (pv 4) pa_nil)))))))), ?_⟩
    refine seq_go (asg_go (start_go tk.words (fun L H1 nL s1 ⟨v, hL, sv⟩ => name_go ?_) _ rfl))
    have tk1 := tk.same s1
    dsimp only
    refine seq_go (asg_go ⟨_, rfl, _, rfl, _, rfl, x, p, L, cm, tr, cs, [v], [(ws, [])], (ws, []), rfl, tk1.re, tk1.prog, tk1.good, tk1.deep, hL, sv, by simp, rfl, ?_, ⟨tk.len, Nat.zero_le _⟩, fun H2 us2 o2 hL2 st2 => name_go ?_⟩)
    · have := tk.few
      simp
      omega
    have t2 := (Off.nl hL o2).tups
    have s2 : Same H H2 := fun b u hb => o2 b u (fun z => by
      rw [List.mem_singleton.mp z, nL] at hb
      cases hb) (s1 _ _ hb)
    obtain ⟨lv, hlv, slv⟩ := StsAt.last (st := (ws, [])) ((sv.keep t2).app st2) (by simp)
    have els : lastSt (ws, []) ([(ws, [])] ++ (runL (cm.map (·.1)) cs (ws, [])).1) = lastSt (ws, []) (runL (cm.map (·.1)) cs (ws, [])).1 := by rw [← lastSt_app]; rfl
    rw [els] at slv
    obtain ⟨sp, b, k, rfl, sp1, sp2, sp3⟩ := slv
    dsimp only
    refine seq_go (asg_go ⟨_, rfl, _, rfl, L, _, _, _, rfl, rfl, .inl (.inl hL2), hlv, sp, _, rfl, .inl (.inl sp1), rfl, _, _, rfl, name_go ⟨_, _, rfl, name_go ⟨rfl, ?_⟩⟩⟩)
    dsimp only
    refine ret_go ⟨_, rfl, _, rfl, _, rfl, (by show 3 ≤ sizeLine; decide), fun t ht => ?_⟩
    have s3 := same_new (o := .tup [V.ref b, V.ref k, V.bl (runL (cm.map (·.1)) cs (ws, [])).2]) ht
    exact q t b k _ (s2.trans s3) upd_same (s3 _ _ sp2) (s3 _ _ sp3)
theorem ok_stops {f fR : Addr} {fd fdR : FuncData} (G : Fun K "stops" "stops" sStops f fd) (T : NatR mg)
    (GR : FnOk P w K mg base CX0 5 fR fdR ["release", "program", "states"] (spRun CR 2)) (gR : mg "run_commands" = some (.ref fR)) (kR : PySem.W.keepIn K (.ref fR) = true) (bR : Binds K fdR ["release", "program", "states"] []) :
    FnOk P w K mg base CX0 6 f fd ["release", "program", "words"] (spStops CR) := by
  refine G.ok scStops (fun vs H Q E h => ?_) (fun cdv A outer s H vs Q E hr h => ?_)
  · obtain ⟨x, p, a, cm, tr, cs, ws, rfl, _⟩ := h
    rfl
  · obtain ⟨x, p, a, cm, tr, cs, ws, rfl, tk, q⟩ := h
    refine ⟨_, pss_cons (ps_set (i := 3) scStops.nd rfl (Or.inl rfl) (pe_lst (pa_cons (pe_tup (pa_cons (pv 2) (pa_cons (pe_tup pa_nil) pa_nil))) pa_nil)))
      (pss_cons (ps_expr (pe_call GR hr (by rfl) gR kR bR .nil pass0 (pa_cons (pv 0) (pa_cons (pv 1) (pa_cons (pv 3) pa_nil)))))
      (pss_one (ps_ret (pe_callTy call_tuple_of (by rfl) T.tuple (by decide +kernel) (pa_cons (pe_slice sl_list (pv 3) (po_some pe_int) po_none) pa_nil))))), ?_⟩
    refine seq_go (asg_go (start_go tk.words (fun L H1 nL s1 ⟨v, hL, sv⟩ => name_go ?_) _ rfl))
    have tk1 := tk.same s1
    dsimp only
    refine seq_go (drop_go ⟨_, rfl, _, rfl, _, rfl, x, p, L, cm, tr, cs, [v], [(ws, [])], (ws, []), rfl, tk1.re, tk1.prog, tk1.good, tk1.deep, hL, sv, by simp, rfl, ?_, ⟨tk.len, Nat.zero_le _⟩, fun H2 us2 o2 hL2 st2 => ?_⟩)
    · have := tk.few
      simp
      omega
    have s2 : Same H H2 := fun b u hb => o2 b u (fun z => by
      rw [List.mem_singleton.mp z, nL] at hb
      cases hb) (s1 _ _ hb)
    dsimp only
    refine ret_go (cb_go (cons_go (sl_go ⟨_, rfl, _, rfl, L, _, rfl, .inl (.inl hL2), fun m hm => ?_⟩)))
    have ec : cutV ([v] ++ us2) (some 1) none = us2 := by
      unfold cutV
      rw [show (some (1 : Int)) = some ((1 : Nat) : Int) from rfl, HT.sIx_nat, HT.sIx_none]
      have : min 1 ([v] ++ us2).length = 1 := by simp
      rw [this]
      simp
    rw [ec]
    have s3 := same_new (o := .lst us2) hm
    refine ⟨m, us2, rfl, .inl ⟨.inl (.inl upd_same), fun t ht => ?_⟩⟩
    have s4 := same_new (o := .tup us2) ht
    exact q t us2 _ ((s2.trans s3).trans s4) upd_same (st2.keep (s3.trans s4).tups)
end
end Sc

namespace Sc
open PySem L2 PySem.Spec PyProof.Rows Lm
/-! ### is_row, is_words -/
abbrev sRow : Stmt := top 29
abbrev sIsWords : Stmt := top 31
theorem scRow : FnScope ["value", "many"] ["value", "many"] (defScope sRow) := ⟨rfl, rfl, rfl, by decide +kernel, rfl, by decide +kernel, by decide +kernel⟩
theorem scIsWords : FnScope ["release", "value", "word", "cell"] ["release", "value"] (defScope sIsWords) := ⟨rfl, rfl, rfl, by decide +kernel, rfl, by decide +kernel, by decide +kernel⟩
def spIsRow : Sp := fun vs H Q _ => ∃ (a n : Nat) (xs : List V), vs = [.ref a, .int (n : Nat)] ∧ H a = some (.tup xs) ∧ Q (.bl (xs.length == n)) H
def wordsM (cm : List (Str × List Str)) (ws : List Str) : Bool := ((cm.map (·.1)).zip ws).all fun q => ((look cm q.1).getD []).contains q.2
def spIsWords (CR : Addr) : Sp := fun vs H Q _ => ∃ (x : Re) (a : Addr) (cm : List (Str × List Str)) (tr ws : List Str), vs = [.ref x.r, .ref a] ∧ x.At CR cm tr H ∧ H a = some (.tup (ws.map V.str)) ∧ ws.length = cm.length ∧ ∀ H', Same H H' → Q (.bl (wordsM cm ws)) H'
/-- [e for x, y in zip(t, u)], two tuples of one length -/
theorem zipT_go {K : PySem.W.Frag} {te : TE} {ta : L2.TA} {vs : List Nat} {i j : Nat} {σ : L2.St} {H : Hp} {Q : VK} {a b : Addr} {xs ys : List V} (rs : List V) (h0 : ∀ R : List V → Hp → Prop, R [.ref a, .ref b] H → ta σ H R) (hx : SqT K H a xs) (hy : SqT K H b ys)
    (hl : xs.length = ys.length) (hr : rs.length = xs.length) (hz : xs.length ≤ sizeLine) (hi : ∀ u v, wipe (((wipe σ vs).set i (some u)).set j (some v)) vs = wipe σ vs)
    (hs : ∀ (n : Nat) (x y r : V) (H' : Hp), xs[n]? = some x → ys[n]? = some y → rs[n]? = some r → Same H H' → Elt te (((wipe σ vs).set i (some x)).set j (some y)) H' r)
    (hd : ∀ D H', Same H H' → H' D = some (.lst rs) → Q (.ref D) H') :
    tLc (RZ.iZipA K ta) (gTup K 2 (gCons (gName i) (gCons (gName j) gNil))) tYes te vs σ H Q := by
  refine h0 _ ⟨a, b, xs, ys, rfl, .inr ⟨hx, hy, fun D hn => ?_⟩⟩
  refine ⟨fun n m H1 => m = xs.length - n ∧ n ≤ xs.length ∧ Same H H1 ∧ H1 D = some (.lst (rs.take n)), ⟨_, rfl, Nat.zero_le _, same_new hn, by rw [upd_same, List.take_zero]⟩, ?_⟩
  rintro n m H1 ⟨rfl, hle, s1, hD⟩
  by_cases h : n < xs.length
  · have h2 : n < ys.length := by omega
    have h3 : n < rs.length := by omega
    have ex := List.getElem?_eq_getElem h
    have ey := List.getElem?_eq_getElem h2
    refine .inr ⟨⟨xs, ys, _, _, SqT.same hx s1, SqT.same hy s1, ex, ey⟩, fun H' => Same H H' ∧ H' D = some (.lst (rs.take (n + 1))), fun H' ⟨c, d⟩ => ⟨xs.length - (n + 1), by omega, rfl, h, c, d⟩, ?_⟩
    rintro v H' ⟨T, x, y, rfl, hT, rfl, f1, f2⟩
    have sT := same_new (o := .tup [x, y]) hT
    refine ⟨T, [x, y], rfl, .inl (.inl upd_same), rfl, x, [y], rfl, y, [], rfl, rfl, hi _ _, ?_⟩
    show te _ _ _
    refine hs n x y rs[n] _ (f1 xs (SqT.same hx s1)) (f2 ys (SqT.same hy s1)) (List.getElem?_eq_getElem h3) (s1.trans sT) _ fun H4 s4 => ⟨rs.take n, s4 _ _ (sT _ _ hD), ?_, same_fill hn ((s1.trans sT).trans s4), ?_⟩
    · rw [List.length_take]
      omega
    · rw [upd_same, List.take_succ_eq_append_getElem h3]
  · obtain rfl : n = xs.length := by omega
    refine .inl ⟨⟨xs, ys, SqT.same hx s1, SqT.same hy s1, .inl (Nat.le_refl _)⟩, hd D H1 s1 ?_⟩
    rw [hD, ← hr, List.take_length]
section
variable {P : Program} {w : World} {K : PySem.W.Frag} {mg : Str → Option Value} {base : Heap} {CR : Addr}
theorem ok_row {f : Addr} {fd : FuncData} (G : Fun K "is_row" "is_row" sRow f fd) (T : NatR mg) : FnOk P w K mg base CX0 1 f fd ["value", "many"] spIsRow := by
  refine G.ok scRow (fun vs H Q E h => ?_) (fun cdv A outer s H vs Q E hr h => ?_)
  · obtain ⟨a, n, xs, rfl, _⟩ := h
    rfl
  · obtain ⟨a, n, xs, rfl, ha, q⟩ := h
    refine ⟨_, pss_one (ps_ret (pe_and (pe_callB call_isi (by rfl) T.isi PyProof.Rows.boot_isinstance (pa_cons (pv 0) (pa_cons (pe_bltn (v := .ty "tuple") (by rfl) T.tuple (by decide +kernel) rfl) pa_nil)))
      (pe_one (pe_cmpR op_eq (pe_callB call_len_seq (by rfl) T.len PySem.boot_len (pa_cons (pv 0) pa_nil)) (pv 1) (nomark _))))), ?_⟩
    refine ⟨_, rfl, .ref a, .ty "tuple", .type "tuple", .type "tuple", true, rfl, .ty _, .base (.tup ha), kit_ty (by decide +kernel), tst_go (ite2 (fun _ => ?_) fun z => absurd rfl z)⟩
    refine ⟨_, rfl, a, _, rfl, .inr (.inl (.inl ha)), _, rfl, rfl, ?_⟩
    have e : decide (V.int (xs.length : Nat) = V.int (n : Nat)) = (xs.length == n) := by
      rw [dec_int, Bool.eq_iff_iff, beq_iff_eq, beq_iff_eq]
      omega
    rw [e]
    exact q
theorem ok_isWords {f fR : Addr} {fd fdR : FuncData} (G : Fun K "is_words" "is_words" sIsWords f fd) (T : NatR mg) (O : Own K CR reNames)
    (GR : FnOk P w K mg base CX0 1 fR fdR ["value", "many"] spIsRow) (gR : mg "is_row" = some (.ref fR)) (kR : PySem.W.keepIn K (.ref fR) = true) (bR : Binds K fdR ["value", "many"] []) :
    FnOk P w K mg base CX0 2 f fd ["release", "value"] (spIsWords CR) := by
  refine G.ok scIsWords (fun vs H Q E h => ?_) (fun cdv A outer s H vs Q E hr h => ?_)
  · obtain ⟨x, a, cm, tr, ws, rfl, _⟩ := h
    rfl
  · obtain ⟨x, a, cm, tr, ws, rfl, hx, ha, hl, q⟩ := h
    refine ⟨_, pss_cons (ps_if (pt_not (pt_val (pe_call GR hr (by rfl) gR kR bR .nil pass0 (pa_cons (pv 1) (pa_cons (pe_callB call_len_seq (by rfl) T.len PySem.boot_len (pa_cons (pe_fld (pv 0) rfl) pa_nil)) pa_nil))))) (pss_one (ps_ret pe_bl)) pss_nil)
      (pss_one (ps_ret (pe_callB (cr_all rfl) (by rfl) T.all (by decide +kernel) (pa_cons (pe_lc (te := tOp (rIn K false) (tVar 2) (tDGet (tFld K (tVar 0) "words_of") (tVar 3))) (own := [("word", 2), ("cell", 3)]) (g := gTup K 2 (gCons (gName 3) (gCons (gName 2) gNil))) (tt := tYes) rfl scIsWords.nd (RZ.pi_zipA (by rfl) T.zip (pa_cons (pe_fld (pv 0) rfl) (pa_cons (pv 1) pa_nil))) (blkOk_by (own := [("word", 2), ("cell", 3)]) (N := ["release", "value", "word", "cell"]) (sc := defScope sIsWords) (by decide +kernel))
          (fun _ _ _ _ _ => pg_tup rfl (pgs_cons (pg_name (i := 3) scIsWords.nd rfl (Or.inl rfl)) (pgs_cons (pg_name (i := 2) scIsWords.nd rfl (Or.inl rfl)) pgs_nil))) (fun _ _ _ _ _ => pts_nil) (fun _ _ _ _ _ => pe_cmpR (r := rIn K false) op_in_seq (pv 2) (pe_dget (u1 hr.units) (pe_fld (pv 0) rfl) (pv 3) (fun _ _ => rfl)) (by rfl))) pa_nil)))), ?_⟩
    have el : (ws.map V.str).length = ((cm.map (·.1)).map V.str).length := by
      rw [List.length_map, List.length_map, List.length_map, hl]
    refine seq_go (ifs_go (not_go (val_go ⟨_, rfl, cb_go (cons_go (fld_re O hx rfl (by decide) x.lk_cells ⟨x.cells, _, rfl, .inr hx.cells.sq, a, _, _, rfl, ha, ?_⟩))⟩)))
    rw [el, beq_self_eq_true]
    refine ⟨_, rfl, ite2 (fun z => absurd z (by decide)) fun _ => next_go ?_⟩
    dsimp only
    obtain ⟨ks, hks, dk⟩ := hx.words
    have few := hx.few
    refine ret_go (all_go (((cm.map (·.1)).zip ws).map fun q => ((look cm q.1).getD []).contains q.2) (fun R k => ?_) fun H' s => ?_)
    · refine zipT_go ((((cm.map (·.1)).zip ws).map fun q => ((look cm q.1).getD []).contains q.2).map V.bl) (fun R k => fld_re O hx rfl (by decide) x.lk_cells ⟨_, rfl, k⟩) hx.cells.sq (.inl (.inl ha)) el.symm ?_ ?_ (fun u v => rfl) (fun n c wd r H' hc hw hb s1 R k => ?_) fun D H' s e => k D H' s e
      · simp [hl]
      · rw [List.length_map, List.length_map, sizeLine_eq]
        omega
      · obtain ⟨c, hc1, rfl⟩ := map_get hc
        obtain ⟨wd, hw1, rfl⟩ := map_get hw
        have hz : ((cm.map (·.1)).zip ws)[n]? = some (c, wd) := by
          rw [List.getElem?_zip_eq_some]
          exact ⟨hc1, hw1⟩
        rw [List.getElem?_map, List.getElem?_map, hz] at hb
        have hb := (Option.some.inj hb).symm
        subst hb
        have hx2 := hx.same s1
        obtain ⟨qc, hqc, eqc⟩ := List.mem_map.mp (List.mem_of_getElem? hc1)
        obtain ⟨wl, hwl⟩ := look_there hqc
        rw [eqc] at hwl
        obtain ⟨ks2, hks2, dk2⟩ := hx2.words
        obtain ⟨v, hv, p, rfl, hp⟩ := (dict_look (k := c) dk2).2 wl hwl
        have g := DGet.k (k := .inr c) hks2
        rw [hv] at g
        refine op_go ⟨_, rfl, ?_⟩
        refine fld_re O hx2 rfl (by decide) x.lk_words ⟨_, rfl, x.words, _, rfl, g, ?_⟩
        refine ⟨p, _, rfl, .inr (.inl (.inl hp)), rfl, ?_, ?_⟩
        · rw [List.all_map]
          exact List.all_eq_true.mpr fun _ _ => rfl
        · show R (.bl (inV (.str wd) (wl.map V.str))) H'
          rw [inV_str]
          dsimp only at k
          rw [hwl] at k
          exact k _ (Same.refl _)
    · have e : ((((cm.map (·.1)).zip ws).map fun q => ((look cm q.1).getD []).contains q.2).all id) = wordsM cm ws := by
        unfold wordsM
        rw [List.all_map]
        rfl
      rw [e]
      exact q H' s
end
end Sc

namespace Sc
open PySem L2 PySem.Spec PyProof.Rows Lm
/-! ### is_program -/
abbrev sIsProg : Stmt := top 32
abbrev sIsPart : Stmt := top 33
abbrev sIsCmd : Stmt := top 34
abbrev sIsIf : Stmt := top 35
theorem scIsProg : FnScope ["release", "value"] ["release", "value"] (defScope sIsProg) := ⟨rfl, rfl, rfl, by decide +kernel, rfl, by decide +kernel, by decide +kernel⟩
theorem scIsPart : FnScope ["release", "value", "least", "most", "ifs", "command"] ["release", "value", "least", "most", "ifs"] (defScope sIsPart) := ⟨rfl, rfl, rfl, by decide +kernel, rfl, by decide +kernel, by decide +kernel⟩
theorem scIsCmd : FnScope ["release", "value", "ifs"] ["release", "value", "ifs"] (defScope sIsCmd) := ⟨rfl, rfl, rfl, by decide +kernel, rfl, by decide +kernel, by decide +kernel⟩
theorem scIsIf : FnScope ["release", "value", "ifs"] ["release", "value", "ifs"] (defScope sIsIf) := ⟨rfl, rfl, rfl, by decide +kernel, rfl, by decide +kernel, by decide +kernel⟩
theorem call_go {sp : Sp} {ds : List V} {E : XK} {t : L2.TA} {σ : L2.St} {H : Hp} {Q : VK} (h : t σ H fun vs H1 => sp (vs ++ ds) H1 Q E) : tCall sp ds E t σ H Q := h
mutual
def cmdM (cm : List (Str × List Str)) (tr : List Str) : Cmd → Bool
  | .plain ws => cmdOf cm tr ws
  | .cond c w f s => hasWord cm c w && (decide (1 ≤ f.length) && decide (f.length ≤ 4) && cmdsM cm tr f && (decide (s.length ≤ 4) && cmdsM cm tr s))
def cmdsM (cm : List (Str × List Str)) (tr : List Str) : List Cmd → Bool
  | [] => true
  | c :: cs => cmdM cm tr c && cmdsM cm tr cs
end
def partM (cm : List (Str × List Str)) (tr : List Str) (least most : Nat) (cs : List Cmd) : Bool := decide (least ≤ cs.length) && decide (cs.length ≤ most) && cmdsM cm tr cs
mutual
def rightC : Cmd → Bool
  | .plain ws => !ws.isEmpty && ws.all (fun x => PyData.strOk x) && !(ws.getD 0 "" == ("if" : Str))
  | .cond _ _ f s => rightL f && rightL s && decide (f.length ≤ 100) && decide (s.length ≤ 100)
def rightL : List Cmd → Bool
  | [] => true
  | c :: cs => rightC c && rightL cs
end
theorem cmdsM_all (cm : List (Str × List Str)) (tr : List Str) : ∀ cs : List Cmd, cmdsM cm tr cs = (cs.map (cmdM cm tr)).all id
  | [] => rfl
  | c :: cs => by
    unfold cmdsM
    rw [cmdsM_all cm tr cs]
    rfl
theorem right_mem {c : Cmd} : ∀ {cs : List Cmd}, rightL cs = true → c ∈ cs → rightC c = true
  | [], _, h => by cases h
  | x :: r, g, h => by
    unfold rightL at g
    rw [Bool.and_eq_true] at g
    rcases List.mem_cons.mp h with e | h
    · rw [e]
      exact g.1
    · exact right_mem g.2 h
def spIsCmd (CR : Addr) (i : Nat) : Sp := fun vs H Q _ => ∃ (x : Re) (v : V) (cm : List (Str × List Str)) (tr : List Str) (c : Cmd), vs = [.ref x.r, v, .int (i : Nat)] ∧ x.At CR cm tr H ∧ CmdAt H v c ∧ rightC c = true ∧ deepC c ≤ i ∧ ∀ H', Same H H' → Q (.bl (cmdM cm tr c)) H'
def spIsPart (CR : Addr) (i : Nat) : Sp := fun vs H Q _ => ∃ (x : Re) (a least most : Nat) (cm : List (Str × List Str)) (tr : List Str) (cs : List Cmd), vs = [.ref x.r, .ref a, .int (least : Nat), .int (most : Nat), .int (i : Nat)] ∧ x.At CR cm tr H ∧ ProgAt H a cs ∧ rightL cs = true ∧ cs.length ≤ 100 ∧ deepL cs ≤ i ∧
  ∀ H', Same H H' → Q (.bl (partM cm tr least most cs)) H'
def spIsIf (CR : Addr) (i : Nat) : Sp := fun vs H Q _ => ∃ (x : Re) (p a b : Addr) (cm : List (Str × List Str)) (tr : List Str) (c w : Str) (f s : List Cmd), vs = [.ref x.r, .ref p, .int (i : Nat)] ∧ x.At CR cm tr H ∧ H p = some (.tup [.str "if", .str c, .str w, .ref a, .ref b]) ∧ ProgAt H a f ∧ ProgAt H b s ∧ rightC (.cond c w f s) = true ∧ deepC (.cond c w f s) ≤ i + 1 ∧
  ∀ H', Same H H' → Q (.bl (cmdM cm tr (.cond c w f s))) H'
section
variable {P : Program} {w : World} {K : PySem.W.Frag} {mg : Str → Option Value} {base : Heap} {CR : Addr}
theorem ok_isCmd0 {f fO : Addr} {fd fdO : FuncData} (G : Fun K "is_command" "is_command" sIsCmd f fd) (T : NatR mg) (O : Own K CR reNames)
    (GO : FnOk P w K mg base CX0 2 fO fdO ["cells", "triggers", "command"] (spCmdOf K)) (gO : mg "is_command_of" = some (.ref fO)) (kO : PySem.W.keepIn K (.ref fO) = true) (bO : Binds K fdO ["cells", "triggers", "command"] []) :
    FnOk P w K mg base CX0 3 f fd ["release", "value", "ifs"] (spIsCmd CR 0) := by
  refine G.ok scIsCmd (fun vs H Q E h => ?_) (fun cdv A outer s H vs Q E hr h => ?_)
  · obtain ⟨x, v, cm, tr, c, rfl, _⟩ := h
    rfl
  · obtain ⟨x, v, cm, tr, c, rfl, hx, hc, rc, dc, q⟩ := h
    refine ⟨_, pss_cons (ps_if (PW.pt (pw_or (pt_not (pt_val (pe_callB call_isi (by rfl) T.isi PyProof.Rows.boot_isinstance (pa_cons (pv 1) (pa_cons (pe_bltn (v := .ty "tuple") (by rfl) T.tuple (by decide +kernel) rfl) pa_nil)))))
        (pw_or1 (pt_cmpR op_eq (pe_callB call_len_seq (by rfl) T.len PySem.boot_len (pa_cons (pv 1) pa_nil)) pe_int (nomark _))))) (pss_one (ps_ret pe_bl)) pss_nil)
      (pss_cons (ps_if (pt_cmpR op_eq (pe_ix ix_tup (pv 1) pe_int (fun _ _ => rfl)) pe_str (nomark _)) pss_never pss_nil)
      (pss_one (ps_ret (pe_call GO hr (by rfl) gO kO bO .nil pass0 (pa_cons (pe_fld (pv 0) rfl) (pa_cons (pe_fld (pv 0) rfl) (pa_cons (pv 1) pa_nil))))))), ?_⟩
    cases c with
    | cond c w f s =>
      unfold deepC at dc
      omega
    | plain ws =>
      unfold CmdAt at hc
      obtain ⟨p, rfl, hp⟩ := hc
      unfold rightC at rc
      rw [Bool.and_eq_true, Bool.and_eq_true] at rc
      obtain ⟨⟨ne, ok⟩, ni⟩ := rc
      have ne : ws ≠ [] := by simpa using ne
      have l0 : 0 < ws.length := List.length_pos_iff.mpr ne
      refine seq_go (ifs_go (or_go (not_go (val_go ⟨_, rfl, .ref p, .ty "tuple", .type "tuple", .type "tuple", true, rfl, .ty _, .base (.tup hp), kit_ty (by decide +kernel), _, rfl, ite2 (fun z => absurd z (by decide)) fun _ => ?_⟩))))
      refine test_go (op_go ⟨_, rfl, p, _, rfl, .inr (.inl (.inl hp)), rfl, _, rfl, ite2 (fun z => ?_) fun _ => next_go ?_⟩)
      · rw [dec_int, List.length_map] at z
        have z := eq_of_beq z
        omega
      dsimp only
      refine seq_go (ifs_go (test_go (op_go ⟨_, rfl, p, _, _, _, rfl, rfl, .inl (.inl hp), get_word (i := 0) l0, rfl, _, rfl, ite2 (fun e => ?_) fun _ => next_go ?_⟩)))
      · rw [dec_str] at e
        rw [e] at ni
        cases ni
      dsimp only
      obtain ⟨ks, hks, dk⟩ := hx.words
      refine ret_go (call_go (cons_go (fld_re O hx rfl (by decide) x.lk_words (cons_go (fld_re O hx rfl (by decide) x.lk_triggers ⟨_, rfl, ?_⟩)))))
      refine ⟨x.words, x.triggers, p, ks, cm, tr, ws, rfl, hks, dk, hx.wok, .inr (.inl (.inl hx.trig)), .inl (.inl hp), ne, ?_, q⟩
      exact fun y hy => (List.all_eq_true.mp ok) y hy
theorem ok_isCmdS {i k : Nat} {f fO fI : Addr} {fd fdO fdI : FuncData} (hk : 2 ≤ k) (G : Fun K "is_command" "is_command" sIsCmd f fd) (T : NatR mg) (O : Own K CR reNames)
    (GO : FnOk P w K mg base CX0 2 fO fdO ["cells", "triggers", "command"] (spCmdOf K)) (gO : mg "is_command_of" = some (.ref fO)) (kO : PySem.W.keepIn K (.ref fO) = true) (bO : Binds K fdO ["cells", "triggers", "command"] [])
    (GI : FnOk P w K mg base CX0 k fI fdI ["release", "value", "ifs"] (spIsIf CR i)) (gI : mg "is_if" = some (.ref fI)) (kI : PySem.W.keepIn K (.ref fI) = true) (bI : Binds K fdI ["release", "value", "ifs"] []) :
    FnOk P w K mg base CX0 (k + 1) f fd ["release", "value", "ifs"] (spIsCmd CR (i + 1)) := by
  refine G.ok scIsCmd (fun vs H Q E h => ?_) (fun cdv A outer s H vs Q E hr h => ?_)
  · obtain ⟨x, v, cm, tr, c, rfl, _⟩ := h
    rfl
  · obtain ⟨x, v, cm, tr, c, rfl, hx, hc, rc, dc, q⟩ := h
    have hr2 := hr.mono (show 2 ≤ k by omega)
    refine ⟨_, pss_cons (ps_if (PW.pt (pw_or (pt_not (pt_val (pe_callB call_isi (by rfl) T.isi PyProof.Rows.boot_isinstance (pa_cons (pv 1) (pa_cons (pe_bltn (v := .ty "tuple") (by rfl) T.tuple (by decide +kernel) rfl) pa_nil)))))
        (pw_or1 (pt_cmpR op_eq (pe_callB call_len_seq (by rfl) T.len PySem.boot_len (pa_cons (pv 1) pa_nil)) pe_int (nomark _))))) (pss_one (ps_ret pe_bl)) pss_nil)
      (pss_cons (ps_if (pt_cmpR op_eq (pe_ix ix_tup (pv 1) pe_int (fun _ _ => rfl)) pe_str (nomark _)) (pss_one (ps_ret (pe_and (pe_cmpR op_gt (pv 2) pe_int (nomark _)) (pe_one (pe_call GI hr (by rfl) gI kI bI .nil pass0 (pa_cons (pv 0) (pa_cons (pv 1) (pa_cons (pe_op op_sub (pv 2) pe_int) pa_nil)))))))) pss_nil)
      (pss_one (ps_ret (pe_call GO hr2 (by rfl) gO kO bO .nil pass0 (pa_cons (pe_fld (pv 0) rfl) (pa_cons (pe_fld (pv 0) rfl) (pa_cons (pv 1) pa_nil))))))), ?_⟩
    cases c with
    | cond c w f s =>
      have hc2 := hc
      unfold CmdAt at hc
      obtain ⟨p, a, b, fa, sb, rfl, hp, ha, cf, hb, cs⟩ := hc
      refine seq_go (ifs_go (or_go (not_go (val_go ⟨_, rfl, .ref p, .ty "tuple", .type "tuple", .type "tuple", true, rfl, .ty _, .base (.tup hp), kit_ty (by decide +kernel), _, rfl, ite2 (fun z => absurd z (by decide)) fun _ => ?_⟩))))
      refine test_go (op_go ⟨_, rfl, p, _, rfl, .inr (.inl (.inl hp)), rfl, _, rfl, ite2 (fun z => ?_) fun _ => next_go ?_⟩)
      · rw [dec_int] at z
        simp at z
      dsimp only
      refine seq_go (ifs_go (test_go (op_go ⟨_, rfl, p, _, _, _, rfl, rfl, .inl (.inl hp), rfl, rfl, _, rfl, ite2 (fun _ => ?_) fun z => ?_⟩)))
      · refine ret_go ⟨_, rfl, _, _, rfl, rfl, _, rfl, ite2 (fun _ => ?_) fun z => ?_⟩
        · have sub : (((i + 1 : Nat) : Int) - 1) = (i : Nat) := by omega
          refine ⟨_, rfl, _, rfl, _, rfl, _, _, rfl, rfl, x, p, a, b, cm, tr, c, w, f, s, congrArg (fun z => [V.ref x.r, V.ref p, V.int z]) sub, hx, hp, ⟨_, ha, cf⟩, ⟨_, hb, cs⟩, rc, dc, q⟩
        · exact absurd (decide_eq_true (show (0 : Int) < ((i + 1 : Nat) : Int) by omega)) z
      · exact absurd (by decide +kernel) z
    | plain ws =>
      unfold CmdAt at hc
      obtain ⟨p, rfl, hp⟩ := hc
      unfold rightC at rc
      rw [Bool.and_eq_true, Bool.and_eq_true] at rc
      obtain ⟨⟨ne, ok⟩, ni⟩ := rc
      have ne : ws ≠ [] := by simpa using ne
      have l0 : 0 < ws.length := List.length_pos_iff.mpr ne
      refine seq_go (ifs_go (or_go (not_go (val_go ⟨_, rfl, .ref p, .ty "tuple", .type "tuple", .type "tuple", true, rfl, .ty _, .base (.tup hp), kit_ty (by decide +kernel), _, rfl, ite2 (fun z => absurd z (by decide)) fun _ => ?_⟩))))
      refine test_go (op_go ⟨_, rfl, p, _, rfl, .inr (.inl (.inl hp)), rfl, _, rfl, ite2 (fun z => ?_) fun _ => next_go ?_⟩)
      · rw [dec_int, List.length_map] at z
        have z := eq_of_beq z
        omega
      dsimp only
      refine seq_go (ifs_go (test_go (op_go ⟨_, rfl, p, _, _, _, rfl, rfl, .inl (.inl hp), get_word (i := 0) l0, rfl, _, rfl, ite2 (fun e => ?_) fun _ => next_go ?_⟩)))
      · rw [dec_str] at e
        rw [e] at ni
        cases ni
      dsimp only
      obtain ⟨ks, hks, dk⟩ := hx.words
      refine ret_go (call_go (cons_go (fld_re O hx rfl (by decide) x.lk_words (cons_go (fld_re O hx rfl (by decide) x.lk_triggers ⟨_, rfl, ?_⟩)))))
      refine ⟨x.words, x.triggers, p, ks, cm, tr, ws, rfl, hks, dk, hx.wok, .inr (.inl (.inl hx.trig)), .inl (.inl hp), ne, ?_, q⟩
      exact fun y hy => (List.all_eq_true.mp ok) y hy
end
end Sc

namespace Sc
open PySem L2 PySem.Spec PyProof.Rows Lm
theorem ProgAt.same {H H' : Hp} {a : Addr} {cs : List Cmd} (h : ProgAt H a cs) (s : Same H H') : ProgAt H' a cs := by
  obtain ⟨rs, e, c⟩ := h
  exact ⟨rs, s _ _ e, c.keep s.tups⟩
/-- [e for x in t], t a tuple that stands still -/
theorem tups_go {K : PySem.W.Frag} {te tl : TE} {vs : List Nat} {i : Nat} {σ : L2.St} {H : Hp} {Q : VK} {a : Addr} {xs : List V} (rs : List V) (h0 : ∀ R : VK, R (.ref a) H → tl σ H R) (ha : SqT K H a xs) (hr : rs.length = xs.length) (hz : xs.length ≤ sizeLine)
    (hi : ∀ u, wipe ((wipe σ vs).set i (some u)) vs = wipe σ vs) (hs : ∀ (n : Nat) (x r : V) (H' : Hp), xs[n]? = some x → rs[n]? = some r → Same H H' → Elt te ((wipe σ vs).set i (some x)) H' r)
    (hd : ∀ D H', Same H H' → H' D = some (.lst rs) → Q (.ref D) H') : tLc (iTup K tl) (gName i) tYes te vs σ H Q := by
  refine h0 _ ⟨a, rfl, ⟨_, ha⟩, fun D hn => items_go (J := Itt K a) rs hr hz hi
    (fun n H' s h => ⟨_, _, SqT.same ha s, List.getElem?_eq_getElem h⟩) (fun n H' v H2 s y => ⟨y.1, y.2 _ (SqT.same ha s)⟩) (fun H' s => ⟨_, SqT.same ha s, Nat.le_refl _⟩) hs hd D hn⟩
section
variable {P : Program} {w : World} {K : PySem.W.Frag} {mg : Str → Option Value} {base : Heap} {CR : Addr}
theorem ok_isPart {i k : Nat} {f fC : Addr} {fd fdC : FuncData} (G : Fun K "is_part" "is_part" sIsPart f fd) (T : NatR mg) (O : Own K CR reNames)
    (GC : FnOk P w K mg base CX0 k fC fdC ["release", "value", "ifs"] (spIsCmd CR i)) (gC : mg "is_command" = some (.ref fC)) (kC : PySem.W.keepIn K (.ref fC) = true) (bC : Binds K fdC ["release", "value", "ifs"] []) :
    FnOk P w K mg base CX0 (k + 1) f fd ["release", "value", "least", "most", "ifs"] (spIsPart CR i) := by
  refine G.ok scIsPart (fun vs H Q E h => ?_) (fun cdv A outer s H vs Q E hr h => ?_)
  · obtain ⟨x, a, least, most, cm, tr, cs, rfl, _⟩ := h
    rfl
  · obtain ⟨x, a, least, most, cm, tr, cs, rfl, hx, pg, rc, few, dc, q⟩ := h
    refine ⟨_, pss_cons (ps_if (PW.pt (pw_or (pt_not (pt_val (pe_callB call_isi (by rfl) T.isi PyProof.Rows.boot_isinstance (pa_cons (pv 1) (pa_cons (pe_bltn (v := .ty "tuple") (by rfl) T.tuple (by decide +kernel) rfl) pa_nil)))))
        (pw_or1 (pt_not (pt_chain op_le op_le (pv 2) (pe_callB call_len_seq (by rfl) T.len PySem.boot_len (pa_cons (pv 1) pa_nil)) (pv 3)))))) (pss_one (ps_ret pe_bl)) pss_nil)
      (pss_one (ps_ret (pe_callB (cr_all rfl) (by rfl) T.all (by decide +kernel) (pa_cons (pe_lc (own := [("command", 5)]) (g := gName 5) (tt := tYes) (te := tCall (spIsCmd CR i) [] E0 (tCons (tVar 0) (tCons (tVar 5) (tCons (tVar 4) tNil)))) rfl scIsPart.nd (pi_tup (pv 1)) (blkOk_by (own := [("command", 5)]) (N := ["release", "value", "least", "most", "ifs", "command"]) (sc := defScope sIsPart) (by decide +kernel))
          (fun _ _ _ _ _ => pg_name (i := 5) scIsPart.nd rfl (Or.inl rfl)) (fun _ _ _ _ _ => pts_nil) (fun _ _ _ _ _ => pe_call GC hr (by rfl) gC kC bC .nil pass0 (pa_cons (pv 0) (pa_cons (pv 5) (pa_cons (pv 4) pa_nil))))) pa_nil)))), ?_⟩
    obtain ⟨rs, hrs, ca⟩ := pg
    have hl := ca.len
    refine seq_go (ifs_go (or_go (not_go (val_go ⟨_, rfl, .ref a, .ty "tuple", .type "tuple", .type "tuple", true, rfl, .ty _, .base (.tup hrs), kit_ty (by decide +kernel), _, rfl, ite2 (fun z => absurd z (by decide)) fun _ => ?_⟩))))
    refine not_go (test_go ?_)
    refine ⟨_, rfl, _, rfl, a, _, rfl, .inr (.inl (.inl hrs)), _, _, rfl, rfl, _, rfl, ?_⟩
    have dl : ∀ m n : Nat, decide ((m : Int) ≤ (n : Int)) = decide (m ≤ n) := fun m n => by
      rw [decide_eq_decide]
      omega
    unfold partM at q
    rw [hl]
    refine ite2 (fun e => ?_) fun e => ?_
    · rw [dl] at e
      refine ⟨_, rfl, _, _, rfl, rfl, _, rfl, ?_⟩
      rw [dl]
      rw [e] at q
      by_cases z : cs.length ≤ most
      · rw [decide_eq_true z]
        rw [decide_eq_true z] at q
        refine ite2 (fun z => absurd z (by decide)) fun _ => next_go ?_
        dsimp only
        refine ret_go (all_go (cs.map (cmdM cm tr)) (fun R k => ?_) fun H' s => ?_)
        · refine tups_go ((cs.map (cmdM cm tr)).map V.bl) (fun R k => ⟨_, rfl, k⟩) (.inl (.inl hrs)) ?_ ?_ (fun u => rfl) (fun n v r H' hv hb s1 R k => ?_) fun D H' s e => k D H' s e
          · rw [List.length_map, List.length_map, hl]
          · rw [hl, sizeLine_eq]
            omega
          · obtain ⟨c, hc, cav⟩ := ca.get hv
            rw [List.getElem?_map, List.getElem?_map, hc] at hb
            have hb := (Option.some.inj hb).symm
            subst hb
            have mem := List.mem_of_getElem? hc
            refine ⟨_, rfl, _, rfl, _, rfl, x, v, cm, tr, c, rfl, hx.same s1, cav.keep s1.tups, right_mem rc mem, Nat.le_trans (deep_mem mem) dc, fun H2 s2 => k H2 s2⟩
        · rw [← cmdsM_all]
          exact q H' s
      · rw [decide_eq_false z]
        rw [decide_eq_false z] at q
        exact ite2 (fun _ => ret_go (q H (Same.refl H))) fun z => absurd rfl z
    · rw [dl] at e
      rw [Bool.eq_false_iff.mpr e] at q
      refine ⟨_, rfl, ite2 (fun _ => ret_go (q H (Same.refl H))) fun z => absurd rfl z⟩
end
end Sc

namespace Sc
open PySem L2 PySem.Spec PyProof.Rows Lm
abbrev sDone : Stmt := top 36
abbrev sCuts : Stmt := top 37
abbrev sRefP : Stmt := top 38
abbrev sRefW : Stmt := top 39
theorem scDone : FnScope ["release", "program", "words"] ["release", "program", "words"] (defScope sDone) := ⟨rfl, rfl, rfl, by decide +kernel, rfl, by decide +kernel, by decide +kernel⟩
theorem scCuts : FnScope ["release", "program", "words"] ["release", "program", "words"] (defScope sCuts) := ⟨rfl, rfl, rfl, by decide +kernel, rfl, by decide +kernel, by decide +kernel⟩
theorem scRefP : FnScope ["release", "program"] ["release", "program"] (defScope sRefP) := ⟨rfl, rfl, rfl, by decide +kernel, rfl, by decide +kernel, by decide +kernel⟩
theorem scRefW : FnScope ["release", "words"] ["release", "words"] (defScope sRefW) := ⟨rfl, rfl, rfl, by decide +kernel, rfl, by decide +kernel, by decide +kernel⟩
def progM (cm : List (Str × List Str)) (tr : List Str) (cs : List Cmd) : Bool := partM cm tr 0 6 cs
def spIsProg (CR : Addr) : Sp := fun vs H Q _ => ∃ (x : Re) (a : Nat) (cm : List (Str × List Str)) (tr : List Str) (cs : List Cmd), vs = [.ref x.r, .ref a] ∧ x.At CR cm tr H ∧ ProgAt H a cs ∧ rightL cs = true ∧ cs.length ≤ 100 ∧ deepL cs ≤ 2 ∧ ∀ H', Same H H' → Q (.bl (progM cm tr cs)) H'
def spRefP (CR : Addr) : Sp := fun vs H Q _ => ∃ (x : Re) (a : Nat) (cm : List (Str × List Str)) (tr : List Str) (cs : List Cmd), vs = [.ref x.r, .ref a] ∧ x.At CR cm tr H ∧ ProgAt H a cs ∧ rightL cs = true ∧ cs.length ≤ 100 ∧ deepL cs ≤ 2 ∧ progM cm tr cs = true ∧ ∀ H', Same H H' → Q .non H'
def spRefW (CR : Addr) : Sp := fun vs H Q _ => ∃ (x : Re) (a : Addr) (cm : List (Str × List Str)) (tr ws : List Str), vs = [.ref x.r, .ref a] ∧ x.At CR cm tr H ∧ H a = some (.tup (ws.map V.str)) ∧ ws.length = cm.length ∧ wordsM cm ws = true ∧ ∀ H', Same H H' → Q .non H'
/-- a run of a program of the release from words of it -/
structure Asked (CR : Addr) (x : Re) (cm : List (Str × List Str)) (tr : List Str) (p a : Addr) (cs : List Cmd) (ws : List Str) (H : Hp) : Prop where
  tk : Takes CR x cm tr p a cs ws H
  right : rightL cs = true
  short : cs.length ≤ 100
  prog : progM cm tr cs = true
  ok : wordsM cm ws = true
theorem Asked.same {CR : Addr} {x : Re} {cm : List (Str × List Str)} {tr : List Str} {p a : Addr} {cs : List Cmd} {ws : List Str} {H H' : Hp} (t : Asked CR x cm tr p a cs ws H) (s : Same H H') : Asked CR x cm tr p a cs ws H' := ⟨t.tk.same s, t.right, t.short, t.prog, t.ok⟩
def spDone (CR : Addr) : Sp := fun vs H Q _ => ∃ (x : Re) (p a : Addr) (cm : List (Str × List Str)) (tr : List Str) (cs : List Cmd) (ws : List Str), vs = [.ref x.r, .ref p, .ref a] ∧ Asked CR x cm tr p a cs ws H ∧
  ∀ t b k H', Same H H' → H' t = some (.tup [.ref b, .ref k, .bl (runL (cm.map (·.1)) cs (ws, [])).2]) → H' b = some (.tup ((lastSt (ws, []) (runL (cm.map (·.1)) cs (ws, [])).1).1.map V.str)) → H' k = some (.tup ((lastSt (ws, []) (runL (cm.map (·.1)) cs (ws, [])).1).2.map V.str)) → Q (.ref t) H'
def spCuts (CR : Addr) : Sp := fun vs H Q _ => ∃ (x : Re) (p a : Addr) (cm : List (Str × List Str)) (tr : List Str) (cs : List Cmd) (ws : List Str), vs = [.ref x.r, .ref p, .ref a] ∧ Asked CR x cm tr p a cs ws H ∧
  ∀ t us H', Same H H' → H' t = some (.tup us) → StsAt H' us (runL (cm.map (·.1)) cs (ws, [])).1 → Q (.ref t) H'
section
variable {P : Program} {w : World} {K : PySem.W.Frag} {mg : Str → Option Value} {base : Heap} {CR : Addr}
theorem ok_isIf {i k : Nat} {f fP fH : Addr} {fd fdP fdH : FuncData} (hk : 1 ≤ k) (G : Fun K "is_if" "is_if" sIsIf f fd) (T : NatR mg) (O : Own K CR reNames)
    (GP : FnOk P w K mg base CX0 k fP fdP ["release", "value", "least", "most", "ifs"] (spIsPart CR i)) (gP : mg "is_part" = some (.ref fP)) (kP : PySem.W.keepIn K (.ref fP) = true) (bP : Binds K fdP ["release", "value", "least", "most", "ifs"] [])
    (GH : FnOk P w K mg base CX0 1 fH fdH ["cells", "cell", "word"] spHas) (gH : mg "has_word" = some (.ref fH)) (kH : PySem.W.keepIn K (.ref fH) = true) (bH : Binds K fdH ["cells", "cell", "word"] []) :
    FnOk P w K mg base CX0 (k + 1) f fd ["release", "value", "ifs"] (spIsIf CR i) := by
  refine G.ok scIsIf (fun vs H Q E h => ?_) (fun cdv A outer s H vs Q E hr h => ?_)
  · obtain ⟨x, p, a, b, cm, tr, c, wd, f, s, rfl, _⟩ := h
    rfl
  · obtain ⟨x, p, a, b, cm, tr, c, wd, f, s, rfl, hx, hp, pa, pb, rc, dc, q⟩ := h
    have hr1 := hr.mono hk
    refine ⟨_, pss_cons (ps_if (PW.pt (pw_or (pt_cmpR op_ne (pe_callB call_len_seq (by rfl) T.len PySem.boot_len (pa_cons (pv 1) pa_nil)) pe_int (nomark _))
        (pw_or1 (pt_not (pt_val (pe_call GH hr1 (by rfl) gH kH bH .nil pass0 (pa_cons (pe_fld (pv 0) rfl) (pa_cons (pe_ix ix_tup (pv 1) pe_int (fun _ _ => rfl)) (pa_cons (pe_ix ix_tup (pv 1) pe_int (fun _ _ => rfl)) pa_nil))))))))) (pss_one (ps_ret pe_bl)) pss_nil)
      (pss_one (ps_ret (pe_and (pe_call GP hr (by rfl) gP kP bP .nil pass0 (pa_cons (pv 0) (pa_cons (pe_ix ix_tup (pv 1) pe_int (fun _ _ => rfl)) (pa_cons pe_int (pa_cons pe_int (pa_cons (pv 2) pa_nil))))))
        (pe_one (pe_call GP hr (by rfl) gP kP bP .nil pass0 (pa_cons (pv 0) (pa_cons (pe_ix ix_tup (pv 1) pe_int (fun _ _ => rfl)) (pa_cons pe_int (pa_cons pe_int (pa_cons (pv 2) pa_nil)))))))))), ?_⟩
    unfold rightC at rc
    rw [Bool.and_eq_true, Bool.and_eq_true, Bool.and_eq_true, decide_eq_true_eq, decide_eq_true_eq] at rc
    unfold deepC at dc
    obtain ⟨ks, hks, dk⟩ := hx.words
    unfold cmdM at q
    refine seq_go (ifs_go (or_go (test_go (op_go ⟨_, rfl, p, _, rfl, .inr (.inl (.inl hp)), rfl, _, rfl, ite2 (fun z => ?_) fun _ => ?_⟩))))
    · simp at z
    refine not_go (val_go (call_go (cons_go (fld_re O hx rfl (by decide) x.lk_words ⟨_, rfl, p, _, _, _, rfl, rfl, .inl (.inl hp), rfl, _, rfl, p, _, _, _, rfl, rfl, .inl (.inl hp), rfl, x.words, ks, cm, c, wd, rfl, hks, dk, _, rfl, ?_⟩))))
    cases hw : hasWord cm c wd with
    | false =>
      rw [hw] at q
      exact ite2 (fun _ => ret_go (q H (Same.refl H))) fun z => absurd rfl z
    | true =>
      rw [hw] at q
      refine ite2 (fun z => absurd z (by decide)) fun _ => next_go ?_
      dsimp only
      refine ret_go (call_go ⟨_, rfl, _, rfl, p, _, _, _, rfl, rfl, .inl (.inl hp), rfl, _, rfl, x, a, 1, 4, cm, tr, f, rfl, hx, pa, rc.1.1.1, rc.1.2, by omega, fun H1 s1 => ?_⟩)
      unfold partM
      cases h1 : (decide (1 ≤ f.length) && decide (f.length ≤ 4) && cmdsM cm tr f) with
      | false =>
        rw [h1] at q
        exact tst_go (ite2 (fun z => absurd z (by decide)) fun _ => q H1 s1)
      | true =>
        rw [h1] at q
        refine tst_go (ite2 (fun _ => ?_) fun z => absurd rfl z)
        refine ⟨_, rfl, _, rfl, p, _, _, _, rfl, rfl, .inl (.inl (s1 _ _ hp)), rfl, _, rfl, x, b, 0, 4, cm, tr, s, rfl, hx.same s1, pb.same s1, rc.1.1.2, rc.2, by omega, fun H2 s2 => ?_⟩
        unfold partM
        rw [decide_eq_true (Nat.zero_le _), Bool.true_and]
        exact q H2 (s1.trans s2)
theorem ok_isProg {k : Nat} {f fP : Addr} {fd fdP : FuncData} (G : Fun K "is_program" "is_program" sIsProg f fd)
    (GP : FnOk P w K mg base CX0 k fP fdP ["release", "value", "least", "most", "ifs"] (spIsPart CR 2)) (gP : mg "is_part" = some (.ref fP)) (kP : PySem.W.keepIn K (.ref fP) = true) (bP : Binds K fdP ["release", "value", "least", "most", "ifs"] []) :
    FnOk P w K mg base CX0 (k + 1) f fd ["release", "value"] (spIsProg CR) := by
  refine G.ok scIsProg (fun vs H Q E h => ?_) (fun cdv A outer s H vs Q E hr h => ?_)
  · obtain ⟨x, a, cm, tr, cs, rfl, _⟩ := h
    rfl
  · obtain ⟨x, a, cm, tr, cs, rfl, hx, pg, rc, sh, dp, q⟩ := h
    refine ⟨_, pss_one (ps_ret (pe_call GP hr (by rfl) gP kP bP .nil pass0 (pa_cons (pv 0) (pa_cons (pv 1) (pa_cons pe_int (pa_cons pe_int (pa_cons pe_int pa_nil))))))), ?_⟩
    exact ret_go (call_go ⟨_, rfl, _, rfl, x, a, 0, 6, cm, tr, cs, rfl, hx, pg, rc, sh, dp, q⟩)
theorem ok_refP {k : Nat} {f fP : Addr} {fd fdP : FuncData} (G : Fun K "refuse_program" "refuse_program" sRefP f fd)
    (GP : FnOk P w K mg base CX0 k fP fdP ["release", "value"] (spIsProg CR)) (gP : mg "is_program" = some (.ref fP)) (kP : PySem.W.keepIn K (.ref fP) = true) (bP : Binds K fdP ["release", "value"] []) :
    FnOk P w K mg base CX0 (k + 1) f fd ["release", "program"] (spRefP CR) := by
  refine G.ok scRefP (fun vs H Q E h => ?_) (fun cdv A outer s H vs Q E hr h => ?_)
  · obtain ⟨x, a, cm, tr, cs, rfl, _⟩ := h
    rfl
  · obtain ⟨x, a, cm, tr, cs, rfl, hx, pg, rc, sh, dp, pm, q⟩ := h
    refine ⟨_, pss_one (ps_if (pt_not (pt_val (pe_call GP hr (by rfl) gP kP bP .nil pass0 (pa_cons (pv 0) (pa_cons (pv 1) pa_nil))))) pss_never pss_nil), ?_⟩
    refine ifs_go (not_go (val_go (call_go ⟨_, rfl, _, rfl, x, a, cm, tr, cs, rfl, hx, pg, rc, sh, dp, fun H1 s1 => ?_⟩)))
    rw [pm]
    exact ⟨_, rfl, ite2 (fun z => absurd z (by decide)) fun _ => next_go (q H1 s1)⟩
theorem ok_refW {k : Nat} {f fP : Addr} {fd fdP : FuncData} (G : Fun K "refuse_words" "refuse_words" sRefW f fd)
    (GP : FnOk P w K mg base CX0 k fP fdP ["release", "value"] (spIsWords CR)) (gP : mg "is_words" = some (.ref fP)) (kP : PySem.W.keepIn K (.ref fP) = true) (bP : Binds K fdP ["release", "value"] []) :
    FnOk P w K mg base CX0 (k + 1) f fd ["release", "words"] (spRefW CR) := by
  refine G.ok scRefW (fun vs H Q E h => ?_) (fun cdv A outer s H vs Q E hr h => ?_)
  · obtain ⟨x, a, cm, tr, ws, rfl, _⟩ := h
    rfl
  · obtain ⟨x, a, cm, tr, ws, rfl, hx, ha, hl, pm, q⟩ := h
    refine ⟨_, pss_one (ps_if (pt_not (pt_val (pe_call GP hr (by rfl) gP kP bP .nil pass0 (pa_cons (pv 0) (pa_cons (pv 1) pa_nil))))) pss_never pss_nil), ?_⟩
    refine ifs_go (not_go (val_go (call_go ⟨_, rfl, _, rfl, x, a, cm, tr, ws, rfl, hx, ha, hl, fun H1 s1 => ?_⟩)))
    rw [pm]
    exact ⟨_, rfl, ite2 (fun z => absurd z (by decide)) fun _ => next_go (q H1 s1)⟩
theorem ok_done {k j i l : Nat} {f fP fW fR : Addr} {fd fdP fdW fdR : FuncData} (hj : j ≤ k) (hi : i ≤ k) (G : Fun K "done" "done" sDone f fd)
    (GP : FnOk P w K mg base CX0 k fP fdP ["release", "program"] (spRefP CR)) (gP : mg "refuse_program" = some (.ref fP)) (kP : PySem.W.keepIn K (.ref fP) = true) (bP : Binds K fdP ["release", "program"] [])
    (GW : FnOk P w K mg base CX0 j fW fdW ["release", "words"] (spRefW CR)) (gW : mg "refuse_words" = some (.ref fW)) (kW : PySem.W.keepIn K (.ref fW) = true) (bW : Binds K fdW ["release", "words"] [])
    (GR : FnOk P w K mg base CX0 i fR fdR ["release", "program", "words"] (spWhole CR)) (gR : mg "whole_run" = some (.ref fR)) (kR : PySem.W.keepIn K (.ref fR) = true) (bR : Binds K fdR ["release", "program", "words"] []) :
    FnOk P w K mg base CX0 (k + 1) f fd ["release", "program", "words"] (spDone CR) := by
  refine G.ok scDone (fun vs H Q E h => ?_) (fun cdv A outer s H vs Q E hr h => ?_)
  · obtain ⟨x, p, a, cm, tr, cs, ws, rfl, _⟩ := h
    rfl
  · obtain ⟨x, p, a, cm, tr, cs, ws, rfl, as, q⟩ := h
    refine ⟨_, pss_cons (ps_expr (pe_call GP hr (by rfl) gP kP bP .nil pass0 (pa_cons (pv 0) (pa_cons (pv 1) pa_nil))))
      (pss_cons (ps_expr (pe_call GW (hr.mono hj) (by rfl) gW kW bW .nil pass0 (pa_cons (pv 0) (pa_cons (pv 2) pa_nil))))
      (pss_one (ps_ret (pe_call GR (hr.mono hi) (by rfl) gR kR bR .nil pass0 (pa_cons (pv 0) (pa_cons (pv 1) (pa_cons (pv 2) pa_nil))))))), ?_⟩
    refine seq_go (drop_go (call_go ⟨_, rfl, _, rfl, x, p, cm, tr, cs, rfl, as.tk.re, as.tk.prog, as.right, as.short, as.tk.deep, as.prog, fun H1 s1 => ?_⟩))
    have a1 := as.same s1
    dsimp only
    refine seq_go (drop_go (call_go ⟨_, rfl, _, rfl, x, a, cm, tr, ws, rfl, a1.tk.re, a1.tk.words, a1.tk.len, a1.ok, fun H2 s2 => ?_⟩))
    have a2 := a1.same s2
    dsimp only
    exact ret_go (call_go ⟨_, rfl, _, rfl, _, rfl, x, p, a, cm, tr, cs, ws, rfl, a2.tk, fun t b k H3 s3 e1 e2 e3 => q t b k H3 ((s1.trans s2).trans s3) e1 e2 e3⟩)
theorem ok_cuts {k j i l : Nat} {f fP fW fR : Addr} {fd fdP fdW fdR : FuncData} (hj : j ≤ k) (hi : i ≤ k) (G : Fun K "cuts" "cuts" sCuts f fd)
    (GP : FnOk P w K mg base CX0 k fP fdP ["release", "program"] (spRefP CR)) (gP : mg "refuse_program" = some (.ref fP)) (kP : PySem.W.keepIn K (.ref fP) = true) (bP : Binds K fdP ["release", "program"] [])
    (GW : FnOk P w K mg base CX0 j fW fdW ["release", "words"] (spRefW CR)) (gW : mg "refuse_words" = some (.ref fW)) (kW : PySem.W.keepIn K (.ref fW) = true) (bW : Binds K fdW ["release", "words"] [])
    (GR : FnOk P w K mg base CX0 i fR fdR ["release", "program", "words"] (spStops CR)) (gR : mg "stops" = some (.ref fR)) (kR : PySem.W.keepIn K (.ref fR) = true) (bR : Binds K fdR ["release", "program", "words"] []) :
    FnOk P w K mg base CX0 (k + 1) f fd ["release", "program", "words"] (spCuts CR) := by
  refine G.ok scCuts (fun vs H Q E h => ?_) (fun cdv A outer s H vs Q E hr h => ?_)
  · obtain ⟨x, p, a, cm, tr, cs, ws, rfl, _⟩ := h
    rfl
  · obtain ⟨x, p, a, cm, tr, cs, ws, rfl, as, q⟩ := h
    refine ⟨_, pss_cons (ps_expr (pe_call GP hr (by rfl) gP kP bP .nil pass0 (pa_cons (pv 0) (pa_cons (pv 1) pa_nil))))
      (pss_cons (ps_expr (pe_call GW (hr.mono hj) (by rfl) gW kW bW .nil pass0 (pa_cons (pv 0) (pa_cons (pv 2) pa_nil))))
      (pss_one (ps_ret (pe_call GR (hr.mono hi) (by rfl) gR kR bR .nil pass0 (pa_cons (pv 0) (pa_cons (pv 1) (pa_cons (pv 2) pa_nil))))))), ?_⟩
    refine seq_go (drop_go (call_go ⟨_, rfl, _, rfl, x, p, cm, tr, cs, rfl, as.tk.re, as.tk.prog, as.right, as.short, as.tk.deep, as.prog, fun H1 s1 => ?_⟩))
    have a1 := as.same s1
    dsimp only
    refine seq_go (drop_go (call_go ⟨_, rfl, _, rfl, x, a, cm, tr, ws, rfl, a1.tk.re, a1.tk.words, a1.tk.len, a1.ok, fun H2 s2 => ?_⟩))
    have a2 := a1.same s2
    dsimp only
    exact ret_go (call_go ⟨_, rfl, _, rfl, _, rfl, x, p, a, cm, tr, cs, ws, rfl, a2.tk, fun t us H3 s3 e1 e2 => q t us H3 ((s1.trans s2).trans s3) e1 e2⟩)
end
end Sc

namespace Sc
open PySem L2 PySem.Spec PyProof.Rows Lm
/-! ### refusals: first_doubled -/
abbrev sDbl : Stmt := top 72
theorem scDbl : FnScope ["rows", "seen", "edition", "line", "kind", "words", "told"] ["rows"] (defScope sDbl) := ⟨rfl, rfl, rfl, by decide +kernel, rfl, by decide +kernel, by decide +kernel⟩
def trip (t : Str × Int × Str) : List L2.Key := [.inr t.1, .inl t.2.1, .inr t.2.2]
theorem trip_inj {a b : Str × Int × Str} (h : trip a = trip b) : a = b := by
  obtain ⟨a1, a2, a3⟩ := a
  obtain ⟨b1, b2, b3⟩ := b
  simp [trip] at h
  obtain ⟨rfl, rfl, rfl⟩ := h
  rfl
def edLine (r : Row) (n e : Nat) : Nat := if r.kind == ("edition" : Str) then n else e
def tolds : Nat → Nat → List Row → List (Str × Int × Str)
  | _, _, [] => []
  | n, e, r :: rs => told r.kind r.words n (edLine r n e) ++ tolds (n + 1) (edLine r n e) rs
def RowOk (m : Row) : Prop := kinds.contains m.kind = true → m.words.length ≤ 20002 ∧ (∀ x ∈ m.words, TxtOk x) ∧ (m.kind ≠ "program" → 1 < m.words.length) ∧ (m.kind = "program" → (m.words.map (·.length)).sum + m.words.length * (" " : Str).length ≤ 16777216)
def spDbl : Sp := fun vs H Q _ => ∃ (R : Addr) (rs : List V) (Z : List Addr) (rows : List Row), vs = [.ref R] ∧ H R = some (.lst rs) ∧ RowsAt Z H rs rows ∧ (∀ m ∈ rows, RowOk m) ∧ rows.length ≤ 20002 ∧ (tolds 0 0 rows).Nodup ∧ (tolds 0 0 rows).length < 63 ∧ ∀ H', Same H H' → Q .non H'
theorem RowsAt.get {Z : List Addr} {H : Hp} : ∀ {rs : List V} {ms : List Row} {i : Nat} {v : V}, RowsAt Z H rs ms → rs[i]? = some v → ∃ m, ms[i]? = some m ∧ RowAt Z H v m
  | [], [], _, _, _, h => by simp at h
  | r :: rs, m :: ms, 0, v, ⟨a, _⟩, h => by
    simp at h
    exact ⟨m, rfl, by rw [← h]; exact a⟩
  | r :: rs, m :: ms, i + 1, v, ⟨_, b⟩, h => by
    obtain ⟨d, e, g⟩ := RowsAt.get (i := i) b (by simpa using h)
    exact ⟨d, by simpa using e, g⟩
  | [], _ :: _, _, _, z, _ => z.elim
  | _ :: _, [], _, _, z, _ => z.elim
theorem TA.get {H : Hp} : ∀ {rs : List V} {xs : List (List V)} {i : Nat} {v : V}, TA H rs xs → rs[i]? = some v → ∃ x p, xs[i]? = some x ∧ v = .ref p ∧ H p = some (.tup x)
  | [], [], _, _, _, h => by simp at h
  | r :: rs, m :: ms, 0, v, ⟨⟨p, e, hp⟩, _⟩, h => by
    simp at h
    exact ⟨m, p, rfl, by rw [← h]; exact e, hp⟩
  | r :: rs, m :: ms, i + 1, v, ⟨_, b⟩, h => by
    obtain ⟨d, p, e, g⟩ := TA.get (i := i) b (by simpa using h)
    exact ⟨d, p, by simpa using e, g⟩
  | [], _ :: _, _, _, z, _ => z.elim
  | _ :: _, [], _, _, z, _ => z.elim
/-- what was seen so far -/
structure Seen (P : Program) (w : World) (S : Addr) (F : List (Str × Int × Str)) (H : Hp) : Prop where
  at_ : ∃ L, H S = some (Ts.SetT P w S L) ∧ Ts.Keyed H L ∧ (L.map Prod.snd).Perm (F.map trip)
theorem Seen.off {P : Program} {w : World} {S : Addr} {F : List (Str × Int × Str)} {H H' : Hp} (h : Seen P w S F H) (s : Same H H') : Seen P w S F H' := by
  obtain ⟨L, e, k, p⟩ := h.at_
  exact ⟨L, s _ _ e, fun q hq => s _ _ (k q hq), p⟩
section
variable {P : Program} {w : World} {K : PySem.W.Frag} {mg : Str → Option Value} {base : Heap}
theorem inner_go {R S qw : Addr} {kind : Str} {ws : List Str} {n e : Nat} {F : List (Str × Int × Str)} {H2 : Hp} {D : Ends} {y6 : Option V} (sn : Seen P w S F H2)
    (pre : kinds.contains kind = true → Words K H2 qw ws ∧ (kind ≠ "program" → 1 < ws.length) ∧ (kind = "program" → (ws.map (·.length)).sum + ws.length * (" " : Str).length ≤ 16777216)) (nd : (F ++ told kind ws n e).Nodup) (few : (F ++ told kind ws n e).length < 63)
    (after : ∀ H3 y, Off [S] H2 H3 → Seen P w S (F ++ told kind ws n e) H3 → D.nx [some (.ref R), some (.ref S), some (.int (e : Nat)), some (.int (n : Nat)), some (.str kind), some (.ref qw), y] H3) :
    tFor (iList K (tCall (spTold K) [] E0 (tCons (tVar 4) (tCons (tVar 5) (tCons (tVar 3) (tCons (tVar 2) tNil)))))) (gName 6)
      (tSeq (tIfS (tTest (tOp (Ts.rSInT P w) (tVar 6) (tVar 1))) (tRet (tVar 3)) tNext) (tDrop (Ts.tSAddT P w (tVar 1) (tCons (tVar 6) tNil)))) D [some (.ref R), some (.ref S), some (.int (e : Nat)), some (.int (n : Nat)), some (.str kind), some (.ref qw), y6] H2 := by
  refine ⟨_, rfl, _, rfl, _, rfl, _, rfl, qw, kind, ws, n, e, rfl, pre, fun D' rs H3 s3 eD ta => ⟨D', rfl, ⟨_, .inl (.inl eD)⟩, ?_⟩⟩
  have sn3 := sn.off s3
  have hl := ta.len
  rw [List.length_map] at hl
  refine for_list (xs := rs) (fun j σ H4 => (∃ y, σ = [some (.ref R), some (.ref S), some (.int (e : Nat)), some (.int (n : Nat)), some (.str kind), some (.ref qw), y]) ∧ Off [S] H3 H4 ∧ Seen P w S (F ++ (told kind ws n e).take j) H4)
    ⟨⟨_, rfl⟩, Off.refl _ _, by rw [List.take_zero, List.append_nil]; exact sn3⟩ (fun j σ H4 _ ⟨_, o, _⟩ => .inl (.inl (o _ _ (fun z => ?_) eD))) (fun j v σ H4 hv ⟨⟨y, e1⟩, o, sn4⟩ => ?_) fun σ H4 ⟨⟨y, e1⟩, o, sn4⟩ => ?_
  · obtain ⟨L, hL, _⟩ := sn3.at_
    rw [List.mem_singleton.mp z, hL] at eD
    cases eD
  · subst e1
    obtain ⟨x, p, hx, rfl, hp⟩ := ta.get hv
    rw [List.getElem?_map] at hx
    obtain ⟨t, ht, rfl⟩ : ∃ t, (told kind ws n e)[j]? = some t ∧ x = tripV t := by
      cases z : (told kind ws n e)[j]? with
      | none =>
        rw [z] at hx
        cases hx
      | some t =>
        rw [z] at hx
        exact ⟨t, rfl, (Option.some.inj hx).symm⟩
    obtain ⟨L3, hL3, _⟩ := sn3.at_
    have hp4 : H4 p = some (.tup ((trip t).map kV)) := o _ _ (fun z => by
      rw [List.mem_singleton.mp z, hL3] at hp
      cases hp) hp
    obtain ⟨L, hL, kd, pm⟩ := sn4.at_
    obtain ⟨jl, et⟩ := List.getElem?_eq_some_iff.mp ht
    have tk : (told kind ws n e).take (j + 1) = (told kind ws n e).take j ++ [t] := by rw [List.take_succ_eq_append_getElem jl, et]
    have fresh : trip t ∉ L.map Prod.snd := fun z => by
      obtain ⟨u, hu, eu⟩ := List.mem_map.mp (pm.mem_iff.mp z)
      have eu := trip_inj eu
      subst eu
      have nd2 : (F ++ (told kind ws n e).take (j + 1)).Nodup := nd.sublist (List.Sublist.append_left (List.take_sublist _ _) _)
      rw [tk, ← List.append_assoc] at nd2
      have := (List.nodup_append.mp nd2).2.2 u hu u (List.mem_singleton.mpr rfl)
      exact this rfl
    have len : L.length = (F ++ (told kind ws n e).take j).length := by
      have := pm.length_eq
      rw [List.length_map, List.length_map] at this
      exact this
    refine name_go ?_
    refine seq_go (ifs_go (test_go (op_go ⟨_, rfl, _, rfl, p, S, trip t, L, rfl, rfl, hp4, hL, kd, fun c hc => ⟨_, rfl, ite2 (fun z => absurd (hc.mp z) fresh) fun _ => next_go ?_⟩⟩)))
    dsimp only
    refine drop_go ⟨_, rfl, ⟨S, L, rfl, hL, kd⟩, _, rfl, p, S, trip t, L, rfl, rfl, hp4, hL, kd, ?_, fun M m1 m2 => ?_⟩
    · rw [len]
      rw [List.length_append] at few ⊢
      rw [List.length_take]
      omega
    have pM := m2 fresh
    refine ⟨⟨_, rfl⟩, fun a u n hu => ?_, ⟨M, upd_same, fun q hq => ?_, ?_⟩⟩
    · rw [upd_ne (fun z => n (List.mem_singleton.mpr z))]
      exact o _ _ n hu
    · have hq4 : H4 q.1 = some (.tup (q.2.map kV)) := by
        rcases List.mem_cons.mp (pM.mem_iff.mp hq) with z | z
        · rw [z]
          exact hp4
        · exact kd q z
      rw [upd_ne (ne_of hq4 hL fun z => by cases z)]
      exact hq4
    · rw [tk, ← List.append_assoc, List.map_append]
      refine (pM.map Prod.snd).trans ?_
      rw [List.map_cons]
      exact (pm.cons (trip t)).trans (List.perm_append_singleton _ _).symm
  · subst e1
    rw [hl, List.take_length] at sn4
    exact after H4 y (fun a u n hu => o a u n (s3 _ _ hu)) sn4
theorem ok_dbl {f fT : Addr} {fd fdT : FuncData} (G : Fun K "first_doubled" "first_doubled" sDbl f fd) (T : NatR mg)
    (GT : FnOk P w K mg base CX0 1 fT fdT ["kind", "words", "line", "edition"] (spTold K)) (gT : mg "told_once" = some (.ref fT)) (kT : PySem.W.keepIn K (.ref fT) = true) (bT : Binds K fdT ["kind", "words", "line", "edition"] []) :
    FnOk P w K mg base CX0 2 f fd ["rows"] spDbl := by
  refine G.ok scDbl (fun vs H Q E h => ?_) (fun cdv A outer s H vs Q E hr h => ?_)
  · obtain ⟨R, rs, Z, rows, rfl, _⟩ := h
    rfl
  · obtain ⟨R, rs, Z, rows, rfl, hR, ra, ro, hz, nd, few, q⟩ := h
    refine ⟨_, pss_cons (ps_set (i := 1) scDbl.nd rfl (Or.inl rfl) (pe_callTy0 Ts.cr_set0T (by rfl) T.set (by decide +kernel)))
      (pss_cons (ps_set (i := 2) scDbl.nd rfl (Or.inl rfl) pe_int)
      (pss_cons (ps_for PassesOwn.never rfl (pi_enum (by rfl) T.enum (pa_cons (pv 0) pa_nil)) (pg_tup (by rfl) (pgs_cons (pg_name (i := 3) scDbl.nd rfl (Or.inl rfl)) (pgs_cons (pg_tup (by rfl) (pgs_cons (pg_name (i := 4) scDbl.nd rfl (Or.inl rfl)) (pgs_cons (pg_name (i := 5) scDbl.nd rfl (Or.inl rfl)) pgs_nil))) pgs_nil)))
        (pss_cons (ps_if (pt_cmpR op_eq (pv 4) pe_str (nomark _)) (pss_one (ps_set (i := 2) scDbl.nd rfl (Or.inl rfl) (pv 3))) pss_nil)
          (pss_one (ps_for PassesOwn.never rfl (pi_list (pe_call GT hr (by rfl) gT kT bT .nil pass0 (pa_cons (pv 4) (pa_cons (pv 5) (pa_cons (pv 3) (pa_cons (pv 2) pa_nil)))))) (pg_name (i := 6) scDbl.nd rfl (Or.inl rfl))
            (pss_cons (ps_if (pt_cmpR (Ts.op_inT (u1 hr.units)) (pv 6) (pv 1) (by rfl)) (pss_one (ps_ret (pv 3))) pss_nil)
              (pss_one (ps_expr (Ts.pe_saddT (u1 hr.units) (pv 1) (pa_cons (pv 6) pa_nil)))))))))
      (pss_one (ps_ret pe_non)))), ?_⟩
    have hl := ra.len
    refine seq_go (asg_go ⟨rfl, fun S hS => name_go ?_⟩)
    dsimp only
    refine seq_go (asg_go (name_go ?_))
    dsimp only
    have sB := same_new (o := Ts.SetT P w S []) hS
    refine seq_go ⟨_, rfl, R, rs, rfl, .inl (.inl (sB _ _ hR)), ?_⟩
    refine ⟨fun i m σ H1 => m = rs.length - i ∧ i ≤ rs.length ∧ ∃ (e : Nat) (y3 y4 y5 y6 : Option V), σ = [some (.ref R), some (.ref S), some (.int (e : Nat)), y3, y4, y5, y6] ∧ Off [S] (upd H S (Ts.SetT P w S [])) H1 ∧ ∃ F, Seen P w S F H1 ∧ F ++ tolds i e (rows.drop i) = tolds 0 0 rows,
      ⟨_, rfl, Nat.zero_le _, 0, none, none, none, none, rfl, Off.refl _ _, [], ⟨[], upd_same, (fun q hq => nomatch hq), List.Perm.nil⟩, rfl⟩, ?_⟩
    rintro i m σ H1 ⟨rfl, hi, e, y3, y4, y5, y6, rfl, off, F, sn, hF⟩
    have nlS : ∀ a o, H a = some o → H1 a = some o := fun a o ha => off a o (fun z => by
      rw [List.mem_singleton.mp z, hS] at ha
      cases ha) (sB _ _ ha)
    by_cases hlt : i < rs.length
    · have hv := List.getElem?_eq_getElem hlt
      generalize rs[i] = v at hv
      obtain ⟨row, hrow, p, qw, rfl, hp, hw⟩ := ra.get hv
      refine .inr ⟨⟨rs, _, .inl (.inl (nlS _ _ hR)), hv⟩, fun σ' H' => ∃ (e : Nat) (y3 y4 y5 y6 : Option V), σ' = [some (.ref R), some (.ref S), some (.int (e : Nat)), y3, y4, y5, y6] ∧ Off [S] (upd H S (Ts.SetT P w S [])) H' ∧ ∃ F, Seen P w S F H' ∧ F ++ tolds (i + 1) e (rows.drop (i + 1)) = tolds 0 0 rows, fun σ' H' ⟨e', a3, a4, a5, a6, h1, h2, h3⟩ => ⟨rs.length - (i + 1), by omega, rfl, hlt, e', a3, a4, a5, a6, h1, h2, h3⟩, ?_⟩
      rintro v H' ⟨T, x, rfl, hT, rfl, f1⟩
      have ex := f1 rs (.inl (.inl (nlS _ _ hR)))
      rw [hv] at ex
      cases ex
      have sT := same_new (o := .tup [V.int (i : Nat), V.ref p]) hT
      refine ⟨T, _, rfl, .inl (.inl upd_same), rfl, _, _, rfl, name_go ⟨_, _, rfl, p, _, rfl, .inl (.inl (sT _ _ (nlS _ _ hp))), rfl, _, _, rfl, name_go ⟨_, _, rfl, name_go ⟨rfl, rfl, ?_⟩⟩⟩⟩
      dsimp only
      have sn2 := sn.off sT
      have drop1 : rows.drop i = row :: rows.drop (i + 1) := by
        obtain ⟨il, er⟩ := List.getElem?_eq_some_iff.mp hrow
        rw [← er]
        exact List.drop_eq_getElem_cons il
      rw [drop1] at hF
      have hF2 : (F ++ told row.kind row.words i (edLine row i e)) ++ tolds (i + 1) (edLine row i e) (rows.drop (i + 1)) = tolds 0 0 rows := by
        rw [List.append_assoc]
        exact hF
      have nd2 : (F ++ told row.kind row.words i (edLine row i e)).Nodup := by
        rw [← hF2] at nd
        exact (List.nodup_append.mp nd).1
      have few2 : (F ++ told row.kind row.words i (edLine row i e)).length < 63 := by
        rw [← hF2, List.length_append] at few
        omega
      have pre : kinds.contains row.kind = true → Words K (upd H1 T (.tup [V.int (i : Nat), V.ref p])) qw row.words ∧ (row.kind ≠ "program" → 1 < row.words.length) ∧ (row.kind = "program" → (row.words.map (·.length)).sum + row.words.length * (" " : Str).length ≤ 16777216) := fun k => by
        obtain ⟨r1, r2, r3, r4⟩ := ro row (List.mem_of_getElem? hrow) k
        refine ⟨⟨?_, r1, r2⟩, r3, r4⟩
        rcases hw with ⟨k2, _⟩ | ⟨_, hw, _⟩
        · rw [k2] at k
          exact absurd k (by decide +kernel)
        · exact .inl (.inl (sT _ _ (nlS _ _ hw)))
      have fin : ∀ (H3 : Hp) (y : Option V), Off [S] (upd H1 T (.tup [V.int (i : Nat), V.ref p])) H3 → Off [S] (upd H S (Ts.SetT P w S [])) H3 := fun H3 y o a u n hu => o a u n (sT _ _ (off a u n hu))
      refine seq_go (ifs_go (test_go (op_go ⟨_, rfl, rfl, _, rfl, ite2 (fun c => ?_) fun c => ?_⟩)))
      · rw [dec_str] at c
        have ee : edLine row i e = i := if_pos c
        rw [ee] at nd2 few2 hF2
        refine asg_go ⟨_, rfl, name_go ?_⟩
        exact inner_go sn2 pre nd2 few2 fun H3 y o s3 => ⟨i, _, _, _, _, rfl, fin H3 y o, _, s3, hF2⟩
      · rw [dec_str] at c
        have ee : edLine row i e = e := if_neg c
        rw [ee] at nd2 few2 hF2
        refine next_go ?_
        exact inner_go sn2 pre nd2 few2 fun H3 y o s3 => ⟨e, _, _, _, _, rfl, fin H3 y o, _, s3, hF2⟩
    · obtain rfl : i = rs.length := by omega
      refine .inl ⟨⟨_, .inl (.inl (nlS _ _ hR)), Nat.le_refl _⟩, ?_⟩
      dsimp only
      exact ret_go (q H1 nlS)
end
end Sc

namespace Sc
open PySem L2 PySem.Spec PyProof.Rows Lm
/-! ### a package's edition, its needs -/
abbrev sEdn : Stmt := mth 48 1
abbrev sNds : Stmt := mth 48 2
theorem scEdn : FnScope ["self", "number"] ["self", "number"] (defScope sEdn) := ⟨rfl, rfl, rfl, by decide +kernel, rfl, by decide +kernel, by decide +kernel⟩
theorem scNds : FnScope ["self", "need", "edition"] ["self"] (defScope sNds) := ⟨rfl, rfl, rfl, by decide +kernel, rfl, by decide +kernel, by decide +kernel⟩
/-- an edition that was read, as it stands -/
def EdIs (CE : Addr) (Z : List Addr) (H : Hp) (v : V) (m : EdM) : Prop := ∃ y : Ed, v = .ref y.e ∧ H y.e = some (.ins CE y.ex y.fields) ∧ H y.needs = some (.lst (m.needs.map V.str)) ∧ (∃ ks, H y.programs = some (.dK ks) ∧ ProgsAt H ks m.programs) ∧ y.programs ∉ Z
def EdsIs (CE : Addr) (Z : List Addr) (H : Hp) : List V → List EdM → Prop
  | [], [] => True
  | r :: rs, m :: ms => EdIs CE Z H r m ∧ EdsIs CE Z H rs ms
  | [], _ :: _ => False
  | _ :: _, [] => False
/-- a package that was read, as it stands -/
def PkIs (CP CE : Addr) (Z : List Addr) (H : Hp) (v : V) (m : PkM) : Prop := ∃ g : Pk, v = .ref g.p ∧ H g.p = some (.ins CP g.px g.fields) ∧ (∃ es, H g.eds = some (.lst es) ∧ EdsIs CE Z H es m.eds) ∧ (∃ ks, H g.ats = some (.dK ks) ∧ ProgsAt H ks m.ats) ∧ g.ats ∉ Z
/-- what stays where dicts of Z alone are changed -/
def Kp (Z : List Addr) (H H' : Hp) : Prop := ∀ a o, H a = some o → (a ∉ Z ∨ ∀ ks, o ≠ .dK ks) → H' a = some o
theorem Same.kp {Z : List Addr} {H H' : Hp} (s : Same H H') : Kp Z H H' := fun a o e _ => s a o e
theorem kp_lock {Z : List Addr} {H : Hp} {a : Addr} {ks : List (Key × V)} {o : HO} (ha : H a = some (.dK ks)) (hz : a ∈ Z) : Kp Z H (upd H a o) := fun b u e n => by
  rw [upd_ne fun z => ?_]
  · exact e
  · rw [z] at n e
    rw [ha] at e
    rcases n with n | n
    · exact n hz
    · exact n ks (Option.some.inj e).symm
theorem Kp.tups {Z : List Addr} {H H' : Hp} (k : Kp Z H H') : Tups H H' := fun a xs e => k a _ e (.inr fun ks z => by cases z)
theorem EdIs.kp {CE : Addr} {Z : List Addr} {H H' : Hp} (s : Kp Z H H') {v : V} {m : EdM} (h : EdIs CE Z H v m) : EdIs CE Z H' v m := by
  obtain ⟨y, e, h1, h2, ⟨ks, h3, h4⟩, n⟩ := h
  exact ⟨y, e, s _ _ h1 (.inr fun ks z => by cases z), s _ _ h2 (.inr fun ks z => by cases z), ⟨ks, s _ _ h3 (.inl n), h4.keep s.tups⟩, n⟩
theorem EdsIs.kp {CE : Addr} {Z : List Addr} {H H' : Hp} (s : Kp Z H H') : ∀ {vs : List V} {ms : List EdM}, EdsIs CE Z H vs ms → EdsIs CE Z H' vs ms
  | [], [], _ => True.intro
  | _ :: _, _ :: _, ⟨a, b⟩ => ⟨a.kp s, EdsIs.kp s b⟩
  | [], _ :: _, z => z
  | _ :: _, [], z => z
theorem PkIs.kp {CP CE : Addr} {Z : List Addr} {H H' : Hp} (s : Kp Z H H') {v : V} {m : PkM} (h : PkIs CP CE Z H v m) : PkIs CP CE Z H' v m := by
  obtain ⟨g, e, h1, ⟨es, h2, h3⟩, ⟨ks, h4, h5⟩, n⟩ := h
  exact ⟨g, e, s _ _ h1 (.inr fun ks z => by cases z), ⟨es, s _ _ h2 (.inr fun ks z => by cases z), h3.kp s⟩, ⟨ks, s _ _ h4 (.inl n), h5.keep s.tups⟩, n⟩
theorem EdIs.same {CE : Addr} {Z : List Addr} {H H' : Hp} (s : Same H H') {v : V} {m : EdM} (h : EdIs CE Z H v m) : EdIs CE Z H' v m := h.kp s.kp
theorem PkIs.same {CP CE : Addr} {Z : List Addr} {H H' : Hp} (s : Same H H') {v : V} {m : PkM} (h : PkIs CP CE Z H v m) : PkIs CP CE Z H' v m := h.kp s.kp
theorem EdsIs.of {CE : Addr} {Z : List Addr} {H : Hp} : ∀ {vs : List V} {ms : List EdM}, EdsAt CE Z H vs ms → EdsIs CE Z H vs ms
  | [], [], _ => True.intro
  | _ :: _, _ :: _, ⟨⟨y, e, h1, h2, _, h4, n⟩, b⟩ => ⟨⟨y, e, h1, h2, h4, n _ (.inr (by simp [Ed.own]))⟩, EdsIs.of b⟩
  | [], _ :: _, z => z.elim
  | _ :: _, [], z => z.elim
theorem PkIs.of {CP CE : Addr} {Z : List Addr} {H : Hp} {v : V} {m : PkM} (h : PkDone CP CE Z H v m) : PkIs CP CE Z H v m := by
  obtain ⟨g, e, h1, ⟨es, h2, h3⟩, h4, _, _, n⟩ := h
  exact ⟨g, e, h1, ⟨es, h2, EdsIs.of h3⟩, h4, n⟩
theorem EdsIs.len {CE : Addr} {Z : List Addr} {H : Hp} : ∀ {vs : List V} {ms : List EdM}, EdsIs CE Z H vs ms → vs.length = ms.length
  | [], [], _ => rfl
  | _ :: _, _ :: _, ⟨_, b⟩ => by rw [List.length_cons, List.length_cons, EdsIs.len b]
  | [], _ :: _, z => z.elim
  | _ :: _, [], z => z.elim
theorem EdsIs.get {CE : Addr} {Z : List Addr} {H : Hp} : ∀ {vs : List V} {ms : List EdM} {i : Nat} {m : EdM}, EdsIs CE Z H vs ms → ms[i]? = some m → ∃ v, vs[i]? = some v ∧ EdIs CE Z H v m
  | [], [], _, _, _, h => by simp at h
  | r :: rs, m :: ms, 0, v, ⟨a, _⟩, h => by
    simp at h
    exact ⟨r, rfl, by rw [← h]; exact a⟩
  | r :: rs, m :: ms, i + 1, v, ⟨_, b⟩, h => by
    obtain ⟨d, e, g⟩ := EdsIs.get (i := i) b (by simpa using h)
    exact ⟨d, by simpa using e, g⟩
  | [], _ :: _, _, _, z, _ => z.elim
  | _ :: _, [], _, _, z, _ => z.elim
theorem EdsIs.get2 {CE : Addr} {Z : List Addr} {H : Hp} : ∀ {vs : List V} {ms : List EdM} {i : Nat} {v : V}, EdsIs CE Z H vs ms → vs[i]? = some v → ∃ m, ms[i]? = some m ∧ EdIs CE Z H v m
  | [], [], _, _, _, h => by simp at h
  | r :: rs, m :: ms, 0, v, ⟨a, _⟩, h => by
    simp at h
    exact ⟨m, rfl, by rw [← h]; exact a⟩
  | r :: rs, m :: ms, i + 1, v, ⟨_, b⟩, h => by
    obtain ⟨d, e, g⟩ := EdsIs.get2 (i := i) b (by simpa using h)
    exact ⟨d, by simpa using e, g⟩
  | [], _ :: _, _, _, z, _ => z.elim
  | _ :: _, [], _, _, z, _ => z.elim
theorem fldX {K : PySem.W.Frag} {C a dx : Addr} {fs : List (Str × V)} {names : List Str} {te : TE} {σ : L2.St} {H : Hp} {Q : VK} {f : Str} {v : V} (O : Own K C names) (h : te σ H fun x H1 => x = .ref a ∧ H1 a = some (.ins C dx fs) ∧ Q v H1) (hf : f ∈ names) (hl : fs.lookup f = some v)
    (mono : ∀ {R R' : VK}, (∀ x H1, R x H1 → R' x H1) → te σ H R → te σ H R') : tFld K te f σ H Q :=
  mono (fun x H1 ⟨e, hx, q⟩ => ⟨a, C, dx, fs, v, e, hx, O.cl, O.no f hf, hl, q⟩) h
/-- number None, or that of an edition -/
def spEdn (CP CE : Addr) : Sp := fun vs H Q _ => ∃ (Z : List Addr) (v : V) (m : PkM) (n : V), vs = [v, n] ∧ PkIs CP CE Z H v m ∧ (n = .non → Q .non H) ∧ (n = .non ∨ ∃ k e, n = .int ((k + 1 : Nat) : Int) ∧ m.eds[k]? = some e ∧ ∀ u, EdIs CE Z H u e → Q u H)
section
variable {P : Program} {w : World} {K : PySem.W.Frag} {mg : Str → Option Value} {base : Heap} {CP CE : Addr}
theorem ok_edn {f : Addr} {fd : FuncData} (G : Fun K "edition" "Package.edition" sEdn f fd) (O : Own K CP pkNames) : FnOk P w K mg base CX0 1 f fd ["self", "number"] (spEdn CP CE) := by
  refine G.ok scEdn (fun vs H Q E h => ?_) (fun cdv A outer s H vs Q E hr h => ?_)
  · obtain ⟨Z, v, m, n, rfl, _⟩ := h
    rfl
  · obtain ⟨Z, v, m, n, rfl, ⟨g, rfl, hg, ⟨es, hes, ea⟩, _⟩, q1, q2⟩ := h
    refine ⟨_, pss_cons (ps_if (pt_cmpR op_isN (pv 1) pe_non (nomark _)) (pss_one (ps_ret pe_non)) pss_nil)
      (pss_one (ps_ret (pe_ix ix_list (pe_fld (pv 0) rfl) (pe_op op_sub (pv 1) pe_int) (fun _ _ => rfl)))), ?_⟩
    rcases q2 with rfl | ⟨k, e, rfl, he, q2⟩
    · exact seq_go (ifs_go (test_go (op_go ⟨_, rfl, rfl, _, rfl, ite2 (fun _ => ret_go (q1 rfl)) fun z => absurd (by decide) z⟩)))
    · refine seq_go (ifs_go (test_go (op_go ⟨_, rfl, rfl, _, rfl, ite2 (fun z => ?_) fun _ => next_go ?_⟩)))
      · have := of_decide_eq_true z
        cases this
      dsimp only
      obtain ⟨u, hu, eu⟩ := ea.get he
      refine ret_go (op_go ⟨_, rfl, g.p, CP, g.px, _, _, rfl, hg, O.cl, O.no _ (by decide), g.lk_eds, ?_⟩)
      refine ⟨_, rfl, _, _, rfl, rfl, g.eds, es, (k : Nat), u, rfl, ?_, .inl (.inl hes), ?_, q2 u eu⟩
      · exact congrArg V.int (show ((k + 1 : Nat) : Int) - 1 = (k : Nat) by omega)
      · unfold atI ixN
        rw [if_pos (by omega), if_pos (by have := (List.getElem?_eq_some_iff.mp hu).1; omega)]
        exact hu
end
end Sc

namespace Sc
open PySem L2 PySem.Spec PyProof.Rows Lm
/-- no edition of the package needs anything -/
def Free (m : PkM) : Prop := ∀ e ∈ m.eds, e.needs = []
theorem true_go {A B : Prop} (h : A) : if true = true then A else B := by
  rw [if_pos rfl]
  exact h
theorem for_go {wi : TI} {g : TG} {tb : TS} {D : Ends} {σ : L2.St} {H : Hp} (h : wi σ H fun J H1 => ∃ W : Nat → Nat → L2.St → Hp → Prop, (∃ m, W 0 m σ H1) ∧ ∀ i m σ H, W i m σ H →
  (J.stop i H ∧ D.nx σ H) ∨ (J.go i H ∧ ∃ N : L2.St → Hp → Prop, (∀ σ' H', N σ' H' → ∃ m', m' < m ∧ W (i + 1) m' σ' H') ∧ ∀ x H', J.yld i H x H' → g x σ H' fun σ2 H2 => tb { D with nx := N, ct := N, bk := D.nx } σ2 H2)) : tFor wi g tb D σ H := h
theorem enum_go {K : PySem.W.Frag} {ta : L2.TA} {σ : L2.St} {H : Hp} {R : It → Hp → Prop} (h : ta σ H fun vs H1 => ∃ a xs, vs = [.ref a] ∧ SqL K H1 a xs ∧ R (Ite K a) H1) : iEnum K ta σ H R := h
theorem list_go {K : PySem.W.Frag} {tl : TE} {σ : L2.St} {H : Hp} {R : It → Hp → Prop} (h : tl σ H fun x H1 => ∃ a, x = .ref a ∧ (∃ xs, SqL K H1 a xs) ∧ R (Itl K a) H1) : iList K tl σ H R := h
theorem yes_go {σ : L2.St} {H : Hp} {R : Bool → Hp → Prop} (h : R true H) : tYes σ H R := h
def spNds (CP CE : Addr) : Sp := fun vs H Q _ => ∃ (Z : List Addr) (v : V) (m : PkM), vs = [v] ∧ PkIs CP CE Z H v m ∧ Free m ∧ ∀ D H', Same H H' → H D = none → H' D = some (.lst []) → Q (.ref D) H'
section
variable {P : Program} {w : World} {K : PySem.W.Frag} {mg : Str → Option Value} {base : Heap} {CP CE : Addr}
theorem ok_nds {f : Addr} {fd : FuncData} (G : Fun K "all_needs" "Package.all_needs" sNds f fd) (O : Own K CP pkNames) (OE : Own K CE edNames) : FnOk P w K mg base CX0 1 f fd ["self"] (spNds CP CE) := by
  refine G.ok scNds (fun vs H Q E h => ?_) (fun cdv A outer s H vs Q E hr h => ?_)
  · obtain ⟨Z, v, m, rfl, _⟩ := h
    rfl
  · obtain ⟨Z, v, m, rfl, ⟨g, rfl, hg, ⟨es, hes, ea⟩, _⟩, fr, q⟩ := h
    refine ⟨_, pss_one (ps_ret (pe_lc2 (own := [("need", 1), ("edition", 2)]) (vs1 := [1]) (g := gName 2) (tt := tYes) (wi1 := iList K (tFld K (tVar 2) "needs")) (g1 := gName 1) (tt1 := tYes) (te := tVar 1) rfl scNds.nd (pi_list (pe_fld (pv 0) rfl)) (blkOk_by (own := [("need", 1), ("edition", 2)]) (N := ["self", "need", "edition"]) (sc := defScope sNds) (by decide +kernel)) (by decide)
        (fun _ _ _ _ _ => pg_name (i := 2) scNds.nd rfl (Or.inl rfl)) (fun _ _ _ _ _ => pts_nil) (fun _ _ _ _ _ => pi_list (pe_fld (pv 2) rfl)) (fun _ _ _ _ _ => pg_name (i := 1) scNds.nd rfl (Or.inl rfl)) (fun _ _ _ _ _ => pts_nil) (fun _ _ _ _ _ => pv 1))), ?_⟩
    refine ret_go ⟨_, rfl, g.p, CP, g.px, _, _, rfl, hg, O.cl, O.no _ (by decide), g.lk_eds, g.eds, rfl, ⟨_, .inl (.inl hes)⟩, fun D hD => ?_⟩
    refine ⟨fun i m H1 => m = es.length - i ∧ i ≤ es.length ∧ Same H H1 ∧ H1 D = some (.lst []), ⟨_, rfl, Nat.zero_le _, same_new hD, upd_same⟩, ?_⟩
    rintro i k H1 ⟨rfl, hi, s1, hD1⟩
    by_cases hlt : i < es.length
    · have hv := List.getElem?_eq_getElem hlt
      generalize es[i] = v at hv
      obtain ⟨e, he, y, rfl, hy, hyn, _⟩ := ea.get2 hv
      have en : e.needs = [] := fr e (List.mem_of_getElem? he)
      rw [en] at hyn
      refine .inr ⟨⟨es, _, .inl (.inl (s1 _ _ hes)), hv⟩, fun H' => Same H H' ∧ H' D = some (.lst []), fun H' ⟨a, b⟩ => ⟨es.length - (i + 1), by omega, rfl, hlt, a, b⟩, ?_⟩
      rintro x H' ⟨rfl, hx⟩
      have ex := hx es (.inl (.inl (s1 _ _ hes)))
      rw [hv] at ex
      cases ex
      refine ⟨rfl, yes_go (true_go ?_)⟩
      refine ⟨_, rfl, y.e, CE, y.ex, _, _, rfl, s1 _ _ hy, OE.cl, OE.no _ (by decide), y.lk_needs, y.needs, rfl, ⟨_, .inl (.inl (s1 _ _ hyn))⟩, ?_⟩
      refine ⟨fun j k H2 => Same H H2 ∧ H2 D = some (.lst []), ⟨0, s1, hD1⟩, fun j k H2 ⟨s2, h2⟩ => .inl ⟨⟨_, .inl (.inl (s2 _ _ hyn)), Nat.zero_le _⟩, s2, h2⟩⟩
    · exact .inl ⟨⟨_, .inl (.inl (s1 _ _ hes)), by omega⟩, q D H1 s1 hD hD1⟩
end
end Sc

namespace Sc
open PySem L2 PySem.Spec PyProof.Rows Lm
/-! ### is_met -/
abbrev sMet : Stmt := top 76
theorem scMet : FnScope ["packages", "members", "name", "number", "need"] ["packages", "members", "name", "number"] (defScope sMet) := ⟨rfl, rfl, rfl, by decide +kernel, rfl, by decide +kernel, by decide +kernel⟩
def Pks (CP CE : Addr) (Z : List Addr) (H : Hp) (a : Addr) (pm : List (Str × PkM)) : Prop := ∃ ks, H a = some (.dK ks) ∧ DictAt (PkIs CP CE Z H) ks pm
theorem Pks.same {CP CE : Addr} {Z : List Addr} {H H' : Hp} {a : Addr} {pm : List (Str × PkM)} (h : Pks CP CE Z H a pm) (s : Same H H') : Pks CP CE Z H' a pm := by
  obtain ⟨ks, e, d⟩ := h
  exact ⟨ks, s _ _ e, d.imp fun _ _ z => z.same s⟩
def metOk (pm : List (Str × PkM)) (nm : Str) (n : Nat) : Prop := ∃ m e k, look pm nm = some m ∧ n = k + 1 ∧ m.eds[k]? = some e ∧ e.needs = []
def spMet (K : PySem.W.Frag) (CP CE : Addr) : Sp := fun vs H Q _ => ∃ (Z : List Addr) (a mb : Addr) (nm : Str) (n : Nat) (pm : List (Str × PkM)), vs = [.ref a, .ref mb, .str nm, .int (n : Nat)] ∧ Pks CP CE Z H a pm ∧ metOk pm nm n ∧ ∀ H', Same H H' → Q (.bl true) H'
section
variable {P : Program} {w : World} {K : PySem.W.Frag} {mg : Str → Option Value} {base : Heap} {CP CE : Addr}
theorem ok_met {f fE : Addr} {fd fdE : FuncData} (G : Fun K "is_met" "is_met" sMet f fd) (T : NatR mg) (OP : Own K CP pkNames) (OE : Own K CE edNames)
    (GE : FnOk P w K mg base CX0 1 fE fdE ["self", "number"] (spEdn CP CE)) (mE : Meth K CP "edition" fE) (bE : Binds K fdE ["self", "number"] []) :
    FnOk P w K mg base CX0 2 f fd ["packages", "members", "name", "number"] (spMet K CP CE) := by
  refine G.ok scMet (fun vs H Q E h => ?_) (fun cdv A outer s H vs Q E hr h => ?_)
  · obtain ⟨Z, a, mb, nm, n, pm, rfl, _⟩ := h
    rfl
  · obtain ⟨Z, a, mb, nm, n, pm, rfl, ⟨ks, ha, dk⟩, ⟨m, e, k, hl, rfl, he, en⟩, q⟩ := h
    refine ⟨_, pss_cons (ps_if (PW.pt (pw_or (pt_cmp (pc_dnotin (u1 hr.units) (pv 2) (pv 0)) rfl)
        (pw_or1 (pt_not (pt_chain op_le op_le pe_int (pv 3) (pe_callB call_len_seq (by rfl) T.len PySem.boot_len (pa_cons (pe_fld (pe_dget (u1 hr.units) (pv 0) (pv 2) (fun _ _ => rfl)) rfl) pa_nil))))))) (pss_one (ps_ret pe_bl)) pss_nil)
      (pss_one (ps_ret (pe_callB (cr_all rfl) (by rfl) T.all (by decide +kernel) (pa_cons (pe_lc (own := [("need", 4)]) (g := gName 4) (tt := tYes) (te := tOp (rIn K false) (tVar 4) (tVar 1)) rfl scMet.nd (pi_list (pe_fld (pe_meth (pe_dget (u1 hr.units) (pv 0) (pv 2) (fun _ _ => rfl)) OP.cl mE GE hr bE .nil pass0 (pa_cons (pv 3) pa_nil)) rfl)) (blkOk_by (own := [("need", 4)]) (N := ["packages", "members", "name", "number", "need"]) (sc := defScope sMet) (by decide +kernel))
          (fun _ _ _ _ _ => pg_name (i := 4) scMet.nd rfl (Or.inl rfl)) (fun _ _ _ _ _ => pts_nil) (fun _ _ _ _ _ => pe_cmpR (r := rIn K false) op_in_seq (pv 4) (pv 1) (by rfl))) pa_nil)))), ?_⟩
    obtain ⟨v, hv, pk⟩ := (dict_look (k := nm) dk).2 m hl
    have pk2 := pk
    obtain ⟨g, rfl, hg, ⟨es, hes, ea⟩, _⟩ := pk
    have gt := DGet.k (k := .inr nm) ha
    have kl : k < es.length := by
      rw [ea.len]
      exact (List.getElem?_eq_some_iff.mp he).1
    refine seq_go (ifs_go (or_go ⟨_, rfl, _, rfl, a, _, rfl, gt, _, rfl, ?_⟩))
    rw [hv] at gt ⊢
    refine ite2 (fun z => absurd z Bool.false_ne_true) fun _ => ?_
    refine not_go (test_go ⟨_, rfl, _, _, rfl, rfl, _, rfl, ite2 (fun _ => ?_) fun z => ?_⟩)
    · refine ⟨_, rfl, _, rfl, a, _, rfl, gt, g.p, CP, g.px, _, _, rfl, hg, OP.cl, OP.no _ (by decide), g.lk_eds, g.eds, _, rfl, .inl (.inl (.inl hes)), _, _, rfl, rfl, _, rfl, ?_⟩
      rw [decide_eq_true (show ((k + 1 : Nat) : Int) ≤ (es.length : Nat) by omega)]
      refine ite2 (fun z => absurd z (by decide)) fun _ => next_go ?_
      dsimp only
      refine ret_go (all_go [] (fun R kk => ?_) fun H' s => q H' s)
      refine ⟨_, rfl, _, rfl, a, _, rfl, gt, g.p, g.px, _, rfl, hg, by rfl, _, rfl, Z, .ref g.p, m, _, rfl, pk2, (fun z => by cases z), .inr ⟨k, e, rfl, he, fun u hu => ?_⟩⟩
      obtain ⟨y, rfl, hy, hyn, _⟩ := hu
      rw [en] at hyn
      refine ⟨y.e, CE, y.ex, _, _, rfl, hy, OE.cl, OE.no _ (by decide), y.lk_needs, y.needs, rfl, ⟨_, .inl (.inl hyn)⟩, fun D hD => ?_⟩
      have s1 := same_new (o := .lst []) hD
      refine ⟨fun i m H1 => H1 = upd H D (.lst []), ⟨0, rfl⟩, fun i m H1 e1 => .inl ⟨⟨[], ?_, Nat.zero_le _⟩, ?_⟩⟩
      · rw [e1]
        exact .inl (.inl (s1 _ _ hyn))
      · rw [e1]
        exact kk D _ s1 upd_same
    · exact absurd (decide_eq_true (show (1 : Int) ≤ ((k + 1 : Nat) : Int) by omega)) z
end
end Sc

namespace Sc
open PySem L2 PySem.Spec PyProof.Rows Lm
/-! ### names_rightly, first_unnamed -/
abbrev sNames : Stmt := top 75
abbrev sUnn : Stmt := top 74
theorem scNames : FnScope ["draft", "kind", "words", "name", "number"] ["draft", "kind", "words"] (defScope sNames) := ⟨rfl, rfl, rfl, by decide +kernel, rfl, by decide +kernel, by decide +kernel⟩
theorem scUnn : FnScope ["draft", "line", "kind", "words"] ["draft"] (defScope sUnn) := ⟨rfl, rfl, rfl, by decide +kernel, rfl, by decide +kernel, by decide +kernel⟩
/-- a draft that was read to its end, as it stands -/
structure Rdy (x : Dr) (C CP CE : Addr) (m : DrM) (H : Hp) : Prop where
  obj : ∃ n : Nat, H x.d = some (.ins C x.dx (x.fields n))
  cells : ∃ ks, H x.cells = some (.dK ks) ∧ DictAt (WordsTup H) ks m.cells
  pks : Pks CP CE x.own H x.packages m.packages
  trs : H x.triggers = some (.lst (m.triggers.map V.str))
  rows : ∃ rs Z, H x.rows = some (.lst rs) ∧ RowsAt Z H rs m.rows
theorem RowsAt.same {Z : List Addr} {H H' : Hp} (s : Same H H') {rs : List V} {ms : List Row} (h : RowsAt Z H rs ms) : RowsAt Z H' rs ms := h.ext s.ext
theorem Rdy.same {x : Dr} {C CP CE : Addr} {m : DrM} {H H' : Hp} (h : Rdy x C CP CE m H) (s : Same H H') : Rdy x C CP CE m H' := by
  obtain ⟨n, e⟩ := h.obj
  obtain ⟨ks, e2, d⟩ := h.cells
  obtain ⟨rs, Z, e3, r⟩ := h.rows
  exact ⟨⟨n, s _ _ e⟩, ⟨ks, s _ _ e2, d.imp fun _ _ z => z.same s⟩, h.pks.same s, s _ _ h.trs, ⟨rs, Z, s _ _ e3, r.same s⟩⟩
theorem fld_dr {K : PySem.W.Frag} {C CP CE : Addr} {x : Dr} {m : DrM} {i : Nat} {σ : L2.St} {H : Hp} {Q : VK} {f : Str} {v : V} (O : Own K C drNames) (hx : Rdy x C CP CE m H) (hs : σ[i]? = some (some (.ref x.d))) (hf : f ∈ drNames) (hl : ∀ n, (x.fields n).lookup f = some v) (q : Q v H) : tFld K (tVar i) f σ H Q := by
  obtain ⟨n, e⟩ := hx.obj
  exact ⟨_, hs, x.d, C, x.dx, _, v, rfl, e, O.cl, O.no f hf, hl n, q⟩
def NameOk (m : DrM) (r : Row) : Prop := [("cell" : Str), "package", "edition", "at", "command", "set"].contains r.kind = true ∧
  (r.kind = "command" → cmdOf m.cells m.triggers r.words = true ∧ r.words ≠ [] ∧ ∀ y ∈ r.words, PyData.strOk y = true) ∧
  (r.kind = "set" → r.words.length ≤ 20002 ∧ (∀ y ∈ r.words, TxtOk y) ∧ (stepW r.words (some 2) none (some 2)).length = (stepW r.words (some 3) none (some 2)).length ∧
    ∀ q ∈ (stepW r.words (some 2) none (some 2)).zip (stepW r.words (some 3) none (some 2)), digit1 q.2 = true ∧ ∃ n : Nat, edNum q.2 = (n : Nat) ∧ metOk m.packages q.1 n)
def spNames (K : PySem.W.Frag) (C CP CE : Addr) : Sp := fun vs H Q _ => ∃ (x : Dr) (m : DrM) (r : Row) (q : Addr) (Z : List Addr), vs = [.ref x.d, .str r.kind, .ref q] ∧ Rdy x C CP CE m H ∧ WordsOk m.cells ∧ WordsAt Z H r.kind q r.words ∧ NameOk m r ∧ ∀ H', Same H H' → Q (.bl true) H'
def spUnn (C CP CE : Addr) : Sp := fun vs H Q _ => ∃ (x : Dr) (m : DrM), vs = [.ref x.d] ∧ Rdy x C CP CE m H ∧ WordsOk m.cells ∧ (∀ r ∈ m.rows, NameOk m r) ∧ m.rows.length ≤ 20002 ∧ ∀ H', Same H H' → Q .non H'
/-- [e for x, y in zip(a, b)], two new lists of one length -/
theorem zipN_go {K : PySem.W.Frag} {te : TE} {ta : L2.TA} {vs : List Nat} {i j : Nat} {σ : L2.St} {H : Hp} {Q : VK} {xs ys : List V} (rs : List V) (h0 : ∀ R : List V → Hp → Prop, (∀ a b H1, Same H H1 → SqL K H1 a xs → SqL K H1 b ys → R [.ref a, .ref b] H1) → ta σ H R)
    (hl : xs.length = ys.length) (hr : rs.length = xs.length) (hz : xs.length ≤ sizeLine) (hi : ∀ u v, wipe (((wipe σ vs).set i (some u)).set j (some v)) vs = wipe σ vs)
    (hs : ∀ (n : Nat) (x y r : V) (H' : Hp), xs[n]? = some x → ys[n]? = some y → rs[n]? = some r → Same H H' → Elt te (((wipe σ vs).set i (some x)).set j (some y)) H' r)
    (hd : ∀ D H', Same H H' → H' D = some (.lst rs) → Q (.ref D) H') :
    tLc (iZip K ta) (gTup K 2 (gCons (gName i) (gCons (gName j) gNil))) tYes te vs σ H Q := by
  refine h0 _ fun a b H0 s0 hx hy => ⟨a, b, xs, ys, rfl, hx, hy, fun D hn => ?_⟩
  refine ⟨fun n m H1 => m = xs.length - n ∧ n ≤ xs.length ∧ Same H0 H1 ∧ H1 D = some (.lst (rs.take n)), ⟨_, rfl, Nat.zero_le _, same_new hn, by rw [upd_same, List.take_zero]⟩, ?_⟩
  rintro n m H1 ⟨rfl, hle, s1, hD⟩
  by_cases h : n < xs.length
  · have h2 : n < ys.length := by omega
    have h3 : n < rs.length := by omega
    have ex := List.getElem?_eq_getElem h
    have ey := List.getElem?_eq_getElem h2
    refine .inr ⟨⟨xs, ys, _, _, SqL.same hx s1, SqL.same hy s1, ex, ey⟩, fun H' => Same H0 H' ∧ H' D = some (.lst (rs.take (n + 1))), fun H' ⟨c, d⟩ => ⟨xs.length - (n + 1), by omega, rfl, h, c, d⟩, ?_⟩
    rintro v H' ⟨T, x, y, rfl, hT, rfl, f1, f2⟩
    have sT := same_new (o := .tup [x, y]) hT
    refine ⟨T, [x, y], rfl, .inl (.inl upd_same), rfl, x, [y], rfl, y, [], rfl, rfl, hi _ _, ?_⟩
    show te _ _ _
    refine hs n x y rs[n] _ (f1 xs (SqL.same hx s1)) (f2 ys (SqL.same hy s1)) (List.getElem?_eq_getElem h3) (s0.trans (s1.trans sT)) _ fun H4 s4 => ⟨rs.take n, s4 _ _ (sT _ _ hD), ?_, same_fill hn ((s1.trans sT).trans s4), ?_⟩
    · rw [List.length_take]
      omega
    · rw [upd_same, List.take_succ_eq_append_getElem h3]
  · obtain rfl : n = xs.length := by omega
    refine .inl ⟨⟨xs, ys, SqL.same hx s1, SqL.same hy s1, .inl (Nat.le_refl _)⟩, hd D H1 (s0.trans s1) ?_⟩
    rw [hD, ← hr, List.take_length]
section
variable {P : Program} {w : World} {K : PySem.W.Frag} {mg : Str → Option Value} {base : Heap} {C CP CE : Addr}
theorem ok_names {f fO fM fN : Addr} {fd fdO fdM fdN : FuncData} (G : Fun K "names_rightly" "names_rightly" sNames f fd) (T : NatR mg) (O : Own K C drNames)
    (GO : FnOk P w K mg base CX0 2 fO fdO ["cells", "triggers", "command"] (spCmdOf K)) (gO : mg "is_command_of" = some (.ref fO)) (kO : PySem.W.keepIn K (.ref fO) = true) (bO : Binds K fdO ["cells", "triggers", "command"] [])
    (GM : FnOk P w K mg base CX0 2 fM fdM ["packages", "members", "name", "number"] (spMet K CP CE)) (gM : mg "is_met" = some (.ref fM)) (kM : PySem.W.keepIn K (.ref fM) = true) (bM : Binds K fdM ["packages", "members", "name", "number"] [])
    (GN : FnOk P w K mg base CX0 1 fN fdN ["word"] spEdNum) (gN : mg "edition_number" = some (.ref fN)) (kN : PySem.W.keepIn K (.ref fN) = true) (bN : Binds K fdN ["word"] []) :
    FnOk P w K mg base CX0 3 f fd ["draft", "kind", "words"] (spNames K C CP CE) := by
  refine G.ok scNames (fun vs H Q E h => ?_) (fun cdv A outer s H vs Q E hr h => ?_)
  · obtain ⟨x, m, r, q, Z, rfl, _⟩ := h
    rfl
  · obtain ⟨x, m, r, qa, Z, rfl, hx, wk, hw, ⟨k0, k1, k2⟩, q⟩ := h
    refine ⟨_, pss_cons (ps_if (pt_cmpR op_eq (pv 1) pe_str (nomark _)) pss_never pss_nil)
      (pss_cons (ps_if (pt_cmpR op_eq (pv 1) pe_str (nomark _)) pss_never pss_nil)
      (pss_cons (ps_if (pt_cmpR op_eq (pv 1) pe_str (nomark _)) (pss_one (ps_ret (pe_call GO hr (by rfl) gO kO bO .nil pass0 (pa_cons (pe_fld (pv 0) rfl) (pa_cons (pe_fld (pv 0) rfl) (pa_cons (pv 2) pa_nil)))))) pss_nil)
      (pss_cons (ps_if (pt_cmpR op_eq (pv 1) pe_str (nomark _)) pss_never pss_nil)
      (pss_cons (ps_if (pt_cmpR op_eq (pv 1) pe_str (nomark _)) (pss_one (ps_ret (pe_callB (cr_all rfl) (by rfl) T.all (by decide +kernel) (pa_cons
          (pe_lc (own := [("name", 3), ("number", 4)]) (g := gTup K 2 (gCons (gName 3) (gCons (gName 4) gNil))) (tt := tYes) (te := tCall (spMet K CP CE) [] E0 (tCons (tFld K (tVar 0) "packages") (tCons (tStep K (tVar 2) (tPart (tC (.int 2))) tNoPart (tPart (tC (.int 2)))) (tCons (tVar 3) (tCons (tCall spEdNum [] E0 (tCons (tVar 4) tNil)) tNil))))) rfl scNames.nd
            (pi_zip (by rfl) T.zip (pa_cons (pe_step (pv 2) (po_some pe_int) po_none (po_some pe_int)) (pa_cons (pe_step (pv 2) (po_some pe_int) po_none (po_some pe_int)) pa_nil)))
            (blkOk_by (own := [("name", 3), ("number", 4)]) (N := ["draft", "kind", "words", "name", "number"]) (sc := defScope sNames) (by decide +kernel))
            (fun _ _ _ _ _ => pg_tup rfl (pgs_cons (pg_name (i := 3) scNames.nd rfl (Or.inl rfl)) (pgs_cons (pg_name (i := 4) scNames.nd rfl (Or.inl rfl)) pgs_nil))) (fun _ _ _ _ _ => pts_nil)
            (fun _ _ _ _ _ => pe_call GM hr (by rfl) gM kM bM .nil pass0 (pa_cons (pe_fld (pv 0) rfl) (pa_cons (pe_step (pv 2) (po_some pe_int) po_none (po_some pe_int)) (pa_cons (pv 3) (pa_cons (pe_call GN (hr.mono (by decide)) (by rfl) gN kN bN .nil pass0 (pa_cons (pv 4) pa_nil)) pa_nil)))))) pa_nil)))) pss_nil)
      (pss_one (ps_ret pe_bl)))))), ?_⟩
    have notk : ∀ k : Str, [("cell" : Str), "package", "edition", "at", "command", "set"].contains k = false → ¬ (r.kind == k) = true := fun k hk e => by
      rw [eq_of_beq e, hk] at k0
      cases k0
    refine seq_go (ifs_go (test_go (op_go ⟨_, rfl, rfl, _, rfl, ite2 (fun c => ?_) fun _ => next_go ?_⟩)))
    · rw [dec_str] at c
      exact absurd c (notk _ (by decide +kernel))
    dsimp only
    refine seq_go (ifs_go (test_go (op_go ⟨_, rfl, rfl, _, rfl, ite2 (fun c => ?_) fun _ => next_go ?_⟩)))
    · rw [dec_str] at c
      exact absurd c (notk _ (by decide +kernel))
    dsimp only
    refine seq_go (ifs_go (test_go (op_go ⟨_, rfl, rfl, _, rfl, ite2 (fun c => ?_) fun _ => next_go ?_⟩)))
    · rw [dec_str] at c
      obtain ⟨c1, c2, c3⟩ := k1 (eq_of_beq c)
      have hc : H qa = some (.tup (r.words.map V.str)) := by
        rcases hw with ⟨_, h⟩ | ⟨h, _⟩
        · exact h
        · exact absurd (eq_of_beq c) h
      obtain ⟨ks, hks, dk⟩ := hx.cells
      refine ret_go (call_go (cons_go (fld_dr O hx rfl (by decide) x.lk_cells (cons_go (fld_dr O hx rfl (by decide) x.lk_triggers ⟨_, rfl, ?_⟩)))))
      refine ⟨x.cells, x.triggers, qa, ks, m.cells, m.triggers, r.words, rfl, hks, dk, wk, .inl (.inl (.inl hx.trs)), .inl (.inl hc), c2, c3, fun H' s => ?_⟩
      rw [c1]
      exact q H' s
    dsimp only
    refine seq_go (ifs_go (test_go (op_go ⟨_, rfl, rfl, _, rfl, ite2 (fun c => ?_) fun _ => next_go ?_⟩)))
    · rw [dec_str] at c
      exact absurd c (notk _ (by decide +kernel))
    dsimp only
    refine seq_go (ifs_go (test_go (op_go ⟨_, rfl, rfl, _, rfl, ite2 (fun c => ?_) fun _ => next_go ?_⟩)))
    · rw [dec_str] at c
      obtain ⟨c1, c2, c3, c4⟩ := k2 (eq_of_beq c)
      have hc : H qa = some (.lst (r.words.map V.str)) := by
        rcases hw with ⟨h, _⟩ | ⟨_, h, _⟩
        · rw [eq_of_beq c] at h
          exact absurd h (by decide +kernel)
        · exact h
      have wd : Words K H qa r.words := ⟨.inl (.inl hc), c1, c2⟩
      have sub3 := stepW_sub r.words 3
      have sub2 := stepW_sub r.words 2
      refine ret_go (all_go (((stepW r.words (some 2) none (some 2)).map fun _ => true)) (fun R kk => ?_) fun H' s => ?_)
      · refine zipN_go (xs := (stepW r.words (some 2) none (some 2)).map V.str) (ys := (stepW r.words (some 3) none (some 2)).map V.str) (((stepW r.words (some 2) none (some 2)).map fun _ => true).map V.bl) (fun R k => ?_) ?_ ?_ ?_ (fun u v => rfl) (fun n a b rr H' ha hb hr1 s1 R k => ?_) fun D H' s e => kk D H' s e
        · refine step_go (k := 2) rfl wd fun p1 H1 s1 w1 _ => step_go (k := 3) rfl (wd.same s1) fun p2 H2 s2 w2 _ => k p1 p2 H2 (s1.trans s2) (SqL.same w1.1 s2) w2.1
        · rw [List.length_map, List.length_map, c3]
        · simp
        · rw [List.length_map, sizeLine_eq]
          have := sub2.1
          have e : (stepW r.words (some 2) none (some 2)).length ≤ r.words.length := this
          omega
        · obtain ⟨u, hu, rfl⟩ := map_get ha
          obtain ⟨v, hv, rfl⟩ := map_get hb
          have hz : ((stepW r.words (some 2) none (some 2)).zip (stepW r.words (some 3) none (some 2)))[n]? = some (u, v) := by
            rw [List.getElem?_zip_eq_some]
            exact ⟨hu, hv⟩
          obtain ⟨d1, en, ek, mk⟩ := c4 _ (List.mem_of_getElem? hz)
          have hr2 : rr = V.bl true := by
            rw [List.getElem?_map, List.getElem?_map, hu] at hr1
            exact (Option.some.inj hr1).symm
          subst hr2
          have hx2 := hx.same s1
          refine call_go (cons_go (fld_dr O hx2 rfl (by decide) x.lk_packages (cons_go (step_go (k := 2) rfl (wd.same s1) fun p1 H1 s2 w1 _ => ⟨_, rfl, _, rfl, ?_⟩))))
          refine ⟨v, rfl, ((c2 v (sub3.2 v (List.mem_of_getElem? hv))).1), d1, x.own, x.packages, p1, u, en, m.packages, ?_, (hx2.same s2).pks, mk, fun H4 s4 => k H4 (s2.trans s4)⟩
          · rw [ek]
            rfl
      · have e : (((stepW r.words (some 2) none (some 2)).map fun _ => true).all id) = true := by
          rw [List.all_map]
          exact List.all_eq_true.mpr fun _ _ => rfl
        rw [e]
        exact q H' s
    dsimp only
    exact ret_go (q H (Same.refl H))
theorem ok_unn {k : Nat} {f fN : Addr} {fd fdN : FuncData} (G : Fun K "first_unnamed" "first_unnamed" sUnn f fd) (T : NatR mg) (O : Own K C drNames)
    (GN : FnOk P w K mg base CX0 k fN fdN ["draft", "kind", "words"] (spNames K C CP CE)) (gN : mg "names_rightly" = some (.ref fN)) (kN : PySem.W.keepIn K (.ref fN) = true) (bN : Binds K fdN ["draft", "kind", "words"] []) :
    FnOk P w K mg base CX0 (k + 1) f fd ["draft"] (spUnn C CP CE) := by
  refine G.ok scUnn (fun vs H Q E h => ?_) (fun cdv A outer s H vs Q E hr h => ?_)
  · obtain ⟨x, m, rfl, _⟩ := h
    rfl
  · obtain ⟨x, m, rfl, hx, wk, no, hz, q⟩ := h
    refine ⟨_, pss_cons (ps_for PassesOwn.never rfl (pi_enum (by rfl) T.enum (pa_cons (pe_fld (pv 0) rfl) pa_nil)) (pg_tup (by rfl) (pgs_cons (pg_name (i := 1) scUnn.nd rfl (Or.inl rfl)) (pgs_cons (pg_tup (by rfl) (pgs_cons (pg_name (i := 2) scUnn.nd rfl (Or.inl rfl)) (pgs_cons (pg_name (i := 3) scUnn.nd rfl (Or.inl rfl)) pgs_nil))) pgs_nil)))
        (pss_one (ps_if (pt_not (pt_val (pe_call GN hr (by rfl) gN kN bN .nil pass0 (pa_cons (pv 0) (pa_cons (pv 2) (pa_cons (pv 3) pa_nil)))))) (pss_one (ps_ret (pv 1))) pss_nil)))
      (pss_one (ps_ret pe_non)), ?_⟩
    obtain ⟨rs, Z, hR, ra⟩ := hx.rows
    have hl := ra.len
    refine seq_go (for_go (enum_go (cons_go (fld_dr O hx rfl (by decide) x.lk_rows ⟨x.rows, rs, rfl, .inl (.inl hR), ?_⟩))))
    refine ⟨fun i m1 σ H1 => m1 = rs.length - i ∧ i ≤ rs.length ∧ (∃ y1 y2 y3 : Option V, σ = [some (.ref x.d), y1, y2, y3]) ∧ Same H H1, ⟨_, rfl, Nat.zero_le _, ⟨none, none, none, rfl⟩, Same.refl _⟩, ?_⟩
    rintro i m1 σ H1 ⟨rfl, hi, ⟨y1, y2, y3, rfl⟩, s1⟩
    by_cases hlt : i < rs.length
    · have hv := List.getElem?_eq_getElem hlt
      generalize rs[i] = v at hv
      obtain ⟨row, hrow, p, qw, rfl, hp, hw⟩ := ra.get hv
      refine .inr ⟨⟨rs, _, .inl (.inl (s1 _ _ hR)), hv⟩, fun σ' H' => (∃ y1 y2 y3 : Option V, σ' = [some (.ref x.d), y1, y2, y3]) ∧ Same H H', fun σ' H' ⟨h1, h2⟩ => ⟨rs.length - (i + 1), by omega, rfl, hlt, h1, h2⟩, ?_⟩
      rintro v H' ⟨T1, xx, rfl, hT, rfl, f1⟩
      have ex := f1 rs (.inl (.inl (s1 _ _ hR)))
      rw [hv] at ex
      cases ex
      have sT := same_new (o := .tup [V.int (i : Nat), V.ref p]) hT
      have s2 := s1.trans sT
      refine ⟨T1, _, rfl, .inl (.inl upd_same), rfl, _, _, rfl, name_go ⟨_, _, rfl, p, _, rfl, .inl (.inl (s2 _ _ hp)), rfl, _, _, rfl, name_go ⟨_, _, rfl, name_go ⟨rfl, rfl, ?_⟩⟩⟩⟩
      dsimp only
      refine ifs_go (not_go (val_go (call_go ⟨_, rfl, _, rfl, _, rfl, x, m, row, qw, Z, rfl, hx.same s2, wk, hw.ext s2.ext, no row (List.mem_of_getElem? hrow), fun H3 s3 => ?_⟩)))
      exact ⟨_, rfl, ite2 (fun z => absurd z (by decide)) fun _ => next_go ⟨⟨_, _, _, rfl⟩, s2.trans s3⟩⟩
    · refine .inl ⟨⟨_, .inl (.inl (s1 _ _ hR)), by omega⟩, ?_⟩
      dsimp only
      exact ret_go (q H1 s1)
end
end Sc

namespace Sc
open PySem L2 PySem.Spec PyProof.Rows Lm
/-! ### a dict's comprehension that is given to a local -/
section
variable {X : Cx}
theorem ps_setDc {i : Nat} {y : Str} {py : Pos} {kx vx tg iter : Expr} {ifs : List Expr} {scope : Scope} {own : List (Str × Nat)} {pos spos : Pos} {wi : TI} {g : TG} {tt : TT} {tk tv : TE} (hc : X.calm = true) (hN : X.N.Nodup) (hy : X.N[i]? = some y) (hyl : X.env.scope.names.lookup y = some .local)
    (hsw : swapsWith (.DictComp kx vx [⟨tg, iter, ifs, 0⟩] scope pos) (some (.Name y py)) spos.line X.env = pure true) (hi : PI X tg iter wi) (ok : BlkOk X.N X.env.scope scope own)
    (hg : ∀ (s : Shared) (H : Hp) (C : Addr) (cl : List (Str × Addr)) (fp : List Addr), PG (X.blk s H scope (compEnvC scope cl C X.env) fp) tg g) (ht : ∀ (s : Shared) (H : Hp) (C : Addr) (cl : List (Str × Addr)) (fp : List Addr), PTs (X.blk s H scope (compEnvC scope cl C X.env) fp) ifs tt)
    (hk : ∀ (s : Shared) (H : Hp) (C : Addr) (cl : List (Str × Addr)) (fp : List Addr), PE (X.blk s H scope (compEnvC scope cl C X.env) fp) kx tk)
    (he : ∀ (s : Shared) (H : Hp) (C : Addr) (cl : List (Str × Addr)) (fp : List Addr), PE (X.blk s H scope (compEnvC scope cl C X.env) fp) vx tv) (hs : ∀ x, foldedSetIterable iter X.env x = pure x := by intro _; rfl) :
    PS X (.Assign [.Name y py] (.DictComp kx vx [⟨tg, iter, ifs, 0⟩] scope pos) spos) (tAsg (tDc wi g tt tk tv (own.map (·.2))) (gName i)) := by
  refine ⟨fun pins s σ H D I h => ?_⟩
  rw [exec_Assign_Name_used _ _ _ _ hsw]
  refine wpAny_bind (wpAny_standAt (wpAny_bind ?_))
  show wpAny _ X.A (do let _ ← comprehension (.DictComp kx vx [⟨tg, iter, ifs, 0⟩] scope pos) scope X.env (firstIterPos [⟨tg, iter, ifs, 0⟩] pos) newDict false (eval iter X.env) (some (assign (.Name y py) X.env))) _ _ s
  have h2 : tDc wi g tt tk tv (own.map (·.2)) σ H (fun x H1 => gName i x σ H1 D.nx) := h
  refine wpAny_bind (thn (dc_core (Qf := fun _ s' => SP X pins D .next s') hc hN I hi ok hg ht hk he hs h2 fun L C s' m H' I' q hn f => ?_) fun _ s' hq => wpAny_pure (wpAny_pure hq))
  show wpAny _ _ (assign (.Name y py) X.env (.ref L)) _ _ _
  obtain ⟨f0, f1, f2, f3, f4, f5⟩ := f
  refine wpAny_assign_Name (store_ok2 (v := V.ref L) I' hN hy (.inl hyl) rfl (fun s2 I2 ⟨a, sb, ha⟩ => ?_) (.inr hyl))
  have far : C ≠ a := by
    rcases ha with z | z
    · rw [z]
      exact f1
    · exact fun e => f4 y a z e.symm
  exact ⟨m, hn.sameBut sb far, fun h3 sb3 => ⟨_, H', I2.turned (t' := s2.toks) (fun b o hb e => (sb3.2 b hb).trans e) f0 f1 f3 f4 f5, q⟩⟩
end
/-! ### ring_behind, ring_of_needs, where nothing needs anything -/
abbrev sRingB : Stmt := top 78
abbrev sRing : Stmt := top 77
theorem scRingB : FnScope ["needs", "path", "name", "ring"] ["needs", "path"] (defScope sRingB) := ⟨rfl, rfl, rfl, by decide +kernel, rfl, by decide +kernel, by decide +kernel⟩
theorem scRing : FnScope ["packages", "needs", "name", "ring"] ["packages"] (defScope sRing) := ⟨rfl, rfl, rfl, by decide +kernel, rfl, by decide +kernel, by decide +kernel⟩
def spRingB : Sp := fun vs H Q _ => ∃ (nd p l : Addr) (nm : Str) (ks : List (Key × V)), vs = [.ref nd, .ref p] ∧ H nd = some (.dK ks) ∧ valV ks (.inr nm) = some (.ref l) ∧ H l = some (.lst []) ∧ H p = some (.tup [.str nm]) ∧ ∀ t H', Same H H' → H' t = some (.tup []) → Q (.ref t) H'
section
variable {P : Program} {w : World} {K : PySem.W.Frag} {mg : Str → Option Value} {base : Heap} {CP CE : Addr}
theorem ok_ringB {f : Addr} {fd : FuncData} (G : Fun K "ring_behind" "ring_behind" sRingB f fd) : FnOk P w K mg base CX0 1 f fd ["needs", "path"] spRingB := by
  refine G.ok scRingB (fun vs H Q E h => ?_) (fun cdv A outer s H vs Q E hr h => ?_)
  · obtain ⟨nd, p, l, nm, ks, rfl, _⟩ := h
    rfl
  · obtain ⟨nd, p, l, nm, ks, rfl, hn, hv, hl, hp, q⟩ := h
    refine ⟨_, pss_cons (ps_for PassesOwn.never rfl (pi_list (pe_dget (u1 hr.units) (pv 0) (pe_ix ix_tup (pv 1) (pe_un un_neg pe_int) (fun _ _ => rfl)) (fun _ _ => rfl))) (pg_name (i := 2) scRingB.nd rfl (Or.inl rfl)) pss_never)
      (pss_one (ps_ret (pe_tup pa_nil))), ?_⟩
    have gt := DGet.k (k := .inr nm) hn
    rw [hv] at gt
    refine seq_go (for_go (list_go ⟨_, rfl, _, rfl, _, rfl, p, _, _, _, rfl, rfl, .inl (.inl hp), rfl, nd, _, rfl, gt, l, rfl, ⟨_, .inl (.inl hl)⟩, ?_⟩))
    refine ⟨fun i m σ H1 => σ = [some (.ref nd), some (.ref p), none, none] ∧ H1 = H, ⟨0, rfl, rfl⟩, ?_⟩
    rintro i m σ H1 ⟨rfl, rfl⟩
    refine .inl ⟨⟨_, .inl (.inl hl), Nat.zero_le _⟩, ?_⟩
    dsimp only
    refine ret_go ⟨(by show 0 ≤ sizeLine; decide), fun t ht => ?_⟩
    exact q t _ (same_new ht) upd_same
end
end Sc

namespace Sc
open PySem L2 PySem.Spec PyProof.Rows Lm
def spRing (CP CE : Addr) : Sp := fun vs H Q _ => ∃ (Z : List Addr) (a : Addr) (pm : List (Str × PkM)), vs = [.ref a] ∧ a ∈ Z ∧ Pks CP CE Z H a pm ∧ (∀ q ∈ pm, Free q.2) ∧ pm.length ≤ 100 ∧ ∀ t H', Same H H' → H' t = some (.tup []) → Q (.ref t) H'
theorem same_unlock {H H1 : Hp} {a : Addr} {ks : List (Key × V)} {o : HO} (ha : H a = some (.dK ks)) (s : Same (upd H a o) H1) : Same H (upd H1 a (.dK ks)) := fun b u e => by
  by_cases z : b = a
  · rw [z] at e ⊢
    rw [upd_same, ← ha, e]
  · rw [upd_ne z]
    exact s _ _ ((upd_ne z).trans e)
theorem dict_at2 {β : Type} {Rl : V → β → Prop} : ∀ {rs : List (Key × V)} {qs : List (Str × β)} {i : Nat} {k : Key} {v : V}, DictAt Rl rs qs → rs[i]? = some (k, v) → ∃ q, qs[i]? = some q ∧ k = .inr q.1 ∧ Rl v q.2
  | [], [], i, k, v, _, h => by simp at h
  | r :: rs, q :: qs, 0, k, v, ⟨⟨e, x⟩, _⟩, h => by
    simp at h
    refine ⟨q, rfl, by rw [← e, h], ?_⟩
    rw [h] at x
    exact x
  | _ :: rs, _ :: qs, i + 1, k, v, ⟨_, b⟩, h => by
    have h2 : rs[i]? = some (k, v) := by simpa using h
    obtain ⟨q, hq, e⟩ := dict_at2 b h2
    exact ⟨q, by simpa using hq, e⟩
  | [], _ :: _, _, _, _, z, _ => z.elim
  | _ :: _, [], _, _, _, z, _ => z.elim
section
variable {P : Program} {w : World} {K : PySem.W.Frag} {mg : Str → Option Value} {base : Heap} {CP CE : Addr}
theorem ok_ring {f fB fN : Addr} {fd fdB fdN : FuncData} (G : Fun K "ring_of_needs" "ring_of_needs" sRing f fd) (OP : Own K CP pkNames)
    (GB : FnOk P w K mg base CX0 1 fB fdB ["needs", "path"] spRingB) (gB : mg "ring_behind" = some (.ref fB)) (kB : PySem.W.keepIn K (.ref fB) = true) (bB : Binds K fdB ["needs", "path"] [])
    (GN : FnOk P w K mg base CX0 1 fN fdN ["self"] (spNds CP CE)) (mN : Meth K CP "all_needs" fN) (bN : Binds K fdN ["self"] []) :
    FnOk P w K mg base CX0 2 f fd ["packages"] (spRing CP CE) := by
  refine G.ok scRing (fun vs H Q E h => ?_) (fun cdv A outer s H vs Q E hr h => ?_)
  · obtain ⟨Z, a, pm, rfl, _⟩ := h
    rfl
  · obtain ⟨Z, a, pm, rfl, az, ⟨ks, ha, dk⟩, fr, few, q⟩ := h
    refine ⟨_, pss_cons (ps_lock (ps_setDc (i := 1) (own := [("name", 2)]) (g := gName 2) (tt := tYes) (tk := tVar 2) (tv := tMeth CP "all_needs" (spNds CP CE) [] E0 (tDGet (tVar 0) (tVar 2)) tNil) rfl scRing.nd rfl rfl (by rfl) (pi_keys (pv 0)) (blkOk_by (own := [("name", 2)]) (N := ["packages", "needs", "name", "ring"]) (sc := defScope sRing) (by decide +kernel))
        (fun _ _ _ _ _ => pg_name (i := 2) scRing.nd rfl (Or.inl rfl)) (fun _ _ _ _ _ => pts_nil) (fun _ _ _ _ _ => pv 2) (fun _ _ _ _ _ => pe_meth0 (pe_dget (u1 hr.units) (pv 0) (pv 2) (fun _ _ => rfl)) OP.cl mN GN hr bN .nil pass0)))
      (pss_cons (ps_lock (ps_for PassesOwn.never rfl (pi_keys (pv 0)) (pg_name (i := 2) scRing.nd rfl (Or.inl rfl))
        (pss_cons (ps_set (i := 3) scRing.nd rfl (Or.inl rfl) (pe_call GB hr (by rfl) gB kB bB .nil pass0 (pa_cons (pv 1) (pa_cons (pe_tup (pa_cons (pv 2) pa_nil)) pa_nil))))
          (pss_one (ps_if (pt_truth (pv 3) (by intro _; rfl)) (pss_one (ps_ret (pv 3))) pss_nil)))))
      (pss_one (ps_ret (pe_tup pa_nil)))), ?_⟩
    have hl := dk.len
    refine seq_go ⟨a, .dK ks, ha, True.intro, fun od => ?_⟩
    have kp := kp_lock (o := .frz od (.dK ks)) ha az
    generalize hHL : upd H a (.frz od (.dK ks)) = HL at kp
    have eL : HL a = some (.frz od (.dK ks)) := by rw [← hHL, upd_same]
    refine asg_go ⟨_, rfl, a, od, rfl, .inl ⟨ks, eL, fun D hD => ?_⟩⟩
    have nDa : a ≠ D := ne_of_none eL hD
    refine ⟨fun i m H1 => m = ks.length - i ∧ i ≤ ks.length ∧ Same HL H1 ∧ ∃ kvs, H1 D = some (.dK kvs) ∧ kvs.length ≤ i ∧ ∀ q ∈ pm.take i, ∃ l, valV kvs (.inr q.1) = some (.ref l) ∧ H1 l = some (.lst []),
      ⟨_, rfl, Nat.zero_le _, same_new hD, [], upd_same, Nat.le_refl _, fun q hq => by simp at hq⟩, ?_⟩
    rintro i m H1 ⟨rfl, hi, s1, kvs, hD1, lk, hv1⟩
    have e1 := s1 _ _ eL
    by_cases hlt : i < ks.length
    · refine .inr ⟨⟨e1, hlt⟩, fun H' => Same HL H' ∧ ∃ kvs, H' D = some (.dK kvs) ∧ kvs.length ≤ i + 1 ∧ ∀ q ∈ pm.take (i + 1), ∃ l, valV kvs (.inr q.1) = some (.ref l) ∧ H' l = some (.lst []), fun H' ⟨b, c⟩ => ⟨ks.length - (i + 1), by omega, rfl, hlt, b, c⟩, ?_⟩
      rintro v H' ⟨rfl, k, vv, hk, rfl⟩
      obtain ⟨qq, hq, rfl, pk⟩ := dict_at2 dk hk
      have mem := List.mem_of_getElem? hq
      have et : pm.take (i + 1) = pm.take i ++ [qq] := by
        obtain ⟨h1, h2⟩ := List.getElem?_eq_some_iff.mp hq
        rw [List.take_succ_eq_append_getElem h1, h2]
      obtain ⟨bq, hbq⟩ := look_there mem
      obtain ⟨w1, hw1, pk1⟩ := (dict_look (k := qq.1) dk).2 bq hbq
      obtain ⟨qm, hqm, eqm⟩ := look_mem hbq
      have frq : Free bq := by
        rw [← eqm]
        exact fr _ hqm
      have pk2 := (pk1.kp kp).same s1
      have pk3 := pk2
      obtain ⟨g, rfl, hg, _⟩ := pk3
      refine ⟨rfl, yes_go (true_go ⟨_, rfl, _, rfl, _, rfl, a, _, rfl, .inl ⟨ks, .inr qq.1, .inr ⟨od, e1⟩, rfl, hw1.symm⟩, g.p, g.px, _, rfl, hg, by rfl, Z, .ref g.p, bq, rfl, pk2, frq, fun l H2 s2 nl hl2 => ⟨kvs, .inr qq.1, rfl, s2 _ _ hD1, ?_, ?_⟩⟩)⟩
      · rw [sizeLine_eq]
        omega
      have nlD : l ≠ D := fun z => by
        rw [z, hD1] at nl
        cases nl
      refine ⟨fun b u hb => ?_, _, upd_same, Nat.le_trans (length_putK _ _ _) (by omega), fun q2 hq2 => ?_⟩
      · rw [upd_ne (fun z => by rw [z, hD] at hb; cases hb)]
        exact s2 _ _ (s1 _ _ hb)
      · by_cases z : q2.1 = qq.1
        · exact ⟨l, by rw [valV_put, z, if_pos rfl], by rw [upd_ne nlD]; exact hl2⟩
        · rw [et] at hq2
          rcases List.mem_append.mp hq2 with h | h
          · obtain ⟨l2, v2, h2⟩ := hv1 q2 h
            refine ⟨l2, by rw [valV_put, if_neg (fun y => z (Sum.inr.inj y))]; exact v2, ?_⟩
            rw [upd_ne (ne_of h2 hD1 fun z => by cases z)]
            exact s2 _ _ h2
          · exact absurd (congrArg Prod.fst (List.mem_singleton.mp h)) z
    · obtain rfl : i = ks.length := by omega
      refine .inl ⟨⟨e1, Nat.le_refl _⟩, name_go ⟨e1, ?_⟩⟩
      rw [hl, List.take_length] at hv1
      have su := same_unlock ha (by rw [hHL]; exact s1)
      dsimp only
      generalize hHU : upd H1 a (.dK ks) = HU at su
      have eU : HU a = some (.dK ks) := by rw [← hHU, upd_same]
      have dU : HU D = some (.dK kvs) := by rw [← hHU, upd_ne (Ne.symm nDa)]; exact hD1
      have vU : ∀ q ∈ pm, ∃ l, valV kvs (.inr q.1) = some (.ref l) ∧ HU l = some (.lst []) := fun q hq => by
        obtain ⟨l, v, h⟩ := hv1 q hq
        exact ⟨l, v, by rw [← hHU, upd_ne (ne_of h e1 fun z => by cases z)]; exact h⟩
      refine seq_go ⟨a, .dK ks, eU, True.intro, fun od2 => ?_⟩
      generalize hHM : upd HU a (.frz od2 (.dK ks)) = HM
      have eM : HM a = some (.frz od2 (.dK ks)) := by rw [← hHM, upd_same]
      have dM : HM D = some (.dK kvs) := by rw [← hHM, upd_ne (Ne.symm nDa)]; exact dU
      have vM : ∀ q ∈ pm, ∃ l, valV kvs (.inr q.1) = some (.ref l) ∧ HM l = some (.lst []) := fun q hq => by
        obtain ⟨l, v, h⟩ := vU q hq
        exact ⟨l, v, by rw [← hHM, upd_ne (ne_of h eU fun z => by cases z)]; exact h⟩
      refine for_go ⟨_, rfl, a, od2, rfl, .inl ⟨ks, eM, ?_⟩⟩
      refine ⟨fun i m σ H2 => m = ks.length - i ∧ i ≤ ks.length ∧ (∃ y2 y3, σ = [some (.ref a), some (.ref D), y2, y3]) ∧ Same HM H2, ⟨_, rfl, Nat.zero_le _, ⟨none, none, rfl⟩, Same.refl _⟩, ?_⟩
      rintro i m σ H2 ⟨rfl, hi, ⟨y2, y3, rfl⟩, s2⟩
      by_cases hlt : i < ks.length
      · refine .inr ⟨⟨s2 _ _ eM, hlt⟩, fun σ' H' => (∃ y2 y3, σ' = [some (.ref a), some (.ref D), y2, y3]) ∧ Same HM H', fun σ' H' ⟨b, c⟩ => ⟨ks.length - (i + 1), by omega, rfl, hlt, b, c⟩, ?_⟩
        rintro v H' ⟨rfl, k, vv, hk, rfl⟩
        obtain ⟨qq, hq, rfl⟩ := dict_at dk hk
        obtain ⟨l, vl, hl1⟩ := vM qq (List.mem_of_getElem? hq)
        refine name_go ?_
        dsimp only
        refine seq_go (asg_go (call_go ⟨_, rfl, _, rfl, (by show 1 ≤ sizeLine; decide), fun p hp => ?_⟩))
        have s3 := s2.trans (same_new (o := .tup [V.str qq.1]) hp)
        refine ⟨D, p, l, qq.1, kvs, rfl, s3 _ _ dM, vl, s3 _ _ hl1, upd_same, fun t H3 s4 ht => name_go ?_⟩
        dsimp only
        refine ifs_go ⟨_, rfl, false, .inr (.inl ⟨[], .inl (.inl ht), rfl⟩), ?_⟩
        exact ite2 (fun z => absurd z (by decide)) fun _ => next_go ⟨⟨_, _, rfl⟩, s3.trans s4⟩
      · obtain rfl : i = ks.length := by omega
        have e2 := s2 _ _ eM
        refine .inl ⟨⟨e2, Nat.le_refl _⟩, e2, ?_⟩
        have su2 := same_unlock eU (by rw [hHM]; exact s2)
        dsimp only
        refine ret_go ⟨(by show 0 ≤ sizeLine; decide), fun t ht => ?_⟩
        exact q t _ ((su.trans su2).trans (same_new ht)) upd_same
end
end Sc

namespace Sc
open PySem L2 PySem.Spec PyProof.Rows Lm PySem.AutoSeq1
/-! ### xs.extend(t), t any tuple -/
theorem ext_tup (l : Addr) (items : Array Value) (n : Nat) (b : Addr) (items2 : Array Value) (n2 : Nat) (dd : Option Addr) (sl : Array (Option Value)) (long : ¬(!items.isEmpty && Builtin.List.listTooLong (items.size + items2.size)) = true) (h1 : items.size ≤ sizeLine) (h2 : items.size + items2.size ≤ sizeLine + 1) :
    Meets (Builtin.«list.extend» ⟨[.ref l, .ref b], []⟩) (fun _ R s => s.heap.get? l = some { cls := .type "list", dict := none, data := .seq items n, slots := #[] } ∧ s.heap.get? b = some { cls := .type "tuple", dict := dd, data := .seq items2 n2, slots := sl } ∧ R (.ok (.ret Value.none)) { s with heap := s.heap.update l (Obj.mapSeq fun x => x ++ items2), toks := s.toks }) :=
  .of_wp fun prog w A R s h => by
    obtain ⟨hp, g, d, tk, os⟩ := s
    obtain ⟨hl, hb, h⟩ := h
    have f1 := idx_int
    have f2 := AutoSeq1.sub_tuple_tuple
    have f3 := AutoSeq1.sub_list_list
    have f4 := AutoSeq1.sub_tuple_list
    have f5 := AutoSeq1.sub_list_tuple
    have size : (items ++ items2).size ≤ sizeLine + 1 := by
      rw [Array.size_append]
      exact h2
    wp_walk using (wpAny_updateSeq hl rfl (hz := h1) (_hz' := size)), wpAny_loadPart' hl, wpAny_loadPart' hb
    exact ⟨_, rfl, h⟩
def rExtT (K : PySem.W.Frag) : V → List V → Hp → VK → Prop := fun x vs H Q => ∃ l b xs zs, x = .ref l ∧ vs = [.ref b] ∧ H l = some (.lst xs) ∧ SqT K H b zs ∧ xs.length + zs.length ≤ sizeLine ∧ Q .non (upd H l (.lst (xs ++ zs)))
theorem mt_extT {X : Cx} : MtM X "list.extend" (rExtT X.K) := by
  intro pins s σ H x vs v us Q I rx rv h
  obtain ⟨l, b, xs, zs, rfl, rfl, hH, hB, hz, q⟩ := h
  cases rx
  obtain ⟨u, rfl, ru⟩ := rv.one
  cases ru
  obtain ⟨z, its, n, r, hl, e⟩ := I.lstM hH
  obtain ⟨its2, r2, ⟨⟨cls, dd, dt, sl⟩, e2, c2, n2, d2⟩, hz2⟩ := I.tuple hB
  simp only at c2 d2
  subst c2
  subst d2
  have len2 := r2.length
  have hsz : its.toArray.size + its2.toArray.size ≤ sizeLine := by rw [List.size_toArray, List.size_toArray]; omega
  have hlong : ¬ (!its.toArray.isEmpty && Builtin.List.listTooLong (its.toArray.size + its2.toArray.size)) = true := by
    rw [notLongL hsz, Bool.and_false]
    exact Bool.false_ne_true
  refine call_meets F.slot_list_extend ⟨_, e, rfl⟩ F.entry_list_extend (F.args_list_extend_2 _ _) (ext_tup l its.toArray n b its2.toArray n2 dd sl hlong (by rw [List.size_toArray]; omega) (by omega)) ⟨e, e2, ?_⟩
  refine ⟨.non, _, I.lset (its' := its ++ its2) hH e (by simp) (r.append r2) ?_, rfl, q⟩
  rw [List.length_append]
  omega
end Sc

namespace Sc
open PySem L2 PySem.Spec PyProof.Rows Lm
/-! ### package_steps, where no edition has programs -/
abbrev sPst : Stmt := top 66
theorem scPst : FnScope ["name", "elder", "newer", "leaving", "coming", "steps"] ["name", "elder", "newer"] (defScope sPst) := ⟨rfl, rfl, rfl, by decide +kernel, rfl, by decide +kernel, by decide +kernel⟩
def BareAt (CE : Addr) (Z : List Addr) (H : Hp) (v : V) : Prop := v = .non ∨ ∃ m, EdIs CE Z H v m ∧ m.programs = []
theorem BareAt.same {CE : Addr} {Z : List Addr} {H H' : Hp} (s : Same H H') {v : V} (h : BareAt CE Z H v) : BareAt CE Z H' v := h.imp id fun ⟨m, e, p⟩ => ⟨m, e.same s, p⟩
def spPst (CE : Addr) : Sp := fun vs H Q _ => ∃ (Z : List Addr) (nm : Str) (e n : V), vs = [.str nm, e, n] ∧ BareAt CE Z H e ∧ BareAt CE Z H n ∧ ∀ t v H', Same H H' → H' t = some (.tup [v]) → Q (.ref t) H'
theorem isn_go {v : V} {H : Hp} {Q : VK} (h : Q (.bl (decide (v = .non))) H) : rIsN v .non H Q := ⟨rfl, h⟩
theorem bare_go {K : PySem.W.Frag} {CE : Addr} {Z : List Addr} {σ : L2.St} {H : Hp} {Q : VK} {i : Nat} {v : V} (OE : Own K CE edNames) (hs : σ[i]? = some (some v)) (hv : BareAt CE Z H v) (q : ∀ L H', Same H H' → H L = none → H' L = some (.lst []) → Q (.ref L) H') :
    tIf (tTest (tOp rIsN (tVar i) (tC .non))) (tLst tNil) (tCB (fun xs H Q => ∃ (a : Addr) (kvs : List (Key × V)), xs = [.ref a] ∧ L2.Rd H a (.dK kvs) ∧ ∀ p, H p = none → Q (.ref p) (upd H p (.lst (kvs.map fun kv => kV kv.1)))) (tCons (tFld K (tVar i) "programs") tNil)) σ H Q := by
  rcases hv with rfl | ⟨m, ⟨y, rfl, hy, _, ⟨ks, hks, pa⟩, _⟩, em⟩
  · exact ⟨_, hs, rfl, _, rfl, ite2 (fun _ => ⟨(by show 0 ≤ sizeLine; decide), fun L hL => q L _ (same_new hL) hL upd_same⟩) fun z => absurd (by decide) z⟩
  · rw [em] at pa
    have ek : ks = [] := by
      cases ks with
      | nil => rfl
      | cons r rs => exact pa.elim
    subst ek
    refine ⟨_, hs, rfl, _, rfl, ite2 (fun z => absurd z ?_) fun _ => cb_go (cons_go ⟨_, hs, y.e, CE, y.ex, _, _, rfl, hy, OE.cl, OE.no _ (by decide), y.lk_programs, y.programs, [], rfl, .inl hks, fun L hL => q L _ (same_new hL) hL upd_same⟩)⟩
    simp
section
variable {P : Program} {w : World} {K : PySem.W.Frag} {mg : Str → Option Value} {base : Heap} {CE : Addr}
theorem ok_pst {f : Addr} {fd : FuncData} (G : Fun K "package_steps" "package_steps" sPst f fd) (T : NatR mg) (OE : Own K CE edNames) : FnOk P w K mg base CX0 1 f fd ["name", "elder", "newer"] (spPst CE) := by
  refine G.ok scPst (fun vs H Q E h => ?_) (fun cdv A outer s H vs Q E hr h => ?_)
  · obtain ⟨Z, nm, e, n, rfl, _⟩ := h
    rfl
  · obtain ⟨Z, nm, e, n, rfl, he, hn, q⟩ := h
    refine ⟨_, pss_cons (ps_set (i := 3) scPst.nd rfl (Or.inl rfl) (pe_ifExp (pt_cmpR op_isN1 (pv 1) pe_non (nomark _)) (pe_lst pa_nil) (pe_callTy (call_listD rfl) (by rfl) T.list (by decide +kernel) (pa_cons (pe_fld (pv 1) rfl) pa_nil))))
      (pss_cons (ps_set (i := 4) scPst.nd rfl (Or.inl rfl) (pe_ifExp (pt_cmpR op_isN1 (pv 2) pe_non (nomark _)) (pe_lst pa_nil) (pe_callTy (call_listD rfl) (by rfl) T.list (by decide +kernel) (pa_cons (pe_fld (pv 2) rfl) pa_nil))))
      (pss_cons (ps_set (i := 5) scPst.nd rfl (Or.inl rfl) (pe_lst pa_nil))
      (pss_cons (ps_if (pt_cmpR op_in_seq pe_str (pv 3) (by rfl)) pss_never pss_nil)
      (pss_cons (ps_if (pt_cmpR op_in_seq pe_str (pv 4) (by rfl)) pss_never pss_nil)
      (pss_cons (ps_expr (pe_bm PySem.F.plainAttrs_list PySem.F.slot_list_append PySem.F.type_list_append mt_append (pv 5) (pa_cons (pe_tup (pa_cons (pv 0) (pa_cons pe_str pa_nil))) pa_nil)))
      (pss_cons (ps_if (pt_cmpR op_in_seq pe_str (pv 3) (by rfl)) pss_never pss_nil)
      (pss_cons (ps_if (pt_cmpR op_in_seq pe_str (pv 4) (by rfl)) pss_never pss_nil)
      (pss_one (ps_ret (pe_callTy call_tuple_of (by rfl) T.tuple (by decide +kernel) (pa_cons (pv 5) pa_nil))))))))))), ?_⟩
    refine seq_go (asg_go (bare_go OE rfl he fun L1 H1 s1 n1 e1 => name_go ?_))
    dsimp only
    refine seq_go (asg_go (bare_go OE rfl (hn.same s1) fun L2 H2 s2 n2 e2 => name_go ?_))
    dsimp only
    refine seq_go (asg_go ⟨(by show 0 ≤ sizeLine; decide), fun S hS => name_go ?_⟩)
    dsimp only
    have s3 := same_new (o := .lst []) hS
    have e1' := s3 _ _ (s2 _ _ e1)
    have e2' := s3 _ _ e2
    refine seq_go (ifs_go (test_go (op_go ⟨_, rfl, L1, [], rfl, .inl (.inl (.inl e1')), rfl, rfl, _, rfl, ite2 (fun z => absurd z (by decide)) fun _ => next_go ?_⟩)))
    dsimp only
    refine seq_go (ifs_go (test_go (op_go ⟨_, rfl, L2, [], rfl, .inl (.inl (.inl e2')), rfl, rfl, _, rfl, ite2 (fun z => absurd z (by decide)) fun _ => next_go ?_⟩)))
    dsimp only
    refine seq_go (drop_go (bm_go ⟨_, rfl, .inl ⟨rfl, _, .inl (.inl upd_same)⟩, _, rfl, (by show 2 ≤ sizeLine; decide), fun p hp => ?_⟩))
    have s4 := same_new (o := .tup [V.str nm, V.str "lay"]) hp
    refine ⟨S, _, _, rfl, rfl, s4 _ _ upd_same, (by show 0 < sizeLine; decide), ?_⟩
    have n1S : L1 ≠ S := fun z => by
      rw [← z, s2 _ _ e1] at hS
      cases hS
    have n2S : L2 ≠ S := fun z => by
      rw [← z, e2] at hS
      cases hS
    have k1 := (upd_ne (o := .lst ([] ++ [V.ref p])) n1S).trans (s4 _ _ e1')
    have k2 := (upd_ne (o := .lst ([] ++ [V.ref p])) n2S).trans (s4 _ _ e2')
    dsimp only
    refine seq_go (ifs_go (test_go (op_go ⟨_, rfl, L1, [], rfl, .inl (.inl (.inl k1)), rfl, rfl, _, rfl, ite2 (fun z => absurd z (by decide)) fun _ => next_go ?_⟩)))
    dsimp only
    refine seq_go (ifs_go (test_go (op_go ⟨_, rfl, L2, [], rfl, .inl (.inl (.inl k2)), rfl, rfl, _, rfl, ite2 (fun z => absurd z (by decide)) fun _ => next_go ?_⟩)))
    dsimp only
    refine ret_go (cb_go (cons_go ⟨_, rfl, S, _, rfl, .inl ⟨.inl (.inl upd_same), fun t ht => ?_⟩⟩))
    refine q t (.ref p) _ (fun b u hb => ?_) upd_same
    have nb : b ≠ S := fun z => by
      rw [← z, s2 _ _ (s1 _ _ hb)] at hS
      cases hS
    have e5 := (upd_ne (o := .lst ([] ++ [V.ref p])) nb).trans (s4 _ _ (s3 _ _ (s2 _ _ (s1 _ _ hb))))
    exact (upd_ne (ne_of_none e5 ht)).trans e5
end
end Sc

namespace Sc
open PySem L2 PySem.Spec PyProof.Rows Lm
/-! ### upgrade_steps, where no edition has programs -/
abbrev sUps : Stmt := top 67
abbrev nUps : List Str := ["packages", "elder", "newer", "steps", "name", "one", "other", "package"]
theorem scUps : FnScope nUps ["packages", "elder", "newer"] (defScope sUps) := ⟨rfl, rfl, rfl, by decide +kernel, rfl, by decide +kernel, by decide +kernel⟩
def BareP (m : PkM) : Prop := ∀ e ∈ m.eds, e.programs = []
def FitS (pm : List (Str × PkM)) (m : List (Str × Int)) : Prop := ∀ q ∈ pm, look m q.1 = none ∨ ∃ k : Nat, look m q.1 = some ((k + 1 : Nat) : Int) ∧ k < q.2.eds.length
def spUps (CP CE : Addr) : Sp := fun vs H Q _ => ∃ (Z : List Addr) (a : Addr) (pm : List (Str × PkM)) (ve vn : V) (me mn : List (Str × Int)), vs = [.ref a, ve, vn] ∧ a ∈ Z ∧ Pks CP CE Z H a pm ∧ (∀ q ∈ pm, BareP q.2) ∧ (pm.map (·.1)).Nodup ∧ pm.length ≤ 100 ∧ SetIs Z H ve me ∧ SetIs Z H vn mn ∧ FitS pm me ∧ FitS pm mn ∧
  ∀ t xs H', Same H H' → H' t = some (.tup xs) → xs.length ≤ pm.length → Q (.ref t) H'
theorem look_nodup {β : Type} {q : Str × β} : ∀ {pm : List (Str × β)}, (pm.map (·.1)).Nodup → q ∈ pm → look pm q.1 = some q.2
  | [], _, h => by cases h
  | p :: ps, nd, h => by
    rw [List.map_cons, List.nodup_cons] at nd
    unfold look
    rw [List.find?_cons]
    rcases List.mem_cons.mp h with rfl | h
    · rw [decide_eq_true rfl]
      rfl
    · have : p.1 ≠ q.1 := fun z => nd.1 (z ▸ List.mem_map_of_mem h)
      rw [decide_eq_false this]
      exact look_nodup nd.2 h
def Num (v : V) (pk : PkM) : Prop := v = .non ∨ ∃ k : Nat, v = .int ((k + 1 : Nat) : Int) ∧ k < pk.eds.length
theorem Num.dp {K : PySem.W.Frag} {H : Hp} {v : V} {m : PkM} (h : Num v m) : ∃ d, Dp K H v d ∧ SeqAt.shaped d = true := by
  rcases h with rfl | ⟨k, rfl, _⟩
  · exact ⟨_, .non, rfl⟩
  · exact ⟨_, .int _, rfl⟩
theorem Num.of {H : Hp} {v : V} {m : PkM} {o : Option V} {ks : List (Key × V)} {me : List (Str × Int)} {pm : List (Str × PkM)} {q : Str × PkM} (dk : DictAt IntIs ks me) (f : FitS pm me) (hq : q ∈ pm) (ho : o = valV ks (.inr q.1)) : Num (o.getD .non) q.2 := by
  subst ho
  rcases f q hq with h | ⟨k, h, hk⟩
  · rw [(dict_look (k := q.1) dk).1 h]
    exact .inl rfl
  · obtain ⟨v, hv, rfl⟩ := (dict_look (k := q.1) dk).2 _ h
    rw [hv]
    exact .inr ⟨k, rfl, hk⟩
theorem Num.edn {Z : List Addr} {H : Hp} {CP CE : Addr} {v u : V} {m : PkM} {Q : VK} {E : XK} (h : Num v m) (hb : BareP m) (hu : PkIs CP CE Z H u m) (q : ∀ x, BareAt CE Z H x → Q x H) : spEdn CP CE [u, v] H Q E := by
  refine ⟨Z, u, m, v, rfl, hu, fun _ => q _ (.inl rfl), ?_⟩
  rcases h with rfl | ⟨k, rfl, hk⟩
  · exact .inl rfl
  · exact .inr ⟨k, m.eds[k], rfl, List.getElem?_eq_getElem hk, fun x hx => q x (.inr ⟨_, hx, hb _ (List.getElem_mem hk)⟩)⟩
section
variable {P : Program} {w : World} {K : PySem.W.Frag} {mg : Str → Option Value} {base : Heap} {CP CE : Addr}
theorem ok_ups {f fP fE : Addr} {fd fdP fdE : FuncData} (G : Fun K "upgrade_steps" "upgrade_steps" sUps f fd) (T : NatR mg) (OP : Own K CP pkNames)
    (GP : FnOk P w K mg base CX0 1 fP fdP ["name", "elder", "newer"] (spPst CE)) (gP : mg "package_steps" = some (.ref fP)) (kP : PySem.W.keepIn K (.ref fP) = true) (bP : Binds K fdP ["name", "elder", "newer"] [])
    (GE : FnOk P w K mg base CX0 1 fE fdE ["self", "number"] (spEdn CP CE)) (mE : Meth K CP "edition" fE) (bE : Binds K fdE ["self", "number"] []) :
    FnOk P w K mg base CX0 2 f fd ["packages", "elder", "newer"] (spUps CP CE) := by
  refine G.ok scUps (fun vs H Q E h => ?_) (fun cdv A outer s H vs Q E hr h => ?_)
  · obtain ⟨Z, a, pm, ve, vn, me, mn, rfl, _⟩ := h
    rfl
  · obtain ⟨Z, a, pm, ve, vn, me, mn, rfl, az, ⟨ks, ha, dk⟩, fr, nd, few, ⟨da, ka, rfl, dza, hda, dka⟩, ⟨db, kb, rfl, dzb, hdb, dkb⟩, fe, fn, q⟩ := h
    refine ⟨_, pss_cons (ps_set (i := 3) scUps.nd rfl (Or.inl rfl) (pe_lst pa_nil))
      (pss_cons (ps_lock (ps_for PassesOwn.never rfl (pi_keys (pv 0)) (pg_name (i := 4) scUps.nd rfl (Or.inl rfl))
        (pss_cons (ps_par (i := 5) (j := 6) rfl scUps.nd rfl rfl (by decide) rfl rfl (pa_cons (pe_dget1 (u1 hr.units) (pv 1) (pv 4) ⟨rfl, rfl, rfl, rfl⟩) (pa_cons (pe_dget1 (u1 hr.units) (pv 2) (pv 4) ⟨rfl, rfl, rfl, rfl⟩) pa_nil)) rfl)
          (pss_one (ps_if (pt_cmpR (op_neD hr.units) (pv 5) (pv 6) (nomark _))
            (pss_cons (ps_set (i := 7) scUps.nd rfl (Or.inl rfl) (pe_dget (u1 hr.units) (pv 0) (pv 4) (fun _ _ => rfl)))
              (pss_one (ps_expr (pe_bm PySem.F.plainAttrs_list PySem.F.slot_list_extend PySem.F.type_list_extend mt_extT (pv 3) (pa_cons (pe_call GP hr (by rfl) gP kP bP .nil pass0
                (pa_cons (pv 4) (pa_cons (pe_meth (pv 7) OP.cl mE GE hr bE .nil pass0 (pa_cons (pv 5) pa_nil)) (pa_cons (pe_meth (pv 7) OP.cl mE GE hr bE .nil pass0 (pa_cons (pv 6) pa_nil)) pa_nil)))) pa_nil))))) pss_nil)))))
      (pss_one (ps_ret (pe_callTy call_tuple_of (by rfl) T.tuple (by decide +kernel) (pa_cons (pv 3) pa_nil))))), ?_⟩
    have hl := dk.len
    have na : a ≠ da := fun z => dza (z ▸ az)
    have nb : a ≠ db := fun z => dzb (z ▸ az)
    refine seq_go (asg_go ⟨(by show 0 ≤ sizeLine; decide), fun S hS => name_go ?_⟩)
    dsimp only
    have s0 := same_new (o := .lst []) hS
    have nSa : S ≠ a := fun z => by rw [z, ha] at hS; cases hS
    generalize hH0 : upd H S (.lst []) = H0 at s0
    have eS : H0 S = some (.lst []) := by rw [← hH0, upd_same]
    have ha0 := s0 _ _ ha
    refine seq_go ⟨a, .dK ks, ha0, True.intro, fun od => ?_⟩
    have kp := kp_lock (o := .frz od (.dK ks)) ha0 az
    generalize hHL : upd H0 a (.frz od (.dK ks)) = HL at kp
    have eL : HL a = some (.frz od (.dK ks)) := by rw [← hHL, upd_same]
    have la : HL da = some (.dK ka) := by rw [← hHL, upd_ne (Ne.symm na)]; exact s0 _ _ hda
    have lb : HL db = some (.dK kb) := by rw [← hHL, upd_ne (Ne.symm nb)]; exact s0 _ _ hdb
    have lS : HL S = some (.lst []) := by rw [← hHL, upd_ne nSa]; exact eS
    have nSda : S ≠ da := fun z => by rw [z, hda] at hS; cases hS
    have nSdb : S ≠ db := fun z => by rw [z, hdb] at hS; cases hS
    have kq : ∀ {H2 : Hp}, (∀ b u, b ≠ S → HL b = some u → H2 b = some u) → Kp Z H H2 := fun k2 x o hx hz => by
      refine k2 _ _ (fun y => by rw [y, hS] at hx; cases hx) ?_
      rw [← hHL, upd_ne ?_]
      · exact s0 _ _ hx
      · rintro rfl
        rw [ha] at hx
        cases hx
        exact hz.elim (fun z => z az) fun z => z _ rfl
    refine for_go ⟨_, rfl, a, od, rfl, .inl ⟨ks, eL, ?_⟩⟩
    refine ⟨fun i m σ H2 => m = ks.length - i ∧ i ≤ ks.length ∧ (∃ y4 y5 y6 y7, σ = [some (.ref a), some (.ref da), some (.ref db), some (.ref S), y4, y5, y6, y7]) ∧ (∀ b u, b ≠ S → HL b = some u → H2 b = some u) ∧ ∃ xs, H2 S = some (.lst xs) ∧ xs.length ≤ i,
      ⟨_, rfl, Nat.zero_le _, ⟨none, none, none, none, rfl⟩, fun b u _ e => e, [], lS, Nat.le_refl _⟩, ?_⟩
    rintro i m σ H2 ⟨rfl, hi, ⟨y4, y5, y6, y7, rfl⟩, k2, xs, hx, lx⟩
    by_cases hlt : i < ks.length
    · refine .inr ⟨⟨k2 _ _ (Ne.symm nSa) eL, hlt⟩, fun σ' H' => (∃ y4 y5 y6 y7, σ' = [some (.ref a), some (.ref da), some (.ref db), some (.ref S), y4, y5, y6, y7]) ∧ (∀ b u, b ≠ S → HL b = some u → H' b = some u) ∧ ∃ xs, H' S = some (.lst xs) ∧ xs.length ≤ i + 1, fun σ' H' ⟨b, c⟩ => ⟨ks.length - (i + 1), by omega, rfl, hlt, b, c⟩, ?_⟩
      rintro v H' ⟨rfl, k, vv, hk, rfl⟩
      obtain ⟨qq, hq, rfl⟩ := dict_at dk hk
      have mem := List.mem_of_getElem? hq
      obtain ⟨w1, hw1, pk⟩ := (dict_look (k := qq.1) dk).2 _ (look_nodup nd mem)
      refine name_go ?_
      dsimp only
      have va := Num.of (v := .non) (m := qq.2) (H := H') dka fe mem rfl
      have vb := Num.of (v := .non) (m := qq.2) (H := H') dkb fn mem rfl
      have ea := k2 _ _ (Ne.symm nSda) la
      have eb := k2 _ _ (Ne.symm nSdb) lb
      have el := k2 _ _ (Ne.symm nSa) eL
      refine seq_go ⟨_, rfl, da, rfl, .inl ⟨ka, .inl ea⟩, _, rfl, _, .inl ⟨ka, .inr qq.1, .inl ea, rfl, rfl⟩, ?_⟩
      refine ⟨_, rfl, db, rfl, .inl ⟨kb, .inl eb⟩, _, rfl, _, .inl ⟨kb, .inr qq.1, .inl eb, rfl, rfl⟩, _, _, rfl, ?_⟩
      generalize (valV ka (.inr qq.1)).getD V.non = v1 at va
      generalize (valV kb (.inr qq.1)).getD V.non = v2 at vb
      dsimp only [List.set]
      obtain ⟨d1, D1, t1⟩ := va.dp (K := K) (H := H')
      obtain ⟨d2, D2, t2⟩ := vb.dp (K := K) (H := H')
      refine ifs_go (test_go (op_go ⟨_, rfl, _, rfl, d1, d2, D1, D2, t1, t2, _, rfl, ite2 (fun _ => ?_) fun _ => next_go ⟨⟨_, _, _, _, rfl⟩, k2, xs, hx, Nat.le_succ_of_le lx⟩⟩))
      have pq : PkIs CP CE Z H' w1 qq.2 := pk.kp (kq k2)
      refine seq_go (asg_go ⟨_, rfl, _, rfl, a, _, rfl, .inl ⟨ks, .inr qq.1, .inr ⟨od, el⟩, rfl, hw1.symm⟩, name_go ?_⟩)
      dsimp only
      have pq2 := pq
      obtain ⟨g, rfl, hg, _⟩ := pq2
      refine drop_go (bm_go ⟨_, rfl, .inl ⟨rfl, _, .inl (.inl hx)⟩, ?_⟩)
      refine ⟨_, rfl, _, rfl, g.p, g.px, _, rfl, hg, by rfl, _, rfl, ?_⟩
      dsimp only [tNil, List.cons_append, List.nil_append, List.set]
      refine va.edn (fr _ mem) pq fun x1 b1 => ?_
      refine ⟨_, rfl, g.p, g.px, _, rfl, hg, by rfl, _, rfl, ?_⟩
      dsimp only [tNil, List.cons_append, List.nil_append, List.set]
      refine vb.edn (fr _ mem) pq fun x2 b2 => ?_
      refine ⟨Z, _, _, _, rfl, b1, b2, fun t v H3 s3 ht => ?_⟩
      refine ⟨S, t, xs, [v], rfl, rfl, s3 _ _ hx, .inl (.inl ht), ?_, ⟨_, _, _, _, rfl⟩, fun b u nb eb => ?_, _, upd_same, ?_⟩
      · rw [sizeLine_eq]
        show xs.length + 1 ≤ _
        omega
      · rw [upd_ne nb]
        exact s3 _ _ (k2 _ _ nb eb)
      · rw [List.length_append]
        show xs.length + 1 ≤ _
        omega
    · obtain rfl : i = ks.length := by omega
      have e2 := k2 _ _ (Ne.symm nSa) eL
      refine .inl ⟨⟨e2, Nat.le_refl _⟩, e2, ?_⟩
      dsimp only
      have sf : Same H (upd H2 a (.dK ks)) := fun b u hb => by
        by_cases z : b = a
        · rw [z] at hb ⊢
          rw [upd_same, ← ha, hb]
        · rw [upd_ne z]
          refine k2 _ _ (fun y => by rw [y, hS] at hb; cases hb) ?_
          rw [← hHL, upd_ne z]
          exact s0 _ _ hb
      refine ret_go (cb_go (cons_go ⟨_, rfl, S, xs, rfl, .inl ⟨.inl (.inl ((upd_ne nSa).trans hx)), fun t ht => ?_⟩⟩))
      exact q t _ _ (sf.trans (same_new ht)) upd_same (by omega)
end
end Sc

namespace Sc
open PySem L2 PySem.Spec PyProof.Rows Lm
/-! ### most_steps, where no edition has programs -/
abbrev sMost : Stmt := top 80
abbrev nMost : List Str := ["packages", "sets", "elder", "newer"]
theorem scMost : FnScope nMost ["packages", "sets"] (defScope sMost) := ⟨rfl, rfl, rfl, by decide +kernel, rfl, by decide +kernel, by decide +kernel⟩
theorem SetIs.same {Z : List Addr} {H H' : Hp} {v : V} {m : List (Str × Int)} (s : Same H H') (h : SetIs Z H v m) : SetIs Z H' v m := by
  obtain ⟨d, kk, e, nz, hd, t⟩ := h
  exact ⟨d, kk, e, nz, s _ _ hd, t⟩
def spMost (CP CE : Addr) : Sp := fun vs H Q _ => ∃ (Z : List Addr) (a ds : Addr) (pm : List (Str × PkM)) (ss : List (Key × V)) (sm : List (Str × List (Str × Int))), vs = [.ref a, .ref ds] ∧ a ∈ Z ∧ ds ∈ Z ∧ a ≠ ds ∧ Pks CP CE Z H a pm ∧ (∀ q ∈ pm, BareP q.2) ∧ (pm.map (·.1)).Nodup ∧ pm.length ≤ 6 ∧
  H ds = some (.dK ss) ∧ DictAt (SetIs Z H) ss sm ∧ (sm.map (·.1)).Nodup ∧ 0 < sm.length ∧ sm.length ≤ 20 ∧ (∀ s ∈ sm, FitS pm s.2) ∧ ∀ n H', Same H H' → n ≤ 6 → Q (.int n) H'
section
variable {P : Program} {w : World} {K : PySem.W.Frag} {mg : Str → Option Value} {base : Heap} {CP CE : Addr}
theorem ok_most {f fU : Addr} {fd fdU : FuncData} (G : Fun K "most_steps" "most_steps" sMost f fd) (T : NatR mg)
    (GU : FnOk P w K mg base CX0 2 fU fdU ["packages", "elder", "newer"] (spUps CP CE)) (gU : mg "upgrade_steps" = some (.ref fU)) (kU : PySem.W.keepIn K (.ref fU) = true) (bU : Binds K fdU ["packages", "elder", "newer"] []) :
    FnOk P w K mg base CX0 3 f fd ["packages", "sets"] (spMost CP CE) := by
  refine G.ok scMost (fun vs H Q E h => ?_) (fun cdv A outer s H vs Q E hr h => ?_)
  · obtain ⟨Z, a, ds, pm, ss, sm, rfl, _⟩ := h
    rfl
  · obtain ⟨Z, a, ds, pm, ss, sm, rfl, az, dz, nad, ⟨ks, ha, dk⟩, fr, nd, few, hds, dss, nds, some1, fews, fit, q⟩ := h
    refine ⟨_, pss_one (ps_ret (pe_callB (cr_max rfl) (by rfl) T.max (by decide +kernel) (pa_cons (pe_lock (pe_lc2 (own := [("elder", 2), ("newer", 3)]) (vs1 := [3]) (g := gName 2) (tt := tYes) (wi1 := iKeys (tVar 1)) (g1 := gName 3) (tt1 := tYes)
        (te := tCB (fun xs H Q => ∃ b ys, xs = [.ref b] ∧ (SqL K H b ys ∨ SqT K H b ys) ∧ Q (.int ys.length) H) (tCons (tCall (spUps CP CE) [] E0 (tCons (tVar 0) (tCons (tDGet (tVar 1) (tVar 2)) (tCons (tDGet (tVar 1) (tVar 3)) tNil)))) tNil)) rfl scMost.nd (pi_keys (pv 1)) (blkOk_by (own := [("elder", 2), ("newer", 3)]) (N := nMost) (sc := defScope sMost) (by decide +kernel)) (by decide)
        (fun _ _ _ _ _ => pg_name (i := 2) scMost.nd rfl (Or.inl rfl)) (fun _ _ _ _ _ => pts_nil) (fun _ _ _ _ _ => pi_keys (pv 1)) (fun _ _ _ _ _ => pg_name (i := 3) scMost.nd rfl (Or.inl rfl)) (fun _ _ _ _ _ => pts_nil)
        (fun _ _ _ _ _ => pe_callB call_len_seq (by rfl) T.len PySem.boot_len (pa_cons (pe_call GU hr (by rfl) gU kU bU .nil pass0 (pa_cons (pv 0) (pa_cons (pe_dget (u1 hr.units) (pv 1) (pv 2) (fun _ _ => rfl)) (pa_cons (pe_dget (u1 hr.units) (pv 1) (pv 3) (fun _ _ => rfl)) pa_nil)))) pa_nil)))) pa_nil))), ?_⟩
    have hl := dss.len
    obtain ⟨H0, eH0⟩ : ∃ H0, H0 = H := ⟨H, rfl⟩
    refine ret_go (cb_go (cons_go ⟨ds, .dK ss, hds, True.intro, fun od => ?_⟩))
    have kp := kp_lock (o := .frz od (.dK ss)) hds dz
    generalize hHL : upd H ds (.frz od (.dK ss)) = HL at kp
    have eL : HL ds = some (.frz od (.dK ss)) := by rw [← hHL, upd_same]
    have la : HL a = some (.dK ks) := by rw [← hHL, upd_ne nad]; exact ha
    have lk : DictAt (PkIs CP CE Z HL) ks pm := dk.keep fun _ _ h => h.kp kp
    have ls : DictAt (SetIs Z HL) ss sm := dss.keep fun v b ⟨d, kk, e, nz, hd, t⟩ => ⟨d, kk, e, nz, by rw [← hHL, upd_ne (show d ≠ ds from fun z => nz (by rw [z]; exact dz))]; exact hd, t⟩
    have hLD : ∀ {D : Addr}, HL D = none → H D = none := fun {D} h => by
      rw [← hHL] at h
      by_cases z : D = ds
      · rw [z, upd_same] at h
        cases h
      · rw [upd_ne z] at h
        exact h
    refine ⟨_, rfl, ds, od, rfl, .inl ⟨ss, eL, fun D hD => ?_⟩⟩
    refine ⟨fun i m H1 => m = ss.length - i ∧ i ≤ ss.length ∧ Same HL H1 ∧ ∃ ns : List Int, H1 D = some (.lst (ns.map V.int)) ∧ i ≤ ns.length ∧ ns.length ≤ 20 * i ∧ ∀ n ∈ ns, n ≤ 6,
      ⟨_, rfl, Nat.zero_le _, same_new hD, [], upd_same, Nat.le_refl _, Nat.le_refl _, fun n hn => by simp at hn⟩, ?_⟩
    rintro i m H1 ⟨rfl, hi, s1, ns, hD1, n1, n2, n3⟩
    by_cases hlt : i < ss.length
    · refine .inr ⟨⟨s1 _ _ eL, hlt⟩, fun H' => Same HL H' ∧ ∃ ns : List Int, H' D = some (.lst (ns.map V.int)) ∧ i + 1 ≤ ns.length ∧ ns.length ≤ 20 * (i + 1) ∧ ∀ n ∈ ns, n ≤ 6, fun H' ⟨b, c⟩ => ⟨ss.length - (i + 1), by omega, rfl, hlt, b, c⟩, ?_⟩
      rintro v H' ⟨rfl, k, vv, hk, rfl⟩
      obtain ⟨q1, hq1, rfl⟩ := dict_at dss hk
      have mem1 := List.mem_of_getElem? hq1
      refine ⟨rfl, yes_go (true_go ⟨_, rfl, ds, od, rfl, .inl ⟨ss, s1 _ _ eL, ?_⟩⟩)⟩
      refine ⟨fun j m H1 => m = ss.length - j ∧ j ≤ ss.length ∧ Same HL H1 ∧ ∃ ns : List Int, H1 D = some (.lst (ns.map V.int)) ∧ i + j ≤ ns.length ∧ ns.length ≤ 20 * i + j ∧ ∀ n ∈ ns, n ≤ 6,
        ⟨_, rfl, Nat.zero_le _, s1, ns, hD1, n1, n2, n3⟩, ?_⟩
      rintro j m H1 ⟨rfl, hj, s1, ns, hD1, n1, n2, n3⟩
      by_cases hlj : j < ss.length
      · refine .inr ⟨⟨s1 _ _ eL, hlj⟩, fun H' => Same HL H' ∧ ∃ ns : List Int, H' D = some (.lst (ns.map V.int)) ∧ i + (j + 1) ≤ ns.length ∧ ns.length ≤ 20 * i + (j + 1) ∧ ∀ n ∈ ns, n ≤ 6, fun H' ⟨b, c⟩ => ⟨ss.length - (j + 1), by omega, rfl, hlj, b, c⟩, ?_⟩
        rintro v H' ⟨rfl, k2, vv2, hk2, rfl⟩
        obtain ⟨q2, hq2, rfl⟩ := dict_at dss hk2
        have mem2 := List.mem_of_getElem? hq2
        obtain ⟨w1, hw1, a1⟩ := (dict_look (k := q1.1) (ls.keep fun _ _ h => SetIs.same s1 h)).2 _ (look_nodup nds mem1)
        obtain ⟨w2, hw2, a2⟩ := (dict_look (k := q2.1) (ls.keep fun _ _ h => SetIs.same s1 h)).2 _ (look_nodup nds mem2)
        have el := s1 _ _ eL
        refine ⟨rfl, yes_go (true_go (cb_go (cons_go (call_go ⟨_, rfl, _, rfl, _, rfl, ds, _, rfl, .inl ⟨ss, .inr q1.1, .inr ⟨od, el⟩, rfl, hw1.symm⟩, _, rfl, _, rfl, ds, _, rfl, .inl ⟨ss, .inr q2.1, .inr ⟨od, el⟩, rfl, hw2.symm⟩, ?_⟩))))⟩
        refine ⟨Z, a, pm, _, _, _, _, rfl, az, ⟨ks, s1 _ _ la, lk.keep fun _ _ h => h.same s1⟩, fr, nd, by omega, a1, a2, fit _ mem1, fit _ mem2, fun t xs H2 s2 ht lx => ?_⟩
        refine ⟨t, xs, rfl, .inr (.inl (.inl ht)), ns.map V.int, s2 _ _ hD1, ?_, fun b u hb => ?_, ns ++ [(xs.length : Int)], ?_, ?_, ?_, ?_⟩
        · rw [List.length_map, sizeLine_eq]
          omega
        · rw [upd_ne (fun z => by rw [z, hD] at hb; cases hb)]
          exact s2 _ _ (s1 _ _ hb)
        · rw [upd_same, List.map_append]
          rfl
        · rw [List.length_append, List.length_singleton]
          omega
        · rw [List.length_append, List.length_singleton]
          omega
        · intro n hn
          rcases List.mem_append.mp hn with h | h
          · exact n3 _ h
          · rw [List.mem_singleton.mp h]
            omega
      · obtain rfl : j = ss.length := by omega
        exact .inl ⟨⟨s1 _ _ eL, Nat.le_refl _⟩, s1, ns, hD1, by omega, by omega, n3⟩
    · obtain rfl : i = ss.length := by omega
      refine .inl ⟨⟨s1 _ _ eL, Nat.le_refl _⟩, s1 _ _ eL, ?_⟩
      have nD : D ≠ ds := fun z => by rw [z, eL] at hD; cases hD
      refine ⟨D, ns, rfl, .inl (.inl ((upd_ne nD).trans hD1)), by omega, fun m hm _ => q _ _ (fun b u hb => ?_) (n3 _ hm)⟩
      by_cases z : b = ds
      · rw [z] at hb ⊢
        rw [upd_same, ← hds, hb]
      · rw [upd_ne z]
        refine s1 _ _ ?_
        rw [← hHL, upd_ne z]
        exact hb
end
end Sc

namespace Sc
open PySem L2 PySem.Spec PyProof.Rows Lm
/-! ### refuse_wrong, where nothing is wrong -/
abbrev sRef : Stmt := top 71
abbrev nRef : List Str := ["draft", "line", "ring", "number"]
theorem scRef : FnScope nRef ["draft"] (defScope sRef) := ⟨rfl, rfl, rfl, by decide +kernel, rfl, by decide +kernel, by decide +kernel⟩
structure Good (m : DrM) : Prop where
  rowOk : ∀ r ∈ m.rows, RowOk r
  rows : m.rows.length ≤ 20002
  told : (tolds 0 0 m.rows).Nodup
  tfew : (tolds 0 0 m.rows).length < 63
  cells : WordsOk m.cells
  named : ∀ r ∈ m.rows, NameOk m r
  free : ∀ q ∈ m.packages, Free q.2
  bare : ∀ q ∈ m.packages, BareP q.2
  pnd : (m.packages.map (·.1)).Nodup
  pfew : m.packages.length ≤ 6
  mul : ∀ n, mulOf m.cells (m.cells.take n) < 2 ^ 60
  mul60 : mulOf m.cells m.cells ≤ 60
  snd_ : (m.sets.map (·.1)).Nodup
  spos : 0 < m.sets.length
  sfew : m.sets.length ≤ 20
  fit : ∀ s ∈ m.sets, FitS m.packages s.2
def spRef (C CP CE : Addr) : Sp := fun vs H Q _ => ∃ (x : Dr) (m : DrM) (pn : List Str), vs = [.ref x.d] ∧ Rdy x C CP CE m H ∧ x.Sts x.own pn m.sets H ∧ x.packages ≠ x.sets ∧ Good m ∧ ∀ H', Same H H' → Q .non H'
section
variable {P : Program} {w : World} {K : PySem.W.Frag} {mg : Str → Option Value} {base : Heap} {C CP CE : Addr}
theorem ok_ref {f fD fU fR fM fS : Addr} {fd fdD fdU fdR fdM fdS : FuncData} (G : Fun K "refuse_wrong" "refuse_wrong" sRef f fd) (O : Own K C drNames)
    (GD : FnOk P w K mg base CX0 2 fD fdD ["rows"] spDbl) (gD : mg "first_doubled" = some (.ref fD)) (kD : PySem.W.keepIn K (.ref fD) = true) (bD : Binds K fdD ["rows"] [])
    (GU : FnOk P w K mg base CX0 4 fU fdU ["draft"] (spUnn C CP CE)) (gU : mg "first_unnamed" = some (.ref fU)) (kU : PySem.W.keepIn K (.ref fU) = true) (bU : Binds K fdU ["draft"] [])
    (GR : FnOk P w K mg base CX0 2 fR fdR ["packages"] (spRing CP CE)) (gR : mg "ring_of_needs" = some (.ref fR)) (kR : PySem.W.keepIn K (.ref fR) = true) (bR : Binds K fdR ["packages"] [])
    (GM : FnOk P w K mg base CX0 1 fM fdM ["cells"] spMul) (gM : mg "words_multiplied" = some (.ref fM)) (kM : PySem.W.keepIn K (.ref fM) = true) (bM : Binds K fdM ["cells"] [])
    (GS : FnOk P w K mg base CX0 3 fS fdS ["packages", "sets"] (spMost CP CE)) (gS : mg "most_steps" = some (.ref fS)) (kS : PySem.W.keepIn K (.ref fS) = true) (bS : Binds K fdS ["packages", "sets"] [])
    (hW : ∃ t, mg "MOST_WORDS" = some (.int 60 t)) (hS : ∃ t, mg "MOST_STEPS" = some (.int 6 t)) :
    FnOk P w K mg base CX0 5 f fd ["draft"] (spRef C CP CE) := by
  refine G.ok scRef (fun vs H Q E h => ?_) (fun cdv A outer s H vs Q E hr h => ?_)
  · obtain ⟨x, m, pn, rfl, _⟩ := h
    rfl
  · obtain ⟨tW, hW⟩ := hW
    obtain ⟨tS, hS⟩ := hS
    obtain ⟨x, m, pn, rfl, hx, ⟨_, ss, hss, dss⟩, nps, gd, q⟩ := h
    refine ⟨_, pss_cons (ps_set (i := 1) scRef.nd rfl (Or.inl rfl) (pe_call GD (hr.mono (by omega)) (by rfl) gD kD bD .nil pass0 (pa_cons (pe_fld (pv 0) rfl) pa_nil)))
      (pss_cons (ps_if (pt_cmpR op_notN1 (pv 1) pe_non (nomark _)) pss_never pss_nil)
      (pss_cons (ps_set (i := 1) scRef.nd rfl (Or.inl rfl) (pe_call GU hr (by rfl) gU kU bU .nil pass0 (pa_cons (pv 0) pa_nil)))
      (pss_cons (ps_if (pt_cmpR op_notN1 (pv 1) pe_non (nomark _)) pss_never pss_nil)
      (pss_cons (ps_set (i := 2) scRef.nd rfl (Or.inl rfl) (pe_call GR (hr.mono (by omega)) (by rfl) gR kR bR .nil pass0 (pa_cons (pe_fld (pv 0) rfl) pa_nil)))
      (pss_cons (ps_if (pt_truth (pv 2) (by intro _; rfl)) pss_never pss_nil)
      (pss_cons (ps_set (i := 3) scRef.nd rfl (Or.inl rfl) (pe_call GM (hr.mono (by omega)) (by rfl) gM kM bM .nil pass0 (pa_cons (pe_fld (pv 0) rfl) pa_nil)))
      (pss_cons (ps_if (pt_cmpR op_gt (pv 3) (pe_glob (v := .int 60) (by rfl) hW ⟨_, rfl⟩) (nomark _)) pss_never pss_nil)
      (pss_cons (ps_set (i := 3) scRef.nd rfl (Or.inl rfl) (pe_call GS (hr.mono (by omega)) (by rfl) gS kS bS .nil pass0 (pa_cons (pe_fld (pv 0) rfl) (pa_cons (pe_fld (pv 0) rfl) pa_nil))))
      (pss_one (ps_if (pt_cmpR op_gt (pv 3) (pe_glob (v := .int 6) (by rfl) hS ⟨_, rfl⟩) (nomark _)) pss_never pss_nil)))))))))), ?_⟩
    obtain ⟨rs, Zr, hR, ra⟩ := hx.rows
    have mp : x.packages ∈ x.own := by simp [Dr.own]
    have ms : x.sets ∈ x.own := by simp [Dr.own]
    refine seq_go (asg_go (call_go (cons_go (fld_dr O hx rfl (by decide) x.lk_rows ⟨x.rows, rs, Zr, m.rows, rfl, hR, ra, gd.rowOk, gd.rows, gd.told, gd.tfew, fun H1 s1 => name_go ?_⟩))))
    dsimp only
    refine seq_go (ifs_go (test_go (op_go ⟨_, rfl, rfl, _, rfl, ite2 (fun z => absurd z (by decide)) fun _ => next_go ?_⟩)))
    dsimp only
    refine seq_go (asg_go (call_go ⟨_, rfl, x, m, rfl, hx.same s1, gd.cells, gd.named, gd.rows, fun H2 s2 => name_go ?_⟩))
    dsimp only
    refine seq_go (ifs_go (test_go (op_go ⟨_, rfl, rfl, _, rfl, ite2 (fun z => absurd z (by decide)) fun _ => next_go ?_⟩)))
    dsimp only
    have s12 := s1.trans s2
    refine seq_go (asg_go (call_go (cons_go (fld_dr O (hx.same s12) rfl (by decide) x.lk_packages ⟨x.own, x.packages, m.packages, rfl, mp, (hx.same s12).pks, gd.free, Nat.le_trans gd.pfew (by decide), fun t H3 s3 ht => name_go ?_⟩))))
    dsimp only
    have s13 := s12.trans s3
    refine seq_go (ifs_go ⟨_, rfl, false, .inr (.inl ⟨[], .inl (.inl ht), rfl⟩), ite2 (fun z => absurd z (by decide)) fun _ => next_go ?_⟩)
    dsimp only
    obtain ⟨kc, hkc, dkc⟩ := (hx.same s13).cells
    refine seq_go (asg_go (call_go (cons_go (fld_dr O (hx.same s13) rfl (by decide) x.lk_cells ⟨x.cells, kc, m.cells, rfl, hkc, dkc, gd.mul, name_go ?_⟩))))
    dsimp only
    refine seq_go (ifs_go (test_go (op_go ⟨_, rfl, _, _, rfl, rfl, _, rfl, ite2 (fun z => ?_) fun _ => next_go ?_⟩)))
    · have := of_decide_eq_true z
      have := gd.mul60
      omega
    dsimp only
    refine seq_go (asg_go (call_go (cons_go (fld_dr O (hx.same s13) rfl (by decide) x.lk_packages (cons_go (fld_dr O (hx.same s13) rfl (by decide) x.lk_sets ?_))))))
    refine ⟨x.own, x.packages, x.sets, m.packages, ss, m.sets, rfl, mp, ms, nps, (hx.same s13).pks, gd.bare, gd.pnd, gd.pfew, s13 _ _ hss, dss.keep fun _ _ h => SetIs.same s13 h, gd.snd_, gd.spos, gd.sfew, gd.fit, fun n H4 s4 hn => name_go ?_⟩
    dsimp only
    refine ifs_go (test_go (op_go ⟨_, rfl, _, _, rfl, rfl, _, rfl, ite2 (fun z => ?_) fun _ => next_go ?_⟩))
    · have := of_decide_eq_true z
      omega
    dsimp only
    exact q H4 (s13.trans s4)
end
end Sc

namespace Sc
open PySem L2 PySem.Spec PyProof.Rows Lm
/-! ### a dict comprehension of two clauses, no tests -/
abbrev two (kx vx t0 i0 t1 i1 : Expr) (scope : Scope) (pos : Pos) : Expr := .DictComp kx vx [⟨t0, i0, [], 0⟩, ⟨t1, i1, [], 0⟩] scope pos
/-- one turn of a clause -/
def lap (ps : Pos) (tg : Expr) (it : Value) (env : Env) (body : Sem PySem.Fin) : Sem PySem.Fin := do
  standAt ps
  match ← pyNext it with
  | none => pure (.done .next)
  | some v =>
    letOwnedTupleGo tg it v
    assign tg env v
    body
def bodyOut (kx vx t0 i0 t1 i1 : Expr) (scope : Scope) (pos : Pos) (it acc : Value) (env : Env) : Sem PySem.Fin := do
  let x ← eval i1 env
  standAt i1.pos
  let x ← foldedSetIterable i1 env x
  let _ ← runOwn (.compStart (two kx vx t0 i0 t1 i1 scope pos) 1 (← holding [x] (pyIter x)) acc env) env
  again (.compLoop (two kx vx t0 i0 t1 i1 scope pos) 0 it acc env)
def emitIn (kx vx : Expr) (D : Addr) (env : Env) : Sem Unit := do
  let kv ← eval kx env
  let vv ← holding [kv] (eval vx env)
  standAt { kx.pos with endLine := vx.pos.endLine, endCol := vx.pos.endCol }
  holding [kv, vv] (dictSet D kv vv)
def bodyIn (kx vx t0 i0 t1 i1 : Expr) (scope : Scope) (pos : Pos) (it : Value) (D : Addr) (env : Env) : Sem PySem.Fin := do
  emitIn kx vx D env
  again (.compLoop (two kx vx t0 i0 t1 i1 scope pos) 1 it (.ref D) env)
theorem lap0 (kx vx t0 i0 t1 i1 : Expr) (scope : Scope) (pos : Pos) (it acc : Value) (env : Env) : compTurn (two kx vx t0 i0 t1 i1 scope pos) 0 it acc env = lap i0.pos t0 it env (bodyOut kx vx t0 i0 t1 i1 scope pos it acc env) := by rfl
theorem lap1 (kx vx t0 i0 t1 i1 : Expr) (scope : Scope) (pos : Pos) (it : Value) (D : Addr) (env : Env) : compTurn (two kx vx t0 i0 t1 i1 scope pos) 1 it (.ref D) env = lap i1.pos t1 it env (bodyIn kx vx t0 i0 t1 i1 scope pos it D env) := by rfl
/-- a clause from its first turn to its last -/
theorem spin {Y : Cx} {kx vx t0 i0 t1 i1 : Expr} {scope : Scope} {pos : Pos} {tg : Expr} {d : Nat} {J : It} {fp : List Addr} {it : Addr} {acc : Value} {tn : Nat → Heap → Prop} {g : TG} {body : Sem PySem.Fin} {ps : Pos} {pins : List (Addr × Obj)} {σ0 : L2.St} {R : Result → Shared → Prop} {s0 : Shared} {H0 : Hp} {m0 : Nat}
    (T : Turn Y.prog Y.w Y.K tg J fp it tn) (hc : Y.calm = true) (hx : Y.xe = fun _ _ => False) (hl : compTurn (two kx vx t0 i0 t1 i1 scope pos) d (.ref it) acc Y.env = lap ps tg (.ref it) Y.env body) (hg : PG Y tg g)
    (fpk : ∀ {H' : Hp} {s' : Shared}, Inv Y pins σ0 H' s' → (∀ b ∈ fp, H' b = none) → ∀ b ∈ fp, FpOk Y pins H' b)
    (W : Nat → Nat → Hp → Prop) (Z : Hp → Prop)
    (end_ : ∀ H s, Z H → Inv Y pins σ0 H s → R (.ok .next) s)
    (step : ∀ i n H, W i n H → (J.stop i H ∧ Z H) ∨ (J.go i H ∧ ∃ S : L2.St → Hp → Prop, (∀ x H', J.yld i H x H' → g x σ0 H' S) ∧ ∀ σ H s pl, S σ H → Inv Y (pins ++ pl) σ H s →
      wpAny (model Y.prog Y.w) Y.A body (fun f s' => f = .again (.compLoop (two kx vx t0 i0 t1 i1 scope pos) d (.ref it) acc Y.env) ∧ ∃ m σ' H', m < n ∧ W (i + 1) m H' ∧ Inv Y (pins ++ pl) σ' H' s' ∧ σ0.length = σ'.length ∧ ∀ (j : Nat) v, σ0[j]? = some (some v) → σ'[j]? = some (some v)) (fun _ _ => False) s))
    (I0 : Inv Y pins σ0 H0 s0) (st0 : tn 0 s0.heap) (n0 : ∀ b ∈ fp, H0 b = none) (w0 : W 0 m0 H0) :
    codeAny (model Y.prog Y.w) Y.A (.compLoop (two kx vx t0 i0 t1 i1 scope pos) d (.ref it) acc Y.env) R s0 := by
  refine codeAny_loop rfl (fun n s => ∃ i H, Inv Y pins σ0 H s ∧ tn i s.heap ∧ (∀ b ∈ fp, H b = none) ∧ W i n H) ?_ m0 ⟨0, H0, I0, st0, n0, w0⟩
  rintro n s ⟨i, H, I, st, nn, w⟩
  show wpAny _ Y.A ((compTurn (two kx vx t0 i0 t1 i1 scope pos) d (.ref it) acc Y.env).onRaise (fun x => do noteFrame x Y.env; theTreesLotGoes x)) _ _ s
  refine wpAny_noted ?_
  rw [hl]
  unfold lap
  refine wpAny_bind (wpAny_standAt (wpAny_bind ?_))
  rcases step i n H w with ⟨stop, zz⟩ | ⟨go, S, step, run⟩
  · refine thnF (T.done Y rfl rfl rfl hc i pins s σ0 H (fun _ _ => False) I (fpk I nn) st stop) fun r s1 ⟨hr, I1⟩ => ?_
    subst hr
    exact wpAny_pure (end_ H s1 zz I1)
  · refine thnF (T.item Y rfl rfl rfl hc i pins s σ0 H (fun _ _ => False) I (fpk I nn) st go) fun r s1 ⟨u, hr, h1⟩ => ?_
    subst hr
    refine wpAny_bind (thnF h1 fun _ s2 ⟨x, H2, I2, rx, y2, st2, n2⟩ => ?_)
    have got := hg.run _ s2 _ H2 x u _ (I2.pinned (fpk I2 n2) (T.obj _ _ st2)) rx (step x H2 y2)
    rw [hx] at got
    refine wpAny_bind (thnF got fun _ s3 ⟨σ3, H3, I3, q3⟩ => ?_)
    refine thnF (run σ3 H3 s3 _ q3 I3) fun _ s4 ⟨hf, m, σ4, H4, hm, w4, I4, l4, k4⟩ => ?_
    subst hf
    refine ⟨rfl, m, hm, i + 1, H4, I4.unpinned.weak l4 k4, ?_, ?_, w4⟩
    · exact T.keep _ _ _ st2 fun b hb o e => (I4.pin (b, o) (List.mem_append_right _ (List.mem_append_right _ (mem_pinsAt hb e)))).1
    · intro b hb
      obtain ⟨o, e, _⟩ := T.obj _ _ st2 b hb
      exact (I4.pin (b, o) (List.mem_append_right _ (List.mem_append_right _ (mem_pinsAt hb e)))).2.1
end Sc

namespace Sc
open PySem L2 PySem.Spec PyProof.Rows Lm
theorem start1 {prog : Program} {w : World} {A : Around} {R : Result → Shared → Prop} {s : Shared} {kx vx t0 i0 t1 i1 : Expr} {scope : Scope} {pos : Pos} {it acc : Value} {env : Env}
    (h0 : codeAny (model prog w) A (.compLoop (two kx vx t0 i0 t1 i1 scope pos) 1 it acc env) R s)
    (h : wpAny (model prog w) A (pyIter it) (fun it' s' => codeAny (model prog w) A (.compLoop (two kx vx t0 i0 t1 i1 scope pos) 1 it' acc env) R s') (notedBy (model prog w) A env fun x s' => R (.error x) s') s) :
    codeAny (model prog w) A (.compStart (two kx vx t0 i0 t1 i1 scope pos) 1 it acc env) R s := by
  refine codeAny_of_tree ?_
  show wpAny _ _ ((compStart (two kx vx t0 i0 t1 i1 scope pos) 1 it acc env).onRaise (fun x => do noteFrame x env; standAt theWindowsPlace)) _ _ s
  apply wpAny_notedAt
  unfold compStart
  show wpAny _ _ (ask >>= _) _ _ s
  apply wpAny_bind
  refine wpAny_askSetting (wpAny_ite ?_)
  split
  · first
      | exact wpAny_pure ⟨rfl, h0⟩
      | exact wpAny_bind (wpAny_pure (wpAny_pure ⟨rfl, h0⟩))
  · refine wpAny_bind (wpAny_rule ?_)
    first
      | exact wpAny_bind (wpAny_standAt (wpAny_bind (wpAny_mono h (fun _ _ z => wpAny_pure ⟨rfl, z⟩) fun _ _ z => z)))
      | (show wpAny _ _ (standAt i1.pos >>= _) _ _ s; exact wpAny_bind (wpAny_standAt (wpAny_bind (wpAny_mono h (fun _ _ z => wpAny_pure ⟨rfl, z⟩) fun _ _ z => z))))
def tDc2 (wi : TI) (g : TG) (wi1 : TI) (g1 : TG) (tk tv : TE) (vs vs1 : List Nat) : TE := fun σ H Q => wi σ H fun J H1 => ∀ D, H1 D = none → ∃ W : Nat → Nat → Hp → Prop, (∃ m, W 0 m (upd H1 D (.dK []))) ∧
  ∀ i m H, W i m H → (J.stop i H ∧ Q (.ref D) H) ∨ (J.go i H ∧ ∃ Nx : Hp → Prop, (∀ H', Nx H' → ∃ m', m' < m ∧ W (i + 1) m' H') ∧ ∀ x H', J.yld i H x H' → g x (wipe σ vs) H' fun σ2 H2 => wipe σ2 vs = wipe σ vs ∧
    wi1 σ2 H2 fun J1 H4 => ∃ W1 : Nat → Nat → Hp → Prop, (∃ m, W1 0 m H4) ∧ ∀ j k H, W1 j k H → (J1.stop j H ∧ Nx H) ∨ (J1.go j H ∧ ∃ Ny : Hp → Prop, (∀ H', Ny H' → ∃ k', k' < k ∧ W1 (j + 1) k' H') ∧ ∀ x H', J1.yld j H x H' →
      g1 x (wipe σ2 vs1) H' fun σ3 H5 => wipe σ3 vs1 = wipe σ2 vs1 ∧ tk σ3 H5 fun y H6 => tv σ3 H6 fun z H7 => ∃ kvs k, y = kV k ∧ H7 D = some (.dK kvs) ∧ kvs.length < sizeLine ∧ Ny (upd H7 D (.dK (putK kvs k z)))))
theorem wipe_keep {σ0 σ : L2.St} {vs : List Nat} (h : wipe σ vs = σ0) : σ0.length = σ.length ∧ ∀ (j : Nat) v, σ0[j]? = some (some v) → σ[j]? = some (some v) := by
  subst h
  exact ⟨wipe_length _ _, fun j v e => (wipe_some e).1⟩
section
variable {X : Cx}
theorem pe_dc2 {kx vx t0 i0 t1 i1 : Expr} {scope : Scope} {own : List (Str × Nat)} {vs1 : List Nat} {pos : Pos} {wi wi1 : TI} {g g1 : TG} {tk tv : TE} (hc : X.calm = true) (hN : X.N.Nodup) (hi : PI X t0 i0 wi) (ok : BlkOk X.N X.env.scope scope own) (hv : ∀ i ∈ vs1, i ∈ own.map (·.2))
    (hg : ∀ (s : Shared) (H : Hp) (C : Addr) (cl : List (Str × Addr)) (fp : List Addr), PG (X.blk s H scope (compEnvC scope cl C X.env) fp) t0 g)
    (hi1 : ∀ (s : Shared) (H : Hp) (C : Addr) (cl : List (Str × Addr)) (fp : List Addr), PI (X.blk s H scope (compEnvC scope cl C X.env) fp) t1 i1 wi1)
    (hg1 : ∀ (s : Shared) (H : Hp) (C : Addr) (cl : List (Str × Addr)) (fp : List Addr), PG (X.blk s H scope (compEnvC scope cl C X.env) fp) t1 g1)
    (hk : ∀ (s : Shared) (H : Hp) (C : Addr) (cl : List (Str × Addr)) (fp : List Addr), PE (X.blk s H scope (compEnvC scope cl C X.env) fp) kx tk)
    (he : ∀ (s : Shared) (H : Hp) (C : Addr) (cl : List (Str × Addr)) (fp : List Addr), PE (X.blk s H scope (compEnvC scope cl C X.env) fp) vx tv)
    (hs : ∀ x, foldedSetIterable i0 X.env x = pure x := by intro _; rfl) (hs1 : ∀ env x, foldedSetIterable i1 env x = pure x := by intro _ _; rfl) :
    PE X (two kx vx t0 i0 t1 i1 scope pos) (tDc2 wi g wi1 g1 tk tv (own.map (·.2)) vs1) := by
  refine ⟨fun pins s σ H Q I h => ?_⟩
  rw [arm_eval_DictComp]
  have clo : ∀ y ∈ scope.names, y.2 = .free → ∃ c, X.env.cells.lookup y.1 = some c := fun y hy e => (ok.free y hy e).elim (fun k => I.ok.has _ (.inl k)) fun k => I.ok.has _ (.inr k)
  refine wpAny_comprehension_free (use := none) rfl hs (closure_ok clo) ok.kind (fun y hy e => by rw [ok.uniq y hy, e]) (thn (hi.run pins s σ H _ I h) fun xv s1 hx => thn hx fun itv s2 ⟨it, fp, tn, J, H2, e, I2, T, st2, f2, q⟩ => ?_)
  subst e
  refine wpAny_newObj_type (newEnv_comp ?_)
  obtain ⟨D, hD⟩ : ∃ D, s2.heap.objs.size = D := ⟨_, rfl⟩
  have hDn : H2 D = none := I2.hok.fresh (Nat.le_of_eq hD)
  obtain ⟨W, ⟨m0, w0⟩, turn⟩ := q D hDn
  rw [hD]
  obtain ⟨s3, hs3⟩ : ∃ s3 : Shared, ({ s2 with heap := s2.heap.push { cls := .type "dict", data := .dict #[] } } : Shared) = s3 := ⟨_, rfl⟩
  obtain ⟨H3, hH3⟩ : ∃ H3, upd H2 D (.dK []) = H3 := ⟨_, rfl⟩
  have grown : ∀ {b : Addr} {o : Obj}, s2.heap.get? b = some o → s3.heap.get? b = some o := fun {b o} e => by
    rw [← hs3]
    exact Heap.get?_push_of_some _ e
  have I3 : Inv X pins σ H3 s3 := by
    rw [← hs3, ← hH3]
    refine I2.laid (t' := s2.toks) (fun b o e => Heap.get?_push_of_some _ e) (Nat.le_of_eq hD) ?_
    rw [← hD]
    exact dk_empty s2.heap I2.big
  have below : ∀ b ∈ fp, b < s2.heap.objs.size := fun b hb => by
    obtain ⟨o, e, _⟩ := T.obj _ _ st2 b hb
    exact Heap.lt_size e
  have f3 : ∀ b ∈ fp, FpOk X pins H3 b ∧ b < s3.heap.objs.size := fun b hb => by
    refine ⟨⟨?_, (f2 b hb).2⟩, ?_⟩
    · rw [← hH3, upd_ne (by rw [← hD]; exact Nat.ne_of_lt (below b hb))]
      exact (f2 b hb).1
    · obtain ⟨o, e, _⟩ := T.obj _ _ st2 b hb
      exact Heap.lt_size (grown e)
  have I4 := block_start I3 ok hN f3
  rw [hs3]
  rw [hH3] at w0
  have pg := hg s3 H3 s3.heap.objs.size (cellsFrom (s3.heap.objs.size + 1) scope.names (cloFrom X.env.cells scope.names [])) fp
  have pi1 := hi1 s3 H3 s3.heap.objs.size (cellsFrom (s3.heap.objs.size + 1) scope.names (cloFrom X.env.cells scope.names [])) fp
  have pg1 := hg1 s3 H3 s3.heap.objs.size (cellsFrom (s3.heap.objs.size + 1) scope.names (cloFrom X.env.cells scope.names [])) fp
  have pk := hk s3 H3 s3.heap.objs.size (cellsFrom (s3.heap.objs.size + 1) scope.names (cloFrom X.env.cells scope.names [])) fp
  have pe := he s3 H3 s3.heap.objs.size (cellsFrom (s3.heap.objs.size + 1) scope.names (cloFrom X.env.cells scope.names [])) fp
  show codeAny _ _ (.compStart (two kx vx t0 i0 t1 i1 scope pos) 0 (.ref it) (.ref D) (compEnvC scope (cellsFrom (s3.heap.objs.size + 1) scope.names (cloFrom X.env.cells scope.names [])) s3.heap.objs.size X.env)) (compPost _ _ _ none _ (.ref D) s3.heap.objs.size) { s3 with heap := pushCells (s3.heap.push { cls := .type "dict", data := .dict #[] }) scope.names }
  obtain ⟨s4, hs4⟩ : ∃ s4 : Shared, ({ s3 with heap := pushCells (s3.heap.push { cls := .type "dict", data := .dict #[] }) scope.names } : Shared) = s4 := ⟨_, rfl⟩
  rw [hs4] at I4 ⊢
  have st4 : tn 0 s4.heap := T.keep _ _ _ st2 fun b _ o e => by
    rw [← hs4]
    exact pushCells_keeps _ _ _ _ (Heap.get?_push_of_some _ (grown e))
  generalize hce : compEnvC scope (cellsFrom (s3.heap.objs.size + 1) scope.names (cloFrom X.env.cells scope.names [])) s3.heap.objs.size X.env = ce at I4 pg pi1 pg1 pk pe ⊢
  have cL : ce.locals = s3.heap.objs.size := by
    rw [← hce]
    rfl
  have loop := spin (Y := X.blk s3 H3 scope ce fp) (d := 0) (acc := .ref D) (R := compPost (model X.prog X.w) X.A X.xe none (fun u s' => ∃ x H', Inv X pins σ H' s' ∧ RelV x u ∧ Q x H') (.ref D) s3.heap.objs.size) T hc rfl (lap0 kx vx t0 i0 t1 i1 scope pos (.ref it) (.ref D) ce) pg
    (fun {H' s'} I' hn b hb => ⟨hn b hb, (I'.ok.exf b hb).1, I'.ok.exfs b hb, .inl hb, fun x c e => (I'.ok.exf b hb).2 x c e, fun p hp => absurd (show p ∈ ([] : List (Addr × Obj)) ++ [] from hp) (by simp)⟩) W
    (Q (.ref D))
    (fun H5 s6 qq I6 => ?_) (fun i n H5 w5 => ?_) I4 st4 (fun b hb => (f3 b hb).1.1) w0
  · exact codeAny_compStart_dict loop (T.self X.A 0 _ _ _ st4 loop)
  · have I7 : Inv X pins σ H5 s6 := I3.call' (ch := fp) I6.os I6.base I6.hok I6.bare fun b hb => ⟨(f3 b hb).1.2.2.2.1, (f3 b hb).1.2.1, (f3 b hb).1.2.2.2.2.1, (f3 b hb).1.2.2.2.2.2⟩
    have nC : H5 s3.heap.objs.size = none := by
      have z : H5 ce.locals = none := I6.free
      rw [cL] at z
      exact z
    obtain ⟨m, hn, _⟩ := I6.loc
    have hn : s6.heap.Ns ce.locals m := hn
    rw [cL] at hn
    obtain ⟨f0, f1, _, f3, f4, f5⟩ := I3.fpOk (Nat.le_refl _) nC
    exact ⟨m, hn, fun h'' sb => ⟨.ref D, H5, I7.turned (t' := s6.toks) (fun b o hb e => (sb.2 b hb).trans e) f0 f1 f3 f4 f5, rfl, qq⟩⟩
  · rcases turn i n H5 w5 with a | ⟨go, Nx, hNx, step⟩
    · exact .inl a
    · refine .inr ⟨go, _, step, fun σ2 H6 s5 pl ⟨hw, q2⟩ I5 => ?_⟩
      unfold bodyOut
      refine wpAny_bind (thnF (pi1.run _ s5 σ2 H6 _ I5 q2) fun xv s10 hx => ?_)
      refine wpAny_bind (wpAny_standAt (wpAny_bind (wpAny_of_eq (hs1 _ xv) (wpAny_bind (wpAny_holding (thnF hx fun itv s11 ⟨it1, fp1, tn1, J1, H11, e1, I11, T1, st11, f11, W1, ⟨m1, w1⟩, turn1⟩ => ?_))))))
      subst e1
      refine wpAny_bind (wpAny_runOwn ?_)
      rw [Around.mark_none]
      have inner := spin (Y := X.blk s3 H3 scope ce fp) (d := 1) (acc := .ref D) (pins := [] ++ pl) (σ0 := wipe σ2 vs1) (R := fun r s' => match r with
          | .ok _ => ∃ m σ' H', m < n ∧ W (i + 1) m H' ∧ Inv (X.blk s3 H3 scope ce fp) ([] ++ pl) σ' H' s' ∧ (wipe σ (own.map (·.2))).length = σ'.length ∧ ∀ (j : Nat) v, (wipe σ (own.map (·.2)))[j]? = some (some v) → σ'[j]? = some (some v)
          | .error _ => False) T1 hc rfl (lap1 kx vx t0 i0 t1 i1 scope pos (.ref it1) D ce) pg1 (fun _ hn b hb => ⟨hn b hb, (f11 b hb).2⟩) W1 Nx
        (fun H7 s7 nx I7 => ?_) (fun j k H7 w7 => ?_) (I11.weak (wipe_length _ _) fun j v e => (wipe_some e).1) st11 (fun b hb => (f11 b hb).1) w1
      · refine codeAny_mono (start1 inner (T1.self X.A 0 _ _ _ st11 inner)) fun r s' hr => ?_
        cases r with
        | ok f =>
          first
            | exact wpAny_pure ⟨rfl, hr⟩
            | exact wpAny_bind (wpAny_pure (wpAny_pure ⟨rfl, hr⟩))
        | error e => exact hr.elim
      · obtain ⟨m, hm, w8⟩ := hNx _ nx
        refine ⟨m, _, H7, hm, w8, I7, ?_, fun j v e => ?_⟩
        · rw [← hw, wipe_length, wipe_length]
        · rw [← hw] at e
          obtain ⟨e1, e2⟩ := wipe_some e
          rw [wipe_out fun z => e2 (hv j z)]
          exact e1
      · rcases turn1 j k H7 w7 with a | ⟨go1, Ny, hNy, step1⟩
        · exact .inl a
        · refine .inr ⟨go1, _, step1, fun σ3 H8 s8 pl1 ⟨hw1, q3⟩ I8 => ?_⟩
          unfold bodyIn emitIn
          refine wpAny_bind (wpAny_bind (thnF (pk.run _ s8 σ3 H8 _ I8 q3) fun kv s9 ⟨y, H9, I9, r9, q9⟩ => ?_))
          refine wpAny_bind (wpAny_holding (thnF (pe.run _ s9 σ3 H9 _ I9 q9) fun vv s12 ⟨z, H12, I12, r12, kvs, key, ek, hD12, hz, ny⟩ => ?_))
          subst ek
          refine wpAny_bind (wpAny_standAt (wpAny_holding (d_dictSet (X := X.blk s3 H3 scope ce fp) I12 hD12 hz r9 r12 fun s13 I13 => wpAny_pure ⟨rfl, ?_⟩)))
          obtain ⟨m, hm, w8⟩ := hNy _ ny
          obtain ⟨l1, k1⟩ := wipe_keep hw1
          exact ⟨m, σ3, _, hm, w8, I13, l1, k1⟩
end
end Sc

namespace Sc
open PySem L2 PySem.Spec PyProof.Rows Lm
/-! ### Release(text), of a text that is right and has one package -/
abbrev sReInit : Stmt := mth 82 0
abbrev nReInit : List Str := ["self", "text", "draft", "trigger", "name"]
theorem scReInit : FnScope nReInit ["self", "text"] (defScope sReInit) := ⟨rfl, rfl, rfl, by decide +kernel, rfl, by decide +kernel, by decide +kernel⟩
theorem Rdy.of {x : Dr} {C CP CE : Addr} {ls : List Str} {m : DrM} {H : Hp} (h : x.Done C CP CE ls m H) : Rdy x C CP CE m H := by
  obtain ⟨ks, e, d⟩ := h.pkt.pks
  obtain ⟨rs, e2, d2⟩ := h.rd.rows
  exact ⟨⟨_, h.rd.at_.obj⟩, h.cel.cells, ⟨ks, e, d.imp fun _ _ z => PkIs.of z⟩, h.pkt.trs, ⟨rs, _, e2, d2⟩⟩
structure Src (x : Dr) (g : Pk) (CD CP : Addr) (n : Nat) (nm : Str) (kc ka ks : List (Key × V)) (cm : List (Str × List Str)) (tr ow : List Str) (H : Hp) : Prop where
  d : H x.d = some (.ins CD x.dx (x.fields n))
  c : H x.cells = some (.dK kc)
  w : DictAt (WordsTup H) kc cm
  p : H x.packages = some (.dK [(.inr nm, .ref g.p)])
  gp : H g.p = some (.ins CP g.px g.fields)
  a : H g.ats = some (.dK ka)
  s : H x.sets = some (.dK ks)
  t : H x.triggers = some (.lst (tr.map V.str))
  o : H x.owned = some (.lst (ow.map V.str))
  ne : x.packages ≠ g.ats
  few : ka.length ≤ 100
def But (r : Addr) (H H' : Hp) : Prop := ∀ a u, a ≠ r → H a = some u → H' a = some u
theorem But.trans {r : Addr} {H H1 H2 : Hp} (a : But r H H1) (b : But r H1 H2) : But r H H2 := fun x u n e => b x u n (a x u n e)
theorem But.same {r : Addr} {H H1 : Hp} (s : Same H H1) : But r H H1 := fun x u _ e => s x u e
theorem But.put {r : Addr} {H : Hp} {o : HO} : But r H (upd H r o) := fun x u n e => (upd_ne n).trans e
theorem oKinds {H : Hp} {a r : Addr} {o u : HO} (ha : H a = some o) (hr : H r = some u) (n : o ≠ u) : a ≠ r := fun z => by
  rw [z, hr] at ha
  exact n (Option.some.inj ha).symm
theorem Src.keep {x : Dr} {g : Pk} {CD CP CR r rx : Addr} {n : Nat} {nm : Str} {kc ka ks : List (Key × V)} {cm : List (Str × List Str)} {tr ow : List Str} {H H' : Hp} {fs : List (Str × V)} (h : Src x g CD CP n nm kc ka ks cm tr ow H) (hr : H r = some (.ins CR rx fs)) (n1 : CD ≠ CR) (n2 : CP ≠ CR) (b : But r H H') : Src x g CD CP n nm kc ka ks cm tr ow H' :=
  ⟨b _ _ (oKinds h.d hr fun z => n1 (by cases z; rfl)) h.d, b _ _ (oKinds h.c hr fun z => by cases z) h.c, h.w.imp fun v ws ⟨p, e, hp⟩ => ⟨p, e, b _ _ (oKinds hp hr fun z => by cases z) hp⟩, b _ _ (oKinds h.p hr fun z => by cases z) h.p,
    b _ _ (oKinds h.gp hr fun z => n2 (by cases z; rfl)) h.gp, b _ _ (oKinds h.a hr fun z => by cases z) h.a, b _ _ (oKinds h.s hr fun z => by cases z) h.s, b _ _ (oKinds h.t hr fun z => by cases z) h.t, b _ _ (oKinds h.o hr fun z => by cases z) h.o, h.ne, h.few⟩
theorem sfld_go {K : PySem.W.Frag} {ta tv : TE} {f : Str} {D : Ends} {σ : L2.St} {H : Hp} (h : tv σ H fun y H1 => ta σ H1 fun x H2 => ∃ a C dx fs, x = .ref a ∧ H2 a = some (.ins C dx fs) ∧ Cls K C ∧ NoAttr K C f ∧ fs.length < 1000 ∧ D.nx σ (upd H2 a (.ins C dx (putF f y fs)))) : sFld K ta tv f D σ H := h
theorem self_go {K : PySem.W.Frag} {names : List Str} {f : Str} {D : Ends} {σ : L2.St} {H : Hp} {r CR rx : Addr} {fs : List (Str × V)} {y : V} (OR : Own K CR names) (hs : σ[0]? = some (some (.ref r))) (hr : H r = some (.ins CR rx fs)) (hf : f ∈ names) (lt : fs.length < 1000)
    (k : ∀ H3, H3 r = some (.ins CR rx (putF f y fs)) → But r H H3 → D.nx σ H3) : tVar 0 σ H fun x H2 => ∃ a C dx fs, x = .ref a ∧ H2 a = some (.ins C dx fs) ∧ Cls K C ∧ NoAttr K C f ∧ fs.length < 1000 ∧ D.nx σ (upd H2 a (.ins C dx (putF f y fs))) :=
  ⟨_, hs, r, CR, rx, fs, rfl, hr, OR.cl, OR.no f hf, lt, k _ upd_same But.put⟩
theorem dfld_go {K : PySem.W.Frag} {C : Addr} {x : Dr} {n : Nat} {σ : L2.St} {H : Hp} {Q : VK} {f : Str} {v : V} (O : Own K C drNames) (hs : σ[2]? = some (some (.ref x.d))) (e : H x.d = some (.ins C x.dx (x.fields n))) (hf : f ∈ drNames) (hl : (x.fields n).lookup f = some v) (q : Q v H) : tFld K (tVar 2) f σ H Q :=
  ⟨_, hs, x.d, C, x.dx, _, v, rfl, e, O.cl, O.no f hf, hl, q⟩
theorem ProgsAt.len {H : Hp} : ∀ {ks : List (Key × V)} {ps : List (Str × List Cmd)}, ProgsAt H ks ps → ks.length = ps.length
  | [], [], _ => rfl
  | _ :: _, _ :: _, ⟨_, b⟩ => by rw [List.length_cons, List.length_cons, ProgsAt.len b]
  | [], _ :: _, z => z.elim
  | _ :: _, [], z => z.elim
theorem TupF.but {H H' : Hp} {a r CR rx : Addr} {xs : List V} {fs : List (Str × V)} (h : TupF H a xs) (hr : H r = some (.ins CR rx fs)) (b : But r H H') : TupF H' a xs := by
  obtain ⟨o, e, d⟩ := h
  exact ⟨o, b _ _ (oKinds e hr fun z => by cases z) e, d⟩
def spReInit (TT : List (Addr × Str)) (L : Str → Prop) (CR : Addr) : Sp := fun vs H Q _ => ∃ (r rx : Addr) (text : Str) (m : DrM) (q : Str × PkM), vs = [.ref r, .str text] ∧ TxtOk text ∧ L text ∧ LamX.Tabs TT H ∧ H r = some (.ins CR rx []) ∧ mDraft (Txt.split text feed) = some m ∧ Good m ∧ m.packages = [q] ∧ q.2.ats.length ≤ 100 ∧ m.cells.length ≤ 100 ∧
  ∀ (y : Re) H', y.r = r → OffN [r] H H' → LamX.Tabs TT H' → y.At CR m.cells m.triggers H' → Q .non H'
section
variable {P : Program} {w : World} {K : PySem.W.Frag} {mg : Str → Option Value} {base : Heap} {C CP CE CR : Addr}
theorem ok_reInit {f fD fW : Addr} {fd fdD fdW : FuncData} {TT : List (Addr × Str)} {L : Str → Prop} {k : Nat} (hk : 5 ≤ k) (G : Fun K "__init__" "Release.__init__" sReInit f fd) (T : NatR mg) (O : Own K C drNames) (OP : Own K CP pkNames) (OR : Own K CR reNames) (n1 : C ≠ CR) (n2 : CP ≠ CR)
    (GD : ∀ text, L text → FnOk P w K mg base CX0 k fD fdD ["text"] (spDraft TT C CP CE text)) (gD : mg "read_draft" = some (.ref fD)) (kD : PySem.W.keepIn K (.ref fD) = true) (bD : Binds K fdD ["text"] [])
    (GW : FnOk P w K mg base CX0 5 fW fdW ["draft"] (spRef C CP CE)) (gW : mg "refuse_wrong" = some (.ref fW)) (kW : PySem.W.keepIn K (.ref fW) = true) (bW : Binds K fdW ["draft"] []) :
    FnOk P w K mg base CX0 (k + 1) f fd ["self", "text"] (spReInit TT L CR) := by
  refine G.ok scReInit (fun vs H Q E h => ?_) (fun cdv A outer s H vs Q E hr h => ?_)
  · obtain ⟨r, rx, text, m, q, rfl, _⟩ := h
    rfl
  · obtain ⟨r, rx, text, m, qm, rfl, htx, hL, tab, hr0, hm, gd, one, few, fewc, q⟩ := h
    refine ⟨_, pss_cons (ps_if (pt_not (pt_val (pe_callB call_isi (by rfl) T.isi PyProof.Rows.boot_isinstance (pa_cons (pv 1) (pa_cons (pe_bltn (v := .ty "str") (by rfl) T.str (by decide +kernel) rfl) pa_nil))))) pss_never pss_nil)
      (pss_cons (ps_set (i := 2) scReInit.nd rfl (Or.inr rfl) (pe_call (GD text hL) hr (by rfl) gD kD bD .nil pass0 (pa_cons (pv 1) pa_nil)))
      (pss_cons (ps_expr (pe_call GW (hr.mono (by omega)) (by rfl) gW kW bW .nil pass0 (pa_cons (pv 2) pa_nil)))
      (pss_cons (ps_fld (pv 0) (pv 1) rfl)
      (pss_cons (ps_fld (pv 0) (pe_callTy (call_tupD rfl) (by rfl) T.tuple (by decide +kernel) (pa_cons (pe_fld (pv 2) rfl) pa_nil)) rfl)
      (pss_cons (ps_fld (pv 0) (pe_callTy (call_tupD rfl) (by rfl) T.tuple (by decide +kernel) (pa_cons (pe_fld (pv 2) rfl) pa_nil)) rfl)
      (pss_cons (ps_fld (pv 0) (pe_callTy (call_tupD rfl) (by rfl) T.tuple (by decide +kernel) (pa_cons (pe_fld (pv 2) rfl) pa_nil)) rfl)
      (pss_cons (ps_fld (pv 0) (pe_fld (pv 2) rfl) rfl)
      (pss_cons (ps_fld (pv 0) (pe_callTy call_tuple_of (by rfl) T.tuple (by decide +kernel) (pa_cons (pe_fld (pv 2) rfl) pa_nil)) rfl)
      (pss_cons (ps_fld (pv 0) (pe_callTy call_tuple_of (by rfl) T.tuple (by decide +kernel) (pa_cons (pe_fld (pv 2) rfl) pa_nil)) rfl)
      (pss_cons (ps_fld (pv 0) (pe_fld (pv 2) rfl) rfl)
      (pss_cons (ps_lock (ps_lock (ps_fld (pv 0) (pe_dc2 (own := [("trigger", 3), ("name", 4)]) (vs1 := [3]) (g := gName 4) (wi1 := iKeys (tFld K (tDGet (tFld K (tVar 2) "packages") (tVar 4)) "at_programs")) (g1 := gName 3) (tk := tVar 3) (tv := tVar 4) rfl scReInit.nd (pi_keys (pe_fld (pv 2) rfl))
        (blkOk_by (own := [("trigger", 3), ("name", 4)]) (N := nReInit) (sc := defScope sReInit) (by decide +kernel)) (by decide) (fun _ _ _ _ _ => pg_name (i := 4) scReInit.nd rfl (Or.inl rfl))
        (fun _ _ _ _ _ => pi_keys (pe_fld (pe_dget (u1 hr.units) (pe_fld (pv 2) rfl) (pv 4) (fun _ _ => rfl)) rfl)) (fun _ _ _ _ _ => pg_name (i := 3) scReInit.nd rfl (Or.inl rfl)) (fun _ _ _ _ _ => pv 3) (fun _ _ _ _ _ => pv 4)) rfl)))
      (pss_one (ps_fld (pv 0) (pe_fld (pv 2) rfl) rfl))))))))))))), ?_⟩
    refine seq_go (ifs_go (not_go (val_go ?_)))
    refine ⟨_, rfl, .str text, .ty "str", .type "str", .type "str", true, rfl, .ty _, .base (.str _), kit_ty (by decide +kernel), _, rfl, ite2 (fun z => absurd z (by decide)) fun _ => next_go ?_⟩
    dsimp only
    refine seq_go (asg_go (call_go ⟨_, rfl, rfl, htx, tab, m, hm, fun x H1 o1 new1 nd1 dn tab1 => name_go ?_⟩))
    dsimp only
    have hr1 : H1 r = some (.ins CR rx []) := o1 _ _ (by simp) hr0 (fun ps z => by cases z)
    have nps : x.packages ≠ x.sets := by
      simp [Dr.own] at nd1
      exact nd1.2.2.2.2.2.1.2
    refine seq_go (drop_go (call_go ⟨_, rfl, x, m, _, rfl, Rdy.of dn, dn.sts, nps, gd, fun H2 s2 => ?_⟩))
    dsimp only
    have hr2 := s2 _ _ hr1
    obtain ⟨kp, ep, dp⟩ := dn.pkt.pks
    obtain ⟨kc, ec, dc⟩ := dn.cel.cells
    obtain ⟨ks, es, ds⟩ := dn.sts.sets
    rw [one] at dp
    obtain ⟨g, ka, rfl, eg, ea, pa, nz⟩ : ∃ (g : Pk) (ka : List (Key × V)), kp = [(.inr qm.1, .ref g.p)] ∧ H1 g.p = some (.ins CP g.px g.fields) ∧ H1 g.ats = some (.dK ka) ∧ ProgsAt H1 ka qm.2.ats ∧ g.ats ∉ x.own := by
      match kp, dp with
      | [(k, v)], ⟨⟨e, g, ev, h1, _, ⟨ka, h2, h3⟩, _, _, n3⟩, _⟩ =>
        simp only at e ev
        subst e ev
        exact ⟨g, ka, rfl, h1, h2, h3, n3⟩
    have lka : ka.length ≤ 100 := by
      rw [pa.len]
      exact few
    have src2 : Src x g C CP m.rows.length qm.1 kc ka ks m.cells m.triggers m.owned H2 := ⟨s2 _ _ dn.rd.at_.obj, s2 _ _ ec, dc.imp fun _ _ z => z.same s2, s2 _ _ ep, s2 _ _ eg, s2 _ _ ea, s2 _ _ es, s2 _ _ dn.pkt.trs, s2 _ _ dn.cel.owned, fun z => nz (by rw [← z]; simp [Dr.own]), lka⟩
    have out2 : But r H1 H2 := But.same s2
    refine seq_go (sfld_go (K := K) ⟨_, rfl, self_go OR rfl hr2 (by decide) (by show 0 < 1000; decide) fun H3 hr3 b3 => ?_⟩)
    dsimp only
    have src3 := src2.keep hr2 n1 n2 b3
    have out3 := out2.trans b3
    refine seq_go (sfld_go (cb_go (cons_go (dfld_go O rfl src3.d (by decide) (x.lk_cells _) ⟨x.cells, _, rfl, src3.c, fun p_cells G3 h_cells g3 t_cells => self_go OR rfl (g3 _ _ hr3) (by decide) (by show 1 < 1000; decide) fun H4 hr4 c4 => ?_⟩))))
    dsimp only
    have b4 : But r H3 H4 := (But.same g3).trans c4
    have src4 := src3.keep hr3 n1 n2 b4
    have out4 := out3.trans b4
    have t_cells4 := t_cells.but (g3 _ _ hr3) c4
    refine seq_go (sfld_go (cb_go (cons_go (dfld_go O rfl src4.d (by decide) (x.lk_packages _) ⟨x.packages, _, rfl, src4.p, fun p_packages G4 h_packages g4 t_packages => self_go OR rfl (g4 _ _ hr4) (by decide) (by show 2 < 1000; decide) fun H5 hr5 c5 => ?_⟩))))
    dsimp only
    have b5 : But r H4 H5 := (But.same g4).trans c5
    have src5 := src4.keep hr4 n1 n2 b5
    have out5 := out4.trans b5
    have t_cells5 := t_cells4.but hr4 b5
    have t_packages5 := t_packages.but (g4 _ _ hr4) c5
    refine seq_go (sfld_go (cb_go (cons_go (dfld_go O rfl src5.d (by decide) (x.lk_sets _) ⟨x.sets, _, rfl, src5.s, fun p_sets G5 h_sets g5 t_sets => self_go OR rfl (g5 _ _ hr5) (by decide) (by show 3 < 1000; decide) fun H6 hr6 c6 => ?_⟩))))
    dsimp only
    have b6 : But r H5 H6 := (But.same g5).trans c6
    have src6 := src5.keep hr5 n1 n2 b6
    have out6 := out5.trans b6
    have t_cells6 := t_cells5.but hr5 b6
    have t_packages6 := t_packages5.but hr5 b6
    have t_sets6 := t_sets.but (g5 _ _ hr5) c6
    refine seq_go (sfld_go (dfld_go O rfl src6.d (by decide) (x.lk_cells _) (self_go OR rfl hr6 (by decide) (by show 4 < 1000; decide) fun H7 hr7 b7 => ?_)))
    dsimp only
    have src7 := src6.keep hr6 n1 n2 b7
    have out7 := out6.trans b7
    have t_cells7 := t_cells6.but hr6 b7
    have t_packages7 := t_packages6.but hr6 b7
    have t_sets7 := t_sets6.but hr6 b7
    refine seq_go (sfld_go (cb_go (cons_go (dfld_go O rfl src7.d (by decide) (x.lk_owned _) ⟨x.owned, _, rfl, .inl ⟨.inl (.inl src7.o), fun p_owned h_owned => self_go OR rfl ((same_new h_owned) _ _ hr7) (by decide) (by show 5 < 1000; decide) fun Hw hrO cO => ?_⟩⟩))))
    dsimp only
    have bO : But r H7 Hw := (But.same (same_new h_owned)).trans cO
    have srcO := src7.keep hr7 n1 n2 bO
    have outO := out7.trans bO
    have t_cellsO := t_cells7.but hr7 bO
    have t_packagesO := t_packages7.but hr7 bO
    have t_setsO := t_sets7.but hr7 bO
    refine seq_go (sfld_go (cb_go (cons_go (dfld_go O rfl srcO.d (by decide) (x.lk_triggers _) ⟨x.triggers, _, rfl, .inl ⟨.inl (.inl srcO.t), fun p_triggers h_triggers => self_go OR rfl ((same_new h_triggers) _ _ hrO) (by decide) (by show 6 < 1000; decide) fun H8 hr8 c8 => ?_⟩⟩))))
    dsimp only
    have b8 : But r Hw H8 := (But.same (same_new h_triggers)).trans c8
    have src8 := srcO.keep hrO n1 n2 b8
    have out8 := outO.trans b8
    have t_triggers8 : H8 p_triggers = some (.tup (m.triggers.map V.str)) := c8 _ _ (ne_of_none hrO h_triggers).symm upd_same
    have t_cells8 := t_cellsO.but hrO b8
    have t_packages8 := t_packagesO.but hrO b8
    have t_sets8 := t_setsO.but hrO b8
    refine seq_go (sfld_go (dfld_go O rfl src8.d (by decide) (x.lk_packages _) (self_go OR rfl hr8 (by decide) (by show 7 < 1000; decide) fun H9 hr9 b9 => ?_)))
    dsimp only
    have src9 := src8.keep hr8 n1 n2 b9
    have out9 := out8.trans b9
    have t_cells9 := t_cells8.but hr8 b9
    have t_packages9 := t_packages8.but hr8 b9
    have t_sets9 := t_sets8.but hr8 b9
    have t_triggers9 := b9 _ _ (oKinds t_triggers8 hr8 fun z => by cases z) t_triggers8
    have eP9 := src9.p
    refine seq_go ⟨x.packages, .dK [(.inr qm.1, .ref g.p)], eP9, True.intro, fun od => ?_⟩
    refine ⟨g.ats, .dK ka, (upd_ne (Ne.symm src9.ne)).trans src9.a, True.intro, fun od2 => ?_⟩
    generalize hHL : upd (upd H9 x.packages (.frz od (.dK [(.inr qm.1, .ref g.p)]))) g.ats (.frz od2 (.dK ka)) = HL
    have thru : ∀ {a : Addr} {u : HO}, a ≠ x.packages → a ≠ g.ats → H9 a = some u → HL a = some u := fun {a u} z1 z2 e => by
      rw [← hHL, upd_ne z2, upd_ne z1]
      exact e
    have eP : HL x.packages = some (.frz od (.dK [(.inr qm.1, .ref g.p)])) := by
      rw [← hHL, upd_ne src9.ne, upd_same]
    have eA : HL g.ats = some (.frz od2 (.dK ka)) := by rw [← hHL, upd_same]
    have eD := thru (oKinds src9.d src9.p fun z => by cases z) (oKinds src9.d src9.a fun z => by cases z) src9.d
    have eG := thru (oKinds src9.gp src9.p fun z => by cases z) (oKinds src9.gp src9.a fun z => by cases z) src9.gp
    have nrP := oKinds hr9 src9.p fun z => by cases z
    have nrA := oKinds hr9 src9.a fun z => by cases z
    have eR := thru nrP nrA hr9
    refine sfld_go ⟨_, rfl, x.d, C, x.dx, _, _, rfl, eD, O.cl, O.no _ (by decide), x.lk_packages _, x.packages, od, rfl, .inl ⟨_, eP, fun D hD => ?_⟩⟩
    refine ⟨fun i m H => m = 1 - i ∧ i ≤ 1 ∧ Same HL H ∧ ∃ kvs, H D = some (.dK kvs) ∧ kvs.length ≤ 100 * i, ⟨_, rfl, Nat.zero_le _, same_new hD, [], upd_same, Nat.le_refl _⟩, ?_⟩
    rintro i m1 H5 ⟨rfl, hi, s5, kvs, hD5, l5⟩
    by_cases hlt : i < 1
    · obtain rfl : i = 0 := by omega
      refine .inr ⟨⟨s5 _ _ eP, hlt⟩, fun H' => Same HL H' ∧ ∃ kvs, H' D = some (.dK kvs) ∧ kvs.length ≤ 100, fun H' ⟨a, kv2, b, c⟩ => ⟨0, by omega, rfl, Nat.le_refl _, a, kv2, b, by omega⟩, ?_⟩
      rintro v H' ⟨rfl, k2, vv, hk2, rfl⟩
      have ek : (k2, vv) = ((.inr qm.1 : Key), V.ref g.p) := (Option.some.inj hk2).symm
      obtain ⟨rfl, rfl⟩ := Prod.mk.inj ek
      refine ⟨rfl, _, rfl, x.d, C, x.dx, _, _, rfl, s5 _ _ eD, O.cl, O.no _ (by decide), x.lk_packages _, _, rfl, x.packages, _, rfl, .inl ⟨_, .inr qm.1, .inr ⟨od, s5 _ _ eP⟩, rfl, (by simp [valV])⟩, g.p, CP, g.px, _, _, rfl, s5 _ _ eG, OP.cl, OP.no _ (by decide), g.lk_ats, g.ats, od2, rfl, .inl ⟨ka, s5 _ _ eA, ?_⟩⟩
      refine ⟨fun j k H => k = ka.length - j ∧ j ≤ ka.length ∧ Same HL H ∧ ∃ kvs, H D = some (.dK kvs) ∧ kvs.length ≤ j, ⟨_, rfl, Nat.zero_le _, s5, kvs, hD5, by omega⟩, ?_⟩
      rintro j k1 H6 ⟨rfl, hj, s6, kvs, hD6, l6⟩
      by_cases hlj : j < ka.length
      · refine .inr ⟨⟨s6 _ _ eA, hlj⟩, fun H' => Same HL H' ∧ ∃ kvs, H' D = some (.dK kvs) ∧ kvs.length ≤ j + 1, fun H' ⟨a, b⟩ => ⟨ka.length - (j + 1), by omega, rfl, hlj, a, b⟩, ?_⟩
        rintro v H' ⟨rfl, k3, vv3, hk3, rfl⟩
        refine ⟨rfl, _, rfl, _, rfl, kvs, k3, rfl, hD6, (by rw [sizeLine_eq]; omega), fun b u hb => ?_, _, upd_same, Nat.le_trans (length_putK _ _ _) (by omega)⟩
        rw [upd_ne (fun z => by rw [z, hD] at hb; cases hb)]
        exact s6 _ _ hb
      · exact .inl ⟨⟨s6 _ _ eA, by omega⟩, s6, kvs, hD6, by omega⟩
    · obtain rfl : i = 1 := by omega
      refine .inl ⟨⟨s5 _ _ eP, Nat.le_refl _⟩, self_go OR rfl (s5 _ _ eR) (by decide) (by show 8 < 1000; decide) fun H10 hr10 c10 => ?_⟩
      have aA := c10 _ _ (Ne.symm nrA) (s5 _ _ eA)
      have aP := c10 _ _ (Ne.symm nrP) (s5 _ _ eP)
      refine ⟨aA, (upd_ne src9.ne).trans aP, ?_⟩
      dsimp only
      generalize hHU : upd (upd H10 g.ats (.dK ka)) x.packages (.dK [(.inr qm.1, .ref g.p)]) = HU
      have hrU := (upd_ne (o := .dK [((.inr qm.1 : Key), V.ref g.p)]) nrP).trans ((upd_ne (o := .dK ka) nrA).trans hr10)
      rw [hHU] at hrU
      have bU : But r H9 HU := fun a u na e => by
        by_cases z1 : a = x.packages
        · rw [← hHU, z1, upd_same, ← eP9, ← z1]
          exact e
        · by_cases z2 : a = g.ats
          · rw [← hHU, z2, upd_ne (Ne.symm src9.ne), upd_same, ← src9.a, ← z2]
            exact e
          · rw [← hHU, upd_ne z1, upd_ne z2]
            exact c10 _ _ na (s5 _ _ (thru z1 z2 e))
      have srcU := src9.keep hr9 n1 n2 bU
      refine sfld_go (dfld_go O rfl srcU.d (by decide) (x.lk_sets _) (self_go OR rfl hrU (by decide) (by show 9 < 1000; decide) fun HZ hrZ cZ => ?_))
      have bZ := bU.trans cZ
      have srcZ := src9.keep hr9 n1 n2 bZ
      have outZ := out9.trans bZ
      have ec := t_cells9.but hr9 bZ
      have en : kc.map (fun q => kV q.1) = (m.cells.map (·.1)).map V.str := by
        have e := congrArg (List.map kV) (dict_names srcZ.w)
        rw [List.map_map, List.map_map] at e
        exact e
      rw [en] at ec
      refine q ⟨r, rx, text, p_cells, p_packages, p_sets, x.cells, p_owned, p_triggers, x.packages, D, x.sets⟩ HZ rfl (fun a u na ha ht => ?_) ?_ ⟨hrZ, ec, ⟨kc, srcZ.c, srcZ.w⟩, gd.cells, bZ _ _ (oKinds t_triggers9 hr9 fun z => by cases z) t_triggers9, fewc⟩
      · exact outZ _ _ (fun z => na (by rw [z]; simp)) (o1 _ _ (by simp) ha ht)
      · exact Tabs.off tab1 (F := [r]) (fun a ha => by
          rw [List.mem_singleton.mp ha]
          exact ⟨_, hr1, .inr (.inr ⟨_, _, _, rfl⟩)⟩) fun a u na e => outZ _ _ (fun z => na (by rw [z]; simp)) e
end
end Sc

namespace Sc
open PySem L2
abbrev sPot : Stmt := top 84
abbrev sLTake : Stmt := top 85
abbrev sOf : Stmt := top 86
theorem scPot : FnScope ["_law_script", "_law_k", "_law_cell", "_law_own"] ["_law_script", "_law_k"] (defScope sPot) := ⟨rfl, rfl, rfl, by decide +kernel, rfl, by decide +kernel, by decide +kernel⟩
theorem scLTake : FnScope ["_law_pot", "_law_upto", "_law_digit", "_law_prime", "_law_mixed"] ["_law_pot", "_law_upto"] (defScope sLTake) := ⟨rfl, rfl, rfl, by decide +kernel, rfl, by decide +kernel, by decide +kernel⟩
theorem scOf : FnScope ["_law_pot", "_law_some"] ["_law_pot", "_law_some"] (defScope sOf) := ⟨rfl, rfl, rfl, by decide +kernel, rfl, by decide +kernel, by decide +kernel⟩
end Sc
namespace Sc
open PySem L2 PyProof.Rows
def CPowW (i j : Int) : Prop := 0 ≤ j ∧ (Builtin.Int.intBits i : Int) * j ≤ 2 ^ 27
theorem op_powW {X : Cx} : OpR X (binaryOp .Pow) (rI CPowW fun i j => .int (i ^ j.toNat)) := opI fun _ _ _ _ _ _ _ hc q => pow_int hc.1 hc.2 q
/-- the names that the helpers use stand for the built-ins -/
structure Nat0 (mg : Str → Option Value) : Prop where
  len : mg "len" = none
  abs : mg "abs" = none
  int : mg "int" = none
theorem cell_num (c : Int) : 0 ≤ (if c < 0 then -c else c) % ((10 ^ (60 : Int).toNat) ^ (5 : Int).toNat) * (if decide ((10 : Int) ^ (18 : Int).toNat ≤ if c < 0 then -c else c) = true then 1 else 0) ∧
    (if c < 0 then -c else c) % ((10 ^ (60 : Int).toNat) ^ (5 : Int).toNat) * (if decide ((10 : Int) ^ (18 : Int).toNat ≤ if c < 0 then -c else c) = true then 1 else 0) < 10 ^ 300 := by
  have e1 : ((10 : Int) ^ (60 : Int).toNat) ^ (5 : Int).toNat = 10 ^ 300 := by decide +kernel
  rw [e1]
  have p1 : (0 : Int) < 10 ^ 300 := by decide +kernel
  generalize (10 : Int) ^ 300 = M at p1
  have a1 := Int.emod_nonneg (if c < 0 then -c else c) (show M ≠ 0 by omega)
  have a2 := Int.emod_lt_of_pos (if c < 0 then -c else c) p1
  by_cases h : decide ((10 : Int) ^ (18 : Int).toNat ≤ if c < 0 then -c else c) = true
  · rw [if_pos h, Int.mul_one]; exact ⟨a1, a2⟩
  · rw [if_neg h, Int.mul_zero]; exact ⟨Int.le_refl _, p1⟩
theorem bit_small (c : Prop) [Decidable c] : -(2 ^ 64) < (if c then (1 : Int) else 0) ∧ (if c then (1 : Int) else 0) < 2 ^ 64 := by
  split <;> exact ⟨by decide, by decide⟩
def spPot (K : PySem.W.Frag) : Sp := fun vs H Q _ => ∃ (a : Addr) (ns : List Int) (k : Nat), vs = [.ref a, .int (k : Nat)] ∧ SqL K H a (ns.map V.int) ∧ k < 3 ∧
  ∀ (p : Addr) (o m : Int), H p = none → 0 ≤ o → o < 10 ^ 300 → 0 ≤ m → m < 2305843009213693921 → Q (.ref p) (upd H p (.lst [.int o, .int m, .int 0]))
section
variable {P : Program} {w : World} {K : PySem.W.Frag} {mg : Str → Option Value} {base : Heap}
theorem ok_pot {f : Addr} {fd : FuncData} (F : Fun K "_law_pot_of" "_law_pot_of" sPot f fd) (T : Nat0 mg) : FnOk P w K mg base CX0 1 f fd ["_law_script", "_law_k"] (spPot K) := by
  refine F.ok scPot (fun vs H Q E h => ?_) (fun cdv A outer s H vs Q E hr h => ?_)
  · obtain ⟨a, ns, k, rfl, _⟩ := h
    rfl
  · obtain ⟨a, ns, k, rfl, hS, hk, q⟩ := h
    refine ⟨_, pss_cons (ps_set (i := 2) scPot.nd rfl (Or.inl rfl) (pe_ifExp (pt_cmpR op_lt (pv 1) (pe_callB call_len_seq (by rfl) T.len PySem.boot_len (pa_cons (pv 0) pa_nil)) (nomark _)) (pe_ix ix_list (pv 0) (pv 1) (fun _ _ => rfl)) (pe_op op_add (pe_op op_mul pe_int (pv 1)) pe_int)))
      (pss_cons (ps_set (i := 3) scPot.nd rfl (Or.inl rfl) (pe_op op_mul (pe_op op_mod (pe_callTy call_int1 (by rfl) T.int (by decide +kernel) (pa_cons (pe_callB call_abs (by rfl) T.abs (by decide +kernel) (pa_cons (pv 2) pa_nil)) pa_nil)) (pe_op op_powW (pe_op op_pow pe_int pe_int) pe_int))
        (pe_callTy call_int1 (by rfl) T.int (by decide +kernel) (pa_cons (pe_cmpR op_ge (pe_callB call_abs (by rfl) T.abs (by decide +kernel) (pa_cons (pv 2) pa_nil)) (pe_op op_pow pe_int pe_int) (nomark _)) pa_nil))))
      (pss_one (ps_ret (pe_lst (pa_cons (pv 3) (pa_cons (pe_op op_mod (pe_op op_add (pe_op op_add (pe_op op_mul (pe_op op_mod (pe_callTy call_int1 (by rfl) T.int (by decide +kernel) (pa_cons (pv 2) pa_nil)) pe_int) pe_int) (pe_op op_mul (pe_op op_mul pe_int (pv 1)) (pv 1))) pe_int) pe_int) (pa_cons pe_int pa_nil))))))), ?_⟩
    refine ⟨_, rfl, _, rfl, a, _, rfl, .inl hS, _, _, rfl, rfl, _, rfl, ?_⟩
    refine ite2 (fun hlt => ?_) (fun hlt => ?_)
    focus
      have hlt := of_decide_eq_true hlt
      rw [List.length_map] at hlt
      have hk2 : k < ns.length := by omega
      refine ⟨_, rfl, _, rfl, a, _, _, V.int ns[k], rfl, rfl, hS, atI_nat (by rw [List.getElem?_map, List.getElem?_eq_getElem hk2]; rfl), ?_⟩
      generalize ns[k] = c
    rotate_left
    focus
      refine ⟨_, rfl, _, _, rfl, rfl, .inl ⟨by decide, by decide⟩, _, _, rfl, rfl, ?_⟩
      generalize 31 * (k : Int) + 13 = c
    all_goals
      refine ⟨_, rfl, _, rfl, .inl ⟨_, rfl, _, _, rfl, rfl, ⟨by decide, by decide, by decide⟩, _, _, rfl, rfl, ⟨by decide, by decide +kernel⟩, _, _, rfl, rfl, (by show (0 : Int) < _; decide +kernel), _, rfl, _, rfl, _, _, rfl, rfl, ⟨by decide, by decide, by decide⟩, _, _, rfl, rfl, .inr ⟨_, rfl, _, _, rfl, rfl, .inr ?_, ?_⟩⟩⟩
      · exact bit_small _
      refine ⟨_, rfl, _, rfl, .inl ⟨_, rfl, _, _, rfl, rfl, (by show (0 : Int) < _; decide), _, _, rfl, rfl, .inl ⟨?_, ?_⟩, ?_⟩⟩
      · exact Int.lt_of_lt_of_le (by decide) (Int.emod_nonneg _ (by decide))
      · exact Int.lt_trans (Int.emod_lt_of_pos _ (by decide)) (by decide)
      refine ⟨_, rfl, _, _, rfl, rfl, .inl ⟨by decide, by decide⟩, _, rfl, _, _, rfl, rfl, .inl ⟨by omega, by omega⟩, _, _, rfl, rfl, _, _, rfl, rfl, _, _, rfl, rfl, (by show (0 : Int) < _; decide), (by show 3 ≤ sizeLine; decide), fun p hp => ?_⟩
      refine q p _ _ hp ?_ ?_ ?_ ?_
      · exact (cell_num _).1
      · exact (cell_num _).2
      · exact Int.emod_nonneg _ (by decide)
      · exact Int.emod_lt_of_pos _ (by decide)
end
end Sc

namespace Sc
open PySem L2 PyProof.Rows
/-- a pot stands at p: what is left of the digits, the mixed number, how many were taken -/
structure PotAt (H : Hp) (p : Addr) (N : Nat) : Prop where
  ex : ∃ o m c : Int, H p = some (.lst [.int o, .int m, .int c]) ∧ 0 ≤ o ∧ 0 ≤ m ∧ m < 2305843009213693921 ∧ 0 ≤ c ∧ c ≤ N
/-- all that was tracked but what stands at p is as it was -/
def SameBut (p : Addr) (H H' : Hp) : Prop := ∀ b o, H b = some o → b ≠ p → H' b = some o
def spLTake : Sp := fun vs H Q _ => ∃ (p : Addr) (n : Int) (N : Nat), vs = [.ref p, .int n] ∧ PotAt H p N ∧ N < 100000 ∧ 0 < n ∧ n < 1000000 ∧
  ∀ (d : Int) (H' : Hp), 0 ≤ d → d < n → PotAt H' p (N + 1) → SameBut p H H' → Q (.int d) H'
theorem prime_at {i : Int} (h0 : 0 ≤ i) (h5 : i < 5) : ∃ v : Int, atI [V.int 2147483647, V.int 2147483629, V.int 2147483587, V.int 2147483579, V.int 2147483563] i = some (.int v) ∧ 0 < v ∧ v < 2147483648 := by
  have : i = 0 ∨ i = 1 ∨ i = 2 ∨ i = 3 ∨ i = 4 := by omega
  rcases this with rfl | rfl | rfl | rfl | rfl <;> exact ⟨_, rfl, by decide, by decide⟩
theorem sq_le {c : Int} (h0 : 0 ≤ c) (h : c ≤ 100000) : 0 ≤ 60041 * c * c ∧ 60041 * c * c ≤ 600410000000000 := by
  have h1 : 0 ≤ c * c := Int.mul_nonneg h0 h0
  have h2 : c * c ≤ 100000 * 100000 := Int.mul_le_mul h h h0 (by decide)
  rw [Int.mul_assoc]
  omega
section
variable {P : Program} {w : World} {K : PySem.W.Frag} {mg : Str → Option Value} {base : Heap}
theorem ok_ltake {f : Addr} {fd : FuncData} (F : Fun K "_law_take" "_law_take" sLTake f fd) (T : Nat0 mg) : FnOk P w K mg base CX0 1 f fd ["_law_pot", "_law_upto"] spLTake := by
  refine F.ok scLTake (fun vs H Q E h => ?_) (fun cdv A outer s H vs Q E hr h => ?_)
  · obtain ⟨p, n, N, rfl, _⟩ := h
    rfl
  · obtain ⟨p, n, N, rfl, ⟨o, m, c, hp, ho, hm, hm2, hc, hcN⟩, hN, hn, hn2, q⟩ := h
    refine ⟨_, pss_cons (ps_if (pt_cmpR op_gt (pe_ix ix_list (pv 0) pe_int (fun _ _ => rfl)) pe_int (nomark _))
        (pss_cons (ps_set (i := 2) scLTake.nd rfl (Or.inl rfl) (pe_op op_mod (pe_callTy call_int1 (by rfl) T.int (by decide +kernel) (pa_cons (pe_ix ix_list (pv 0) pe_int (fun _ _ => rfl)) pa_nil)) (pv 1)))
        (pss_cons (ps_asg (pe_op op_fdiv (pe_ix ix_list (pv 0) pe_int (fun _ _ => rfl)) (pv 1)) (pg_sub (pv 0) pe_int set_list))
        (pss_one (ps_ret (pv 2))))) pss_nil)
      (pss_cons (ps_asg (pe_op op_add (pe_ix ix_list (pv 0) pe_int (fun _ _ => rfl)) pe_int) (pg_sub (pv 0) pe_int set_list))
      (pss_cons (ps_set (i := 3) scLTake.nd rfl (Or.inl rfl) (pe_ix ix_list (pe_lst (pa_cons pe_int (pa_cons pe_int (pa_cons pe_int (pa_cons pe_int (pa_cons pe_int pa_nil))))))
          (pe_op op_mod (pe_callTy call_int1 (by rfl) T.int (by decide +kernel) (pa_cons (pe_ix ix_list (pv 0) pe_int (fun _ _ => rfl)) pa_nil)) pe_int) (fun _ _ => rfl)))
      (pss_cons (ps_set (i := 4) scLTake.nd rfl (Or.inl rfl) (pe_op op_mod (pe_op op_pow (pe_callTy call_int1 (by rfl) T.int (by decide +kernel) (pa_cons
          (pe_op op_add (pe_op op_add (pe_ix ix_list (pv 0) pe_int (fun _ _ => rfl)) (pe_op op_mul (pe_op op_mul pe_int (pe_ix ix_list (pv 0) pe_int (fun _ _ => rfl))) (pe_ix ix_list (pv 0) pe_int (fun _ _ => rfl)))) pe_int) pa_nil)) pe_int) (pv 3)))
      (pss_one (ps_ret (pe_op op_mod (pe_op op_fdiv (pe_op op_mod (pe_callTy call_int1 (by rfl) T.int (by decide +kernel) (pa_cons
          (pe_op op_mul (pv 4) (pe_op op_add (pe_op op_mod (pe_callTy call_int1 (by rfl) T.int (by decide +kernel) (pa_cons (pv 4) pa_nil)) pe_int) (pe_op op_mul pe_int (pe_ix ix_list (pv 0) pe_int (fun _ _ => rfl))))) pa_nil)) pe_int) pe_int) (pv 1))))))), ?_⟩
    have S := SqL.of (K := K) hp
    refine ⟨_, rfl, p, _, _, _, rfl, rfl, S, rfl, _, _, rfl, rfl, _, rfl, ?_⟩
    refine ite2 (fun hlt => ?_) (fun hlt => ?_)
    · refine ⟨_, rfl, p, _, _, _, rfl, rfl, S, rfl, .inl ⟨_, rfl, _, rfl, _, _, rfl, rfl, hn, ?_⟩⟩
      refine ⟨_, rfl, p, _, _, _, rfl, rfl, S, rfl, _, rfl, _, _, rfl, rfl, ⟨hn, by omega⟩, _, rfl, p, _, _, _, rfl, rfl, hp, rfl, _, rfl, ?_⟩
      refine q _ _ (Int.emod_nonneg _ (by omega)) (Int.emod_lt_of_pos _ hn) ⟨_, _, _, upd_same, Int.ediv_nonneg ho (by omega), hm, hm2, hc, by omega⟩ fun b ob e hb => ?_
      rw [upd_ne hb]
      exact e
    · refine ⟨_, rfl, p, _, _, _, rfl, rfl, S, rfl, _, _, rfl, rfl, _, rfl, p, _, _, _, rfl, rfl, hp, rfl, ?_⟩
      refine ⟨(by show 5 ≤ sizeLine; decide), fun l hl => ?_⟩
      have hlp : p ≠ l := ne_of_none upd_same hl
      have hi0 := Int.emod_nonneg (c + 1) (show (5 : Int) ≠ 0 by decide)
      have hi5 := Int.emod_lt_of_pos (c + 1) (show (0 : Int) < 5 by decide)
      obtain ⟨v, hv, v0, v31⟩ := prime_at hi0 hi5
      have at2 : ∀ o1 o2 : HO, upd (upd H p o1) l o2 p = some o1 := fun o1 o2 => Eq.trans (upd_ne hlp) upd_same
      have S2 : ∀ xs o2, SqL K (upd (upd H p (.lst xs)) l o2) p xs := fun xs o2 => SqL.of (at2 _ _)
      refine ⟨_, rfl, p, _, _, _, rfl, rfl, S2 _ _, rfl, .inl ⟨_, rfl, _, _, rfl, rfl, (by show (0 : Int) < _; decide), l, _, _, _, rfl, rfl, SqL.of upd_same, hv, ?_⟩⟩
      obtain ⟨s0, s1⟩ := sq_le (c := c + 1) (by omega) (by omega)
      refine ⟨_, rfl, p, _, _, _, rfl, rfl, S2 _ _, rfl, _, rfl, p, _, _, _, rfl, rfl, S2 _ _, rfl, _, _, rfl, rfl, .inl ⟨by decide, by decide⟩, _, rfl, p, _, _, _, rfl, rfl, S2 _ _, rfl, _, _, rfl, rfl, .inl ⟨by omega, by omega⟩, _, _, rfl, rfl, _, _, rfl, rfl, .inl ⟨_, rfl, _, _, rfl, rfl, ⟨by decide, by decide, ?_⟩, _, rfl, _, _, rfl, rfl, v0, ?_⟩⟩
      · omega
      have x0 := Int.emod_nonneg ((m + 60041 * (c + 1) * (c + 1) + 41) ^ 3) (show v ≠ 0 by omega)
      have x1 := Int.emod_lt_of_pos ((m + 60041 * (c + 1) * (c + 1) + 41) ^ 3) v0
      refine ⟨_, rfl, _, rfl, .inl ⟨_, rfl, _, _, rfl, rfl, (by show (0 : Int) < _; decide), _, rfl, p, _, _, _, rfl, rfl, S2 _ _, rfl, _, _, rfl, rfl, .inl ⟨by decide, by decide⟩, _, _, rfl, rfl, _, _, rfl, rfl, .inl ⟨?_, ?_⟩, .inl ⟨_, rfl, _, _, rfl, rfl, (by show (0 : Int) < _; decide), _, _, rfl, rfl, ⟨by decide, by decide⟩, _, rfl, _, _, rfl, rfl, hn, ?_⟩⟩⟩
      · exact Int.lt_of_lt_of_le (by decide) x0
      · exact Int.lt_trans x1 (Int.lt_trans v31 (by decide))
      refine q _ _ (Int.emod_nonneg _ (by omega)) (Int.emod_lt_of_pos _ hn) ⟨_, _, _, at2 _ _, ho, hm, hm2, (by omega), (by omega)⟩ fun b ob e hb => ?_
      have e1 : ∀ o1, upd H p o1 b = some ob := fun o1 => (upd_ne hb).trans e
      exact (upd_ne (ne_of_none (e1 _) hl)).trans (e1 _)
end
end Sc

namespace Sc
open PySem L2 PySem.Spec PyProof.Rows
theorem SameBut.seq {K : PySem.W.Frag} {p l : Addr} {H H' : Hp} {xs : List V} (k : SameBut p H H') (hl : l ≠ p) (h : SqL K H l xs) : SqL K H' l xs := by
  rcases h with (h | ⟨o, h⟩) | h
  · exact .inl (.inl (k _ _ h hl))
  · exact .inl (.inr ⟨o, k _ _ h hl⟩)
  · exact .inr h
def spOf (K : PySem.W.Frag) : Sp := fun vs H Q _ => ∃ (p l : Addr) (xs : List V) (N : Nat), vs = [.ref p, .ref l] ∧ PotAt H p N ∧ N < 100000 ∧ SqL K H l xs ∧ l ≠ p ∧ 0 < xs.length ∧ xs.length < 1000 ∧
  ∀ x H', x ∈ xs → PotAt H' p (N + 1) → SameBut p H H' → Q x H'
section
variable {P : Program} {w : World} {K : PySem.W.Frag} {mg : Str → Option Value} {base : Heap}
theorem ok_of {f fT : Addr} {fd fdT : FuncData} (F : Fun K "_law_of" "_law_of" sOf f fd) (T : Nat0 mg) (GT : FnOk P w K mg base CX0 1 fT fdT ["_law_pot", "_law_upto"] spLTake) (gT : mg "_law_take" = some (.ref fT))
    (kT : PySem.W.keepIn K (.ref fT) = true) (bT : Binds K fdT ["_law_pot", "_law_upto"] []) : FnOk P w K mg base CX0 2 f fd ["_law_pot", "_law_some"] (spOf K) := by
  refine F.ok scOf (fun vs H Q E h => ?_) (fun cdv A outer s H vs Q E hr h => ?_)
  · obtain ⟨p, l, xs, N, rfl, _⟩ := h
    rfl
  · obtain ⟨p, l, xs, N, rfl, hp, hN, hl, ne, h0, h1, q⟩ := h
    refine ⟨_, pss_one (ps_ret (pe_ix ix_list (pv 1) (pe_call GT hr (by rfl) gT kT bT .nil pass0 (pa_cons (pv 0) (pa_cons (pe_callB call_len_seq (by rfl) T.len PySem.boot_len (pa_cons (pv 1) pa_nil)) pa_nil))) (fun _ _ => rfl))), ?_⟩
    refine ⟨_, rfl, _, rfl, _, rfl, l, xs, rfl, .inl hl, p, _, N, rfl, hp, by omega, by omega, by omega, fun d H' d0 d1 hp' k => ?_⟩
    obtain ⟨n, rfl⟩ : ∃ n : Nat, d = n := ⟨d.toNat, by omega⟩
    have hn : n < xs.length := by omega
    refine ⟨l, xs, _, xs[n], rfl, rfl, k.seq ne hl, atI_nat (List.getElem?_eq_getElem hn), ?_⟩
    exact q _ _ (List.getElem_mem hn) hp' k
end
end Sc

namespace Sc
open PySem L2 PySem.Spec PyProof.Rows Lm
/-! ### that a draft is right, asked by counting -/
def txtB (x : Str) : Bool := decide (x.length ≤ 20000) && PyData.strOk x
theorem txtB_ok {x : Str} (h : txtB x = true) : TxtOk x := by
  unfold txtB at h
  rw [Bool.and_eq_true] at h
  exact ⟨of_decide_eq_true h.1, h.2⟩
def rowB (r : Row) : Bool := r.kind != "program" && (decide (r.words.length ≤ 20002) && (r.words.all txtB && (!kinds.contains r.kind || decide (1 < r.words.length))))
theorem rowB_ok {r : Row} (h : rowB r = true) : RowOk r := by
  unfold rowB at h
  simp only [Bool.and_eq_true, bne_iff_ne, ne_eq, decide_eq_true_eq, List.all_eq_true, Bool.or_eq_true, Bool.not_eq_true'] at h
  obtain ⟨h1, h2, h3, h4⟩ := h
  intro hk
  refine ⟨h2, fun x hx => txtB_ok (h3 x hx), fun _ => ?_, fun z => absurd z h1⟩
  rcases h4 with h | h
  · rw [hk] at h
    cases h
  · exact h
def metB (pm : List (Str × PkM)) (nm : Str) (n : Nat) : Bool := match look pm nm, n with
  | some m, k + 1 => match m.eds[k]? with
    | some e => e.needs.isEmpty
    | none => false
  | _, _ => false
theorem metB_ok {pm : List (Str × PkM)} {nm : Str} {n : Nat} (h : metB pm nm n = true) : metOk pm nm n := by
  unfold metB at h
  split at h
  · rename_i m k e
    split at h
    · rename_i ed e2
      exact ⟨m, ed, k, e, rfl, e2, List.isEmpty_iff.mp h⟩
    · cases h
  · cases h
def nameB (m : DrM) (r : Row) : Bool := [("cell" : Str), "package", "edition", "at", "command", "set"].contains r.kind && ((r.kind != "command" || (cmdOf m.cells m.triggers r.words && (!r.words.isEmpty && r.words.all PyData.strOk))) &&
  (r.kind != "set" || (decide (r.words.length ≤ 20002) && (r.words.all txtB && (decide ((stepW r.words (some 2) none (some 2)).length = (stepW r.words (some 3) none (some 2)).length) &&
    ((stepW r.words (some 2) none (some 2)).zip (stepW r.words (some 3) none (some 2))).all fun q => digit1 q.2 && (decide (edNum q.2 = ((edNum q.2).toNat : Int)) && metB m.packages q.1 (edNum q.2).toNat))))))
theorem nameB_ok {m : DrM} {r : Row} (h : nameB m r = true) : NameOk m r := by
  unfold nameB at h
  rw [Bool.and_eq_true, Bool.and_eq_true] at h
  obtain ⟨h1, h2, h3⟩ := h
  refine ⟨h1, fun z => ?_, fun z => ?_⟩
  · simp only [Bool.and_eq_true, bne_iff_ne, ne_eq, List.all_eq_true, Bool.or_eq_true, Bool.not_eq_true', z, not_true_eq_false, false_or] at h2
    refine ⟨h2.1, fun e => ?_, h2.2.2⟩
    have := h2.2.1
    rw [e] at this
    cases this
  · simp only [Bool.and_eq_true, bne_iff_ne, ne_eq, decide_eq_true_eq, List.all_eq_true, Bool.or_eq_true, z, not_true_eq_false, false_or] at h3
    obtain ⟨a, b, c, d⟩ := h3
    exact ⟨a, fun y hy => txtB_ok (b y hy), c, fun q hq => ⟨(d q hq).1, _, (d q hq).2.1, metB_ok (d q hq).2.2⟩⟩
def fitB (pm : List (Str × PkM)) (s : List (Str × Int)) : Bool := pm.all fun q => match look s q.1 with
  | none => true
  | some v => decide (1 ≤ v) && decide (v ≤ (q.2.eds.length : Int))
theorem fitB_ok {pm : List (Str × PkM)} {s : List (Str × Int)} (h : fitB pm s = true) : FitS pm s := by
  intro q hq
  have := List.all_eq_true.mp h q hq
  split at this
  · rename_i e
    exact .inl e
  · rename_i v e
    rw [Bool.and_eq_true, decide_eq_true_eq, decide_eq_true_eq] at this
    refine .inr ⟨v.toNat - 1, ?_, by omega⟩
    rw [e]
    exact congrArg some (by omega)
def goodB (m : DrM) : Bool := m.rows.all rowB && (decide (m.rows.length ≤ 20002) && (decide ((tolds 0 0 m.rows).Nodup) && (decide ((tolds 0 0 m.rows).length < 63) && (m.cells.all (fun q => q.2.all PyData.strOk) && (m.rows.all (nameB m) &&
  (m.packages.all (fun q => q.2.eds.all fun e => e.needs.isEmpty && e.programs.isEmpty) && (decide ((m.packages.map (·.1)).Nodup) && (decide (m.packages.length ≤ 6) && ((List.range (m.cells.length + 1)).all (fun n => decide (mulOf m.cells (m.cells.take n) < 2 ^ 60)) &&
  (decide (mulOf m.cells m.cells ≤ 60) && (decide ((m.sets.map (·.1)).Nodup) && (decide (0 < m.sets.length) && (decide (m.sets.length ≤ 20) && m.sets.all fun s => fitB m.packages s.2)))))))))))))
theorem goodB_ok {m : DrM} (h : goodB m = true) : Good m := by
  unfold goodB at h
  simp only [Bool.and_eq_true, decide_eq_true_eq, List.all_eq_true, List.isEmpty_iff] at h
  obtain ⟨a1, a2, a3, a4, a5, a6, a7, a8, a9, b1, b2, b3, b4, b5, b6⟩ := h
  refine ⟨fun r hr => rowB_ok (a1 r hr), a2, a3, a4, a5, fun r hr => nameB_ok (a6 r hr), fun q hq e he => (a7 q hq e he).1, fun q hq e he => (a7 q hq e he).2, a8, a9, fun n => ?_, b2, b3, b4, b5, fun s hs => fitB_ok (b6 s hs)⟩
  by_cases hn : n < m.cells.length + 1
  · exact b1 n (List.mem_range.mpr hn)
  · have := b1 m.cells.length (List.mem_range.mpr (by omega))
    rw [List.take_of_length_le (by omega)] at this ⊢
    · exact this
/-! ### the law's texts -/
def cellRow (ws : List Str) (n : Str) : Str := Txt.join " " ([("cell" : Str), n] ++ ws) ++ (if n = ("cc" : Str) then (" own" : Str) else "")
def lawRows (ws : List Str) : List Str := ([cellRow ws "aa", cellRow ws "bb", cellRow ws "cc"] : List Str) ++ ([("package p" : Str), "  edition 1", "  at late", "    fail", "  at early", ("    set aa " : Str) ++ ws.headD ""] : List Str)
def textOf (ws : List Str) : Str := Txt.join "\n" (lawRows ws ++ ([("set none" : Str), "set one p 1"] : List Str))
def lawWords : List (List Str) := [["u", "v"], ["v", "w", "u"], ["off", "on", "offon"]]
def cmOf (ws : List Str) : List (Str × List Str) := [("aa", ws), ("bb", ws), ("cc", ws)]
abbrev lawTr : List Str := ["late", "early"]
def chk (ws : List Str) : Bool := match mDraft (Txt.split (textOf ws) feed) with
  | none => false
  | some m => goodB m && (decide (m.packages.length = 1) && (m.packages.all (fun q => decide (q.2.ats.length ≤ 100)) && (decide (m.cells = cmOf ws) && (decide (m.triggers = lawTr) && txtB (textOf ws)))))
end Sc

namespace Sc
open PySem L2 PySem.Spec PyProof.Rows Lm
theorem chk_all : ∀ ws ∈ lawWords, chk ws = true := by decide +kernel
theorem text_facts {ws : List Str} (h : ws ∈ lawWords) : ∃ m q, TxtOk (textOf ws) ∧ mDraft (Txt.split (textOf ws) feed) = some m ∧ Good m ∧ m.packages = [q] ∧ q.2.ats.length ≤ 100 ∧ m.cells = cmOf ws ∧ m.triggers = lawTr := by
  have c := chk_all ws h
  unfold chk at c
  split at c
  · cases c
  · rename_i m e
    simp only [Bool.and_eq_true, decide_eq_true_eq, List.all_eq_true] at c
    obtain ⟨g, l, a, cc, t, x⟩ := c
    obtain ⟨q, hq⟩ := List.length_eq_one_iff.mp l
    exact ⟨m, q, txtB_ok x, e, goodB_ok g, hq, a q (by rw [hq]; simp), cc, t⟩
end Sc

namespace Sc
open PySem L2 PySem.Spec PyProof.Rows Lm
/-! ### _law_release -/
abbrev sLRel : Stmt := top 87
abbrev nLRel : List Str := ["_law_words", "_law_names", "_law_rows", "_law_name"]
theorem scLRel : FnScope nLRel ["_law_words"] (defScope sLRel) := ⟨rfl, rfl, rfl, by decide +kernel, rfl, by decide +kernel, by decide +kernel⟩
def isText (t : Str) : Prop := ∃ ws ∈ lawWords, t = textOf ws
abbrev lawNames : List Str := ["aa", "bb", "cc"]
theorem same_make {H : Hp} {d dx C : Addr} {fs : List (Str × V)} {o : HO} (hd : H d = none) (hdx : H dx = none) : Same H (upd (upd H dx o) d (.ins C dx fs)) := fun b u hb => by
  rw [upd_ne (ne_of_none hb hd), upd_ne (ne_of_none hb hdx)]
  exact hb
theorem none_back {H H' : Hp} {d : Addr} (s : Same H H') (h : H' d = none) : H d = none := by
  cases e : H d with
  | none => rfl
  | some u =>
    rw [s _ _ e] at h
    cases h
theorem tc_go {v : V} {σ : L2.St} {H : Hp} {Q : VK} (h : Q v H) : tC v σ H Q := h
def spLRel (TT : List (Addr × Str)) (CR : Addr) : Sp := fun vs H Q _ => ∃ (l : Addr) (ws : List Str), vs = [.ref l] ∧ ws ∈ lawWords ∧ H l = some (.lst (ws.map V.str)) ∧ LamX.Tabs TT H ∧ ∀ (y : Re) H', OffN [] H H' → LamX.Tabs TT H' → y.At CR (cmOf ws) lawTr H' → Q (.ref y.r) H'
theorem row_ok : ∀ ws ∈ lawWords, ∀ n ∈ lawNames, (([("cell" : Str), n] ++ ws).map (·.length)).sum + ([("cell" : Str), n] ++ ws).length * (" " : Str).length ≤ 16777216 ∧
    (Txt.join " " ([("cell" : Str), n] ++ ws)).length + (Txt.mul (" own" : Str) (if decide (V.str n = V.str "cc") = true then 1 else 0)).length ≤ sizeLine ∧ Txt.join " " ([("cell" : Str), n] ++ ws) ++ Txt.mul (" own" : Str) (if decide (V.str n = V.str "cc") = true then 1 else 0) = cellRow ws n := by decide +kernel
theorem own_ok : ∀ k : Bool, MulOk (" own" : Str) (if k = true then 1 else 0) := by
  intro k
  unfold MulOk
  cases k <;> decide +kernel
theorem text_ok : ∀ ws ∈ lawWords, ((lawRows ws ++ ([("set none" : Str), "set one p 1"] : List Str)).map (·.length)).sum + (lawRows ws ++ ([("set none" : Str), "set one p 1"] : List Str)).length * ("\n" : Str).length ≤ 16777216 ∧ ("    set aa " : Str).length + (ws.headD "").length ≤ sizeLine ∧ ws ≠ [] ∧ ws.length ≤ 3 := by decide +kernel
section
variable {P : Program} {w : World} {K : PySem.W.Frag} {mg : Str → Option Value} {base : Heap} {CR : Addr}
theorem ok_lrel {f fI : Addr} {fd fdI : FuncData} {TT : List (Addr × Str)} {k : Nat} (G : Fun K "_law_release" "_law_release" sLRel f fd) (T : NatR mg)
    (MK : Mk K CR fI) (GI : FnOk P w K mg base CX0 k fI fdI ["self", "text"] (spReInit TT isText CR)) (gR : mg "Release" = some (.ref CR)) (bI : Binds K fdI ["self", "text"] []) :
    FnOk P w K mg base CX0 (k + 2) f fd ["_law_words"] (spLRel TT CR) := by
  refine G.ok scLRel (fun vs H Q E h => ?_) (fun cdv A outer s H vs Q E hr h => ?_)
  · obtain ⟨l, ws, rfl, _⟩ := h
    rfl
  · obtain ⟨l, ws, rfl, hw, hl, tab, q⟩ := h
    refine ⟨_, pss_cons (ps_par (i := 1) (j := 2) rfl scLRel.nd rfl rfl (by decide) rfl rfl (pa_cons (pe_lst (pa_cons pe_str (pa_cons pe_str (pa_cons pe_str pa_nil)))) (pa_cons (pe_lst pa_nil) pa_nil)) rfl)
      (pss_cons (ps_for PassesOwn.never rfl (pi_list (pv 1)) (pg_name (i := 3) scLRel.nd rfl (Or.inl rfl))
        (pss_one (ps_expr (pe_bm PySem.F.plainAttrs_list PySem.F.slot_list_append PySem.F.type_list_append mt_append (pv 2) (pa_cons (pe_op op_add_str (pe_join pe_str (pe_op op_cat (pe_lst (pa_cons pe_str (pa_cons (pv 3) pa_nil))) (pv 0)))
          (pe_op op_mulS pe_str (pe_callTy call_int1 (by rfl) T.int (by decide +kernel) (pa_cons (pe_cmpR op_eq (pv 3) pe_str (nomark _)) pa_nil)))) pa_nil)))))
      (pss_cons (ps_set (i := 2) scLRel.nd rfl (Or.inl rfl) (pe_op op_cat (pv 2) (pe_lst (pa_cons pe_str (pa_cons pe_str (pa_cons pe_str (pa_cons pe_str (pa_cons pe_str (pa_cons (pe_op op_add_str pe_str (pe_ix ix_list (pv 0) pe_int (fun _ _ => rfl))) pa_nil)))))))))
      (pss_one (ps_ret (pe_make MK GI hr (by rfl) gR bI .nil pass0 (pa_cons (pe_join pe_str (pe_op op_cat (pv 2) (pe_lst (pa_cons pe_str (pa_cons pe_str pa_nil))))) pa_nil)))))), ?_⟩
    obtain ⟨m, qm, t1, t2, t3, t4, t5, t6, t7⟩ := text_facts hw
    obtain ⟨x1, x2, x3, x4⟩ := text_ok ws hw
    have lw : ws.headD "" ∈ ws := by
      cases ws with
      | nil => exact absurd rfl x3
      | cons a as => exact List.mem_cons_self
    have hat : atI (ws.map V.str) (0 : Int) = some (.str (ws.headD "")) := by
      cases ws with
      | nil => exact absurd rfl x3
      | cons a as => exact atI_nat (j := 0) rfl
    refine seq_go ⟨(by show 3 ≤ sizeLine; decide), fun L hL => ⟨(by show 0 ≤ sizeLine; decide), fun R hR => ⟨_, _, rfl, ?_⟩⟩⟩
    dsimp only [List.set]
    have s0 := same_new (o := .lst [V.str "aa", V.str "bb", V.str "cc"]) hL
    have s1 := s0.trans (same_new (o := .lst []) hR)
    have eL := (same_new (o := .lst []) hR) _ _ (upd_same (H := H) (a := L) (o := .lst [V.str "aa", V.str "bb", V.str "cc"]))
    have eR : (upd (upd H L (.lst [V.str "aa", V.str "bb", V.str "cc"])) R (.lst [])) R = some (.lst []) := upd_same
    have nR : ∀ {b : Addr} {u : HO}, H b = some u → b ≠ R := fun {b u} hb z => by
      rw [← z, s0 _ _ hb] at hR
      cases hR
    have nLR : L ≠ R := fun z => by
      rw [← z, upd_same] at hR
      cases hR
    generalize upd (upd H L (.lst [V.str "aa", V.str "bb", V.str "cc"])) R (.lst []) = H1 at s1 eL eR ⊢
    refine seq_go (for_go (list_go ⟨_, rfl, L, rfl, ⟨_, .inl (.inl eL)⟩, ?_⟩))
    refine ⟨fun i m σ H2 => m = 3 - i ∧ i ≤ 3 ∧ (∃ y, σ = [some (.ref l), some (.ref L), some (.ref R), y]) ∧ (∀ b u, b ≠ R → H1 b = some u → H2 b = some u) ∧ H2 R = some (.lst (((lawNames.take i).map (cellRow ws)).map V.str)), ⟨_, rfl, Nat.zero_le _, ⟨none, rfl⟩, fun _ _ _ e => e, eR⟩, ?_⟩
    rintro i m1 σ H2 ⟨rfl, hi, ⟨y, rfl⟩, k2, hR2⟩
    have hl2 := k2 _ _ (nR hl) (s1 _ _ hl)
    have eL2 := k2 _ _ nLR eL
    by_cases hlt : i < 3
    · obtain ⟨n, hn⟩ : ∃ n, lawNames[i]? = some n := ⟨_, List.getElem?_eq_getElem (show i < lawNames.length from hlt)⟩
      have mem := List.mem_of_getElem? hn
      have hv : (lawNames.map V.str)[i]? = some (.str n) := by rw [List.getElem?_map, hn]; rfl
      obtain ⟨r1, r2, r3⟩ := row_ok ws hw n mem
      refine .inr ⟨⟨lawNames.map V.str, _, .inl (.inl eL2), hv⟩, fun σ' H' => (∃ y, σ' = [some (.ref l), some (.ref L), some (.ref R), y]) ∧ (∀ b u, b ≠ R → H1 b = some u → H' b = some u) ∧ H' R = some (.lst (((lawNames.take (i + 1)).map (cellRow ws)).map V.str)), fun σ' H' ⟨a, b⟩ => ⟨3 - (i + 1), by omega, rfl, hlt, a, b⟩, ?_⟩
      rintro v H' ⟨rfl, hx⟩
      have ex := hx (lawNames.map V.str) (.inl (.inl eL2))
      rw [hv] at ex
      cases ex
      refine name_go ?_
      dsimp only
      refine drop_go (bm_go ⟨_, rfl, .inl ⟨rfl, _, .inl (.inl hR2)⟩, ?_⟩)
      refine cons_go (op_go ⟨⟨_, rfl⟩, op_go ⟨_, rfl, (by show 2 ≤ sizeLine; decide), fun p hp => ⟨_, rfl, p, l, _, _, rfl, rfl, upd_same, (same_new hp) _ _ hl2, ?_, fun p2 hp2 => ⟨_, p2, [("cell" : Str), n] ++ ws, rfl, rfl, .inl (.inl (.inl upd_same)), r1, ?_⟩⟩⟩⟩)
      · rw [List.length_map, sizeLine_eq]
        show 2 + ws.length ≤ _
        omega
      have s3 := (same_new (o := .lst [V.str "cell", V.str n]) hp).trans (same_new (o := .lst ([V.str "cell", V.str n] ++ ws.map V.str)) hp2)
      refine op_go (tc_go (cb_go (cons_go (op_go ⟨_, rfl, rfl, .inr ⟨_, rfl, _, _, rfl, rfl, own_ok _, _, _, rfl, rfl, r2, ?_⟩⟩))))
      rw [r3]
      refine ⟨R, _, _, rfl, rfl, s3 _ _ hR2, ?_, ⟨_, rfl⟩, fun b u nb hb => ?_, ?_⟩
      · rw [List.length_map, List.length_map, sizeLine_eq]
        have := List.length_take_le i lawNames
        have : lawNames.length = 3 := rfl
        omega
      · rw [upd_ne nb]
        exact s3 _ _ (k2 _ _ nb hb)
      · rw [upd_same, List.take_add_one, hn, List.map_append, List.map_append]
        rfl
    · obtain rfl : i = 3 := by omega
      refine .inl ⟨⟨_, .inl (.inl eL2), Nat.le_refl _⟩, ?_⟩
      dsimp only
      have sH : Same H H2 := fun b u hb => k2 _ _ (nR hb) (s1 _ _ hb)
      refine seq_go (asg_go (op_go ⟨_, rfl, op_go ⟨_, rfl, l, _, _, _, rfl, rfl, .inl (.inl hl2), hat, _, _, rfl, rfl, x2, (by show 6 ≤ sizeLine; decide), fun p hp => ?_⟩⟩))
      have s4 := same_new (o := .lst [V.str "package p", V.str "  edition 1", V.str "  at late", V.str "    fail", V.str "  at early", V.str (("    set aa " : Str) ++ ws.headD "")]) hp
      refine ⟨R, p, _, _, rfl, rfl, s4 _ _ hR2, upd_same, (by show 3 + 6 ≤ sizeLine; decide), fun p2 hp2 => name_go ?_⟩
      dsimp only [List.set]
      have s5 := s4.trans (same_new (o := .lst ((lawRows ws).map V.str)) hp2)
      refine ret_go (cons_go ⟨⟨_, rfl⟩, op_go ⟨_, rfl, (by show 2 ≤ sizeLine; decide), fun p3 hp3 => ⟨p2, p3, (lawRows ws).map V.str, _, rfl, rfl, (same_new hp3) _ _ upd_same, upd_same, (by show 9 + 2 ≤ sizeLine; decide), fun p4 hp4 => ⟨_, p4, lawRows ws ++ ([("set none" : Str), "set one p 1"] : List Str), rfl, rfl, .inl (.inl (.inl upd_same)), x1, ?_⟩⟩⟩⟩)
      have s6 := (s5.trans (same_new (o := .lst [V.str "set none", V.str "set one p 1"]) hp3)).trans (same_new (o := .lst ((lawRows ws ++ ([("set none" : Str), "set one p 1"] : List Str)).map V.str)) hp4)
      intro d dx hd hdx nex
      have s8 := same_make (C := CR) (fs := []) (o := .own d) hd hdx
      have s9 := sH.trans (Same.trans s6 s8)
      have hdH : H d = none := none_back (sH.trans s6) hd
      refine ⟨d, dx, textOf ws, m, qm, rfl, t1, ⟨ws, hw, rfl⟩, LamX.Tabs.ext tab s9, upd_same, t2, t3, t4, t5, (by rw [t6]; show 3 ≤ 100; decide), fun y H' ey o' tab' at' => ⟨rfl, ?_⟩⟩
      rw [t6, t7] at at'
      rw [← ey]
      refine q y H' (fun b u _ hb ht => o' b u (fun z => ?_) (s9 _ _ hb) ht) tab' at'
      rw [List.mem_singleton.mp z, hdH] at hb
      cases hb
end
end Sc

namespace Sc
open PySem L2 PySem.Spec PyProof.Rows Lm
/-! ### tuples as they are written -/
mutual
def LitAt (H : Hp) : V → PyData → Prop
  | v, .str x => v = .str x
  | v, .bool b => v = .bl b
  | v, .tuple ds => ∃ a xs, v = .ref a ∧ H a = some (.tup xs) ∧ LitsAt H xs ds
  | _, _ => False
def LitsAt (H : Hp) : List V → List PyData → Prop
  | [], [] => True
  | v :: vs, d :: ds => LitAt H v d ∧ LitsAt H vs ds
  | [], _ :: _ => False
  | _ :: _, [] => False
end
mutual
theorem LitAt.same {H H' : Hp} (s : Same H H') : ∀ {v : V} {d : PyData}, LitAt H v d → LitAt H' v d
  | v, .str x, h => by unfold LitAt at h ⊢; exact h
  | v, .bool x, h => by unfold LitAt at h ⊢; exact h
  | v, .tuple ds, h => by
    unfold LitAt at h ⊢
    obtain ⟨a, xs, e, h1, h2⟩ := h
    exact ⟨a, xs, e, s _ _ h1, LitsAt.same s h2⟩
  | v, .none, h => by unfold LitAt at h; exact h.elim
  | v, .int _, h => by unfold LitAt at h; exact h.elim
  | v, .list _, h => by unfold LitAt at h; exact h.elim
  | v, .dict _, h => by unfold LitAt at h; exact h.elim
theorem LitsAt.same {H H' : Hp} (s : Same H H') : ∀ {vs : List V} {ds : List PyData}, LitsAt H vs ds → LitsAt H' vs ds
  | [], [], _ => by unfold LitsAt; exact True.intro
  | v :: vs, d :: ds, h => by
    unfold LitsAt at h ⊢
    exact ⟨LitAt.same s h.1, LitsAt.same s h.2⟩
  | [], _ :: _, h => by unfold LitsAt at h; exact h.elim
  | _ :: _, [], h => by unfold LitsAt at h; exact h.elim
end
mutual
theorem LitAt.dp {K : PySem.W.Frag} {H : Hp} : ∀ {v : V} {d : PyData}, LitAt H v d → Dp K H v d
  | v, .str x, h => by unfold LitAt at h; subst h; exact .str x
  | v, .bool x, h => by unfold LitAt at h; subst h; exact .bl x
  | v, .tuple ds, h => by
    unfold LitAt at h
    obtain ⟨a, xs, rfl, h1, h2⟩ := h
    exact .tup (.inl (.inl h1)) (LitsAt.dp h2)
  | v, .none, h => by unfold LitAt at h; exact h.elim
  | v, .int _, h => by unfold LitAt at h; exact h.elim
  | v, .list _, h => by unfold LitAt at h; exact h.elim
  | v, .dict _, h => by unfold LitAt at h; exact h.elim
theorem LitsAt.dp {K : PySem.W.Frag} {H : Hp} : ∀ {vs : List V} {ds : List PyData}, LitsAt H vs ds → DpAll K H vs ds
  | [], [], _ => .nil
  | v :: vs, d :: ds, h => by
    unfold LitsAt at h
    exact .cons (LitAt.dp h.1) (LitsAt.dp h.2)
  | [], _ :: _, h => by unfold LitsAt at h; exact h.elim
  | _ :: _, [], h => by unfold LitsAt at h; exact h.elim
end
theorem LitsAt.len {H : Hp} : ∀ {vs : List V} {ds : List PyData}, LitsAt H vs ds → vs.length = ds.length
  | [], [], _ => rfl
  | v :: vs, d :: ds, h => by
    unfold LitsAt at h
    rw [List.length_cons, List.length_cons, LitsAt.len h.2]
  | [], _ :: _, h => by unfold LitsAt at h; exact h.elim
  | _ :: _, [], h => by unfold LitsAt at h; exact h.elim
theorem LitsAt.app {H : Hp} : ∀ {vs us : List V} {ds es : List PyData}, LitsAt H vs ds → LitsAt H us es → LitsAt H (vs ++ us) (ds ++ es)
  | [], us, [], es, _, b => b
  | v :: vs, us, d :: ds, es, h, b => by
    unfold LitsAt at h
    show LitsAt H (v :: (vs ++ us)) (d :: (ds ++ es))
    unfold LitsAt
    exact ⟨h.1, LitsAt.app h.2 b⟩
  | [], _, _ :: _, _, h, _ => by unfold LitsAt at h; exact h.elim
  | _ :: _, _, [], _, h, _ => by unfold LitsAt at h; exact h.elim
theorem lits_strs {H : Hp} : ∀ {vs : List V} {ws : List Str}, LitsAt H vs (ws.map .str) → vs = ws.map V.str
  | [], [], _ => rfl
  | v :: vs, w :: ws, h => by
    rw [List.map_cons] at h
    unfold LitsAt at h
    have h1 := h.1
    unfold LitAt at h1
    rw [List.map_cons, h1, lits_strs h.2]
  | [], _ :: _, h => by rw [List.map_cons] at h; unfold LitsAt at h; exact h.elim
  | _ :: _, [], h => by rw [List.map_nil] at h; unfold LitsAt at h; exact h.elim
theorem strs_lits {H : Hp} : ∀ ws : List Str, LitsAt H (ws.map V.str) (ws.map .str)
  | [] => by rw [List.map_nil, List.map_nil]; unfold LitsAt; exact True.intro
  | w :: ws => by
    rw [List.map_cons, List.map_cons]
    unfold LitsAt
    exact ⟨by unfold LitAt; rfl, strs_lits ws⟩
def wordsD (ws : List Str) : PyData := .tuple (ws.map .str)
theorem words_lit {H : Hp} {a : Addr} {ws : List Str} (h : H a = some (.tup (ws.map V.str))) : LitAt H (.ref a) (wordsD ws) := by
  unfold wordsD LitAt
  exact ⟨a, _, rfl, h, strs_lits ws⟩
theorem lit_words {H : Hp} {v : V} {ws : List Str} (h : LitAt H v (wordsD ws)) : ∃ a, v = .ref a ∧ H a = some (.tup (ws.map V.str)) := by
  unfold wordsD LitAt at h
  obtain ⟨a, xs, e, h1, h2⟩ := h
  rw [lits_strs h2] at h1
  exact ⟨a, e, h1⟩
mutual
def cmdD : Cmd → PyData
  | .plain ws => .tuple (ws.map .str)
  | .cond c w f s => .tuple [.str "if", .str c, .str w, .tuple (cmdsD f), .tuple (cmdsD s)]
def cmdsD : List Cmd → List PyData
  | [] => []
  | c :: cs => cmdD c :: cmdsD cs
end
mutual
theorem cmd_lit {H : Hp} : ∀ {v : V} (c : Cmd), LitAt H v (cmdD c) → CmdAt H v c
  | v, .plain ws, h => by
    unfold cmdD at h
    unfold CmdAt
    exact lit_words h
  | v, .cond c w f s, h => by
    unfold cmdD LitAt at h
    obtain ⟨p, xs, e, hp, hx⟩ := h
    match xs, hx with
    | [x0, x1, x2, x3, x4], hx =>
      simp only [LitsAt, LitAt, and_true] at hx
      obtain ⟨rfl, rfl, rfl, ⟨a, fa, rfl, h1, h2⟩, b, sb, rfl, h3, h4⟩ := hx
      unfold CmdAt
      exact ⟨p, a, b, fa, sb, e, hp, h1, cmds_lit f h2, h3, cmds_lit s h4⟩
    | [], hx => simp [LitsAt] at hx
    | [_], hx => simp [LitsAt] at hx
    | [_, _], hx => simp [LitsAt] at hx
    | [_, _, _], hx => simp [LitsAt] at hx
    | [_, _, _, _], hx => simp [LitsAt] at hx
    | _ :: _ :: _ :: _ :: _ :: _ :: _, hx => simp [LitsAt] at hx
theorem cmds_lit {H : Hp} : ∀ {vs : List V} (cs : List Cmd), LitsAt H vs (cmdsD cs) → CmdsAt H vs cs
  | [], [], _ => by unfold CmdsAt; exact True.intro
  | v :: vs, c :: cs, h => by
    unfold cmdsD LitsAt at h
    unfold CmdsAt
    exact ⟨cmd_lit c h.1, cmds_lit cs h.2⟩
  | [], _ :: _, h => by unfold cmdsD LitsAt at h; exact h.elim
  | _ :: _, [], h => by unfold cmdsD LitsAt at h; exact h.elim
end
def progD (cs : List Cmd) : PyData := .tuple (cmdsD cs)
theorem prog_lit {H : Hp} {v : V} {cs : List Cmd} (h : LitAt H v (progD cs)) : ∃ p, v = .ref p ∧ ProgAt H p cs := by
  unfold progD LitAt at h
  obtain ⟨a, xs, e, h1, h2⟩ := h
  exact ⟨a, e, xs, h1, cmds_lit cs h2⟩
inductive Lit where
  | s (x : Str)
  | b (x : Bool)
  | v (i : Nat)
  | t (ls : List Lit)
mutual
def Lit.te : Lit → TE
  | .s x => tC (.str x)
  | .b x => tC (.bl x)
  | .v i => tVar i
  | .t ls => tTup (Lit.tas ls)
def Lit.tas : List Lit → L2.TA
  | [] => tNil
  | l :: ls => tCons l.te (Lit.tas ls)
end
mutual
def Lit.d (ρ : Nat → PyData) : Lit → PyData
  | .s x => .str x
  | .b x => .bool x
  | .v i => ρ i
  | .t ls => .tuple (Lit.ds ρ ls)
def Lit.ds (ρ : Nat → PyData) : List Lit → List PyData
  | [] => []
  | l :: ls => l.d ρ :: Lit.ds ρ ls
end
mutual
def Lit.bnd (S : List Nat) : Lit → Bool
  | .v i => S.contains i
  | .t ls => decide (ls.length ≤ 20) && Lit.bnds S ls
  | _ => true
def Lit.bnds (S : List Nat) : List Lit → Bool
  | [] => true
  | l :: ls => l.bnd S && Lit.bnds S ls
end
theorem Lit.ds_len (ρ : Nat → PyData) : ∀ ls : List Lit, (Lit.ds ρ ls).length = ls.length
  | [] => by unfold Lit.ds; rfl
  | l :: ls => by
    unfold Lit.ds
    rw [List.length_cons, List.length_cons, Lit.ds_len ρ ls]
mutual
theorem lit_go {S : List Nat} {ρ : Nat → PyData} {σ : L2.St} : ∀ (l : Lit) {H : Hp} {Q : VK}, l.bnd S = true → (∀ i ∈ S, ∃ v, σ[i]? = some (some v) ∧ LitAt H v (ρ i)) → (∀ v H', Same H H' → LitAt H' v (l.d ρ) → Q v H') → l.te σ H Q
  | .s x, H, Q, _, _, q => q _ _ (Same.refl H) (by unfold Lit.d LitAt; rfl)
  | .b x, H, Q, _, _, q => q _ _ (Same.refl H) (by unfold Lit.d LitAt; rfl)
  | .v i, H, Q, hb, env, q => by
    obtain ⟨v, e, h⟩ := env i (by unfold Lit.bnd at hb; exact List.contains_iff_mem.mp hb)
    unfold Lit.te
    exact ⟨v, e, q _ _ (Same.refl H) (by unfold Lit.d; exact h)⟩
  | .t ls, H, Q, hb, env, q => by
    unfold Lit.bnd at hb
    rw [Bool.and_eq_true, decide_eq_true_eq] at hb
    unfold Lit.te
    refine lits_go (ρ := ρ) ls hb.2 env fun vs H1 s1 h1 => ⟨?_, fun p hp => q _ _ (s1.trans (same_new hp)) ?_⟩
    · rw [h1.len, Lit.ds_len, sizeLine_eq]
      omega
    · unfold Lit.d LitAt
      exact ⟨p, vs, rfl, upd_same, h1.same (same_new hp)⟩
theorem lits_go {S : List Nat} {ρ : Nat → PyData} {σ : L2.St} : ∀ (ls : List Lit) {H : Hp} {R : List V → Hp → Prop}, Lit.bnds S ls = true → (∀ i ∈ S, ∃ v, σ[i]? = some (some v) ∧ LitAt H v (ρ i)) → (∀ vs H', Same H H' → LitsAt H' vs (Lit.ds ρ ls) → R vs H') → Lit.tas ls σ H R
  | [], H, R, _, _, q => q [] H (Same.refl H) (by unfold Lit.ds LitsAt; exact True.intro)
  | l :: ls, H, R, hb, env, q => by
    unfold Lit.bnds at hb
    rw [Bool.and_eq_true] at hb
    unfold Lit.tas
    refine lit_go (ρ := ρ) l hb.1 env fun v H1 s1 h1 => lits_go (ρ := ρ) ls hb.2 (fun i hi => ?_) fun vs H2 s2 h2 => q (v :: vs) H2 (s1.trans s2) ?_
    · obtain ⟨u, e, h⟩ := env i hi
      exact ⟨u, e, h.same s1⟩
    · unfold Lit.ds LitsAt
      exact ⟨h1.same s2, h2⟩
end
end Sc

namespace Sc
open PySem L2 PySem.Spec PyProof.Rows Lm
/-! ### what the law's runs come to -/
def stD (st : Stt) : PyData := .tuple [wordsD st.1, wordsD st.2]
def doneD (cs : List Cmd) (ws : List Str) : PyData := .tuple [wordsD (lastSt (ws, []) (runL lawNames cs (ws, [])).1).1, wordsD (lastSt (ws, []) (runL lawNames cs (ws, [])).1).2, .bool (runL lawNames cs (ws, [])).2]
def cutsD (cs : List Cmd) (ws : List Str) : PyData := .tuple ((runL lawNames cs (ws, [])).1.map stD)
theorem st_lit {H : Hp} {v : V} {st : Stt} (h : StAt H v st) : LitAt H v (stD st) := by
  obtain ⟨p, a, b, e, h1, h2, h3⟩ := h
  unfold stD LitAt
  refine ⟨p, _, e, h1, ?_⟩
  unfold LitsAt
  refine ⟨words_lit h2, ?_⟩
  unfold LitsAt
  refine ⟨words_lit h3, ?_⟩
  unfold LitsAt
  exact True.intro
theorem sts_lit {H : Hp} : ∀ {vs : List V} {ss : List Stt}, StsAt H vs ss → LitsAt H vs (ss.map stD)
  | [], [], _ => by rw [List.map_nil]; unfold LitsAt; exact True.intro
  | v :: vs, s :: ss, h => by
    unfold StsAt at h
    rw [List.map_cons]
    unfold LitsAt
    exact ⟨st_lit h.1, sts_lit h.2⟩
  | [], _ :: _, h => by unfold StsAt at h; exact h.elim
  | _ :: _, [], h => by unfold StsAt at h; exact h.elim
def askB (ws : List Str) (cs : List Cmd) (x : List Str) : Bool := gdL lawNames cs && (decide (deepL cs ≤ 2) && (decide (cntL cs ≤ 40) && (rightL cs && (decide (cs.length ≤ 100) && (progM (cmOf ws) lawTr cs && (wordsM (cmOf ws) x && decide (x.length = 3)))))))
theorem ask_of {CR : Addr} {y : Re} {ws x : List Str} {cs : List Cmd} {H : Hp} {pv av : V} (h : y.At CR (cmOf ws) lawTr H) (hp : LitAt H pv (progD cs)) (ha : LitAt H av (wordsD x)) (ok : askB ws cs x = true) : ∃ p a, pv = .ref p ∧ av = .ref a ∧ Asked CR y (cmOf ws) lawTr p a cs x H := by
  unfold askB at ok
  simp only [Bool.and_eq_true, decide_eq_true_eq] at ok
  obtain ⟨a1, a2, a3, a4, a5, a6, a7, a8⟩ := ok
  obtain ⟨p, e1, p1⟩ := prog_lit hp
  obtain ⟨a, e2, w1⟩ := lit_words ha
  exact ⟨p, a, e1, e2, ⟨h, p1, a1, a2, w1, a8, a3⟩, a4, a5, a6, a7⟩
theorem done_go {CR : Addr} {y : Re} {ws x : List Str} {cs : List Cmd} {H : Hp} {pv av : V} {Q : VK} {E : XK} (h : y.At CR (cmOf ws) lawTr H) (hp : LitAt H pv (progD cs)) (ha : LitAt H av (wordsD x)) (ok : askB ws cs x = true)
    (q : ∀ t H', Same H H' → LitAt H' t (doneD cs x) → Q t H') : spDone CR [.ref y.r, pv, av] H Q E := by
  obtain ⟨p, a, rfl, rfl, as⟩ := ask_of h hp ha ok
  refine ⟨y, p, a, cmOf ws, lawTr, cs, x, rfl, as, fun t b k H' s ht hb hk => q _ H' s ?_⟩
  unfold doneD LitAt
  refine ⟨t, _, rfl, ht, ?_⟩
  unfold LitsAt
  refine ⟨words_lit hb, ?_⟩
  unfold LitsAt
  refine ⟨words_lit hk, ?_⟩
  unfold LitsAt
  refine ⟨by unfold LitAt; rfl, ?_⟩
  unfold LitsAt
  exact True.intro
theorem cuts_go {CR : Addr} {y : Re} {ws x : List Str} {cs : List Cmd} {H : Hp} {pv av : V} {Q : VK} {E : XK} (h : y.At CR (cmOf ws) lawTr H) (hp : LitAt H pv (progD cs)) (ha : LitAt H av (wordsD x)) (ok : askB ws cs x = true)
    (q : ∀ t H', Same H H' → LitAt H' t (cutsD cs x) → Q t H') : spCuts CR [.ref y.r, pv, av] H Q E := by
  obtain ⟨p, a, rfl, rfl, as⟩ := ask_of h hp ha ok
  refine ⟨y, p, a, cmOf ws, lawTr, cs, x, rfl, as, fun t us H' s ht hs => q _ H' s ?_⟩
  unfold cutsD LitAt
  exact ⟨t, us, rfl, ht, sts_lit hs⟩
/-- two data that can be compared, and are alike -/
def eqB (d e : PyData) : Bool := SeqAt.shaped d && (SeqAt.shaped e && PyData.eqv d e)
theorem ne_go {K : PySem.W.Frag} {H : Hp} {v u : V} {d e : PyData} {Q : VK} (hv : LitAt H v d) (hu : LitAt H u e) (ok : eqB d e = true) (q : Q (.bl false) H) : rNeD K v u H Q := by
  unfold eqB at ok
  simp only [Bool.and_eq_true] at ok
  refine ⟨d, e, hv.dp, hu.dp, ok.1, ok.2.1, ?_⟩
  rw [ok.2.2]
  exact q
theorem eq_go {K : PySem.W.Frag} {H : Hp} {v u : V} {d e : PyData} {Q : VK} (hv : LitAt H v d) (hu : LitAt H u e) (ok : eqB d e = true) (q : Q (.bl true) H) : rEqD K v u H Q := by
  unfold eqB at ok
  simp only [Bool.and_eq_true] at ok
  refine ⟨d, e, hv.dp, hu.dp, ok.1, ok.2.1, ?_⟩
  rw [ok.2.2]
  exact q
def spChk (CR : Addr) : Sp := fun vs H Q _ => ∃ (y : Re) (ws : List Str) (a b c : Str), vs = [.ref y.r, .str a, .str b, .str c] ∧ y.At CR (cmOf ws) lawTr H ∧ ws ∈ lawWords ∧ a ∈ ws ∧ b ∈ ws ∧ c ∈ ws ∧ ∀ H', Same H H' → Q (.bl true) H'
theorem lit_to {S : List Nat} {ρ : Nat → PyData} {σ : L2.St} {te : TE} (l : Lit) {H : Hp} {Q : VK} (e : te = l.te) (hb : l.bnd S = true) (env : ∀ i ∈ S, ∃ v, σ[i]? = some (some v) ∧ LitAt H v (ρ i)) (q : ∀ v H', Same H H' → LitAt H' v (l.d ρ) → Q v H') : te σ H Q := by
  rw [e]
  exact lit_go l hb env q
def rho (l : List (Nat × PyData)) (i : Nat) : PyData := (l.lookup i).getD .none
/-- the checks' own facts, for all words there are -/
def allW (f : List Str → Str → Str → Str → Bool) : Bool := lawWords.all fun ws => ws.all fun a => ws.all fun b => ws.all fun c => f ws a b c
theorem allW_ok {f : List Str → Str → Str → Str → Bool} (h : allW f = true) {ws : List Str} {a b c : Str} (h0 : ws ∈ lawWords) (h1 : a ∈ ws) (h2 : b ∈ ws) (h3 : c ∈ ws) : f ws a b c = true :=
  List.all_eq_true.mp (List.all_eq_true.mp (List.all_eq_true.mp (List.all_eq_true.mp h ws h0) a h1) b h2) c h3
end Sc

namespace Sc
open PySem L2 PySem.Spec PyProof.Rows Lm
/-! ### _law_turned_right -/
abbrev sTurned : Stmt := top 88
abbrev nTurned : List Str := ["_law_release_here", "_law_x", "_law_y", "_law_z", "_law_program"]
abbrev pChk : List Str := ["_law_release_here", "_law_x", "_law_y", "_law_z"]
theorem scTurned : FnScope nTurned pChk (defScope sTurned) := ⟨rfl, rfl, rfl, by decide +kernel, rfl, by decide +kernel, by decide +kernel⟩
abbrev rho3 (a b c : Str) : Nat → PyData := rho [(1, .str a), (2, .str b), (3, .str c)]
theorem env3 {σ : L2.St} {H : Hp} {a b c : Str} (h1 : σ[1]? = some (some (.str a))) (h2 : σ[2]? = some (some (.str b))) (h3 : σ[3]? = some (some (.str c))) : ∀ i ∈ [1, 2, 3], ∃ v, σ[i]? = some (some v) ∧ LitAt H v (rho3 a b c i) := by
  intro i hi
  simp only [List.mem_cons, List.not_mem_nil, or_false] at hi
  rcases hi with rfl | rfl | rfl
  · exact ⟨_, h1, by show LitAt H (.str a) (.str a); unfold LitAt; rfl⟩
  · exact ⟨_, h2, by show LitAt H (.str b) (.str b); unfold LitAt; rfl⟩
  · exact ⟨_, h3, by show LitAt H (.str c) (.str c); unfold LitAt; rfl⟩
abbrev rho4 (a b c : Str) (k : Nat) (d : PyData) : Nat → PyData := rho [(1, .str a), (2, .str b), (3, .str c), (k, d)]
theorem env4 {σ : L2.St} {H : Hp} {a b c : Str} {k : Nat} {d : PyData} {v : V} (h1 : σ[1]? = some (some (.str a))) (h2 : σ[2]? = some (some (.str b))) (h3 : σ[3]? = some (some (.str c))) (hk : σ[k]? = some (some v)) (hd : LitAt H v d) (e : rho4 a b c k d k = d) : ∀ i ∈ [1, 2, 3, k], ∃ v, σ[i]? = some (some v) ∧ LitAt H v (rho4 a b c k d i) := by
  intro i hi
  simp only [List.mem_cons, List.not_mem_nil, or_false] at hi
  rcases hi with rfl | rfl | rfl | rfl
  · exact ⟨_, h1, by show LitAt H (.str a) (.str a); unfold LitAt; rfl⟩
  · exact ⟨_, h2, by show LitAt H (.str b) (.str b); unfold LitAt; rfl⟩
  · exact ⟨_, h3, by show LitAt H (.str c) (.str c); unfold LitAt; rfl⟩
  · exact ⟨_, hk, by rw [e]; exact hd⟩
abbrev xyz : Lit := .t [.v 1, .v 2, .v 3]
def turnP : List Cmd := [.plain ["copy", "aa", "cc"], .plain ["copy", "bb", "aa"], .plain ["copy", "cc", "bb"]]
def turnL : Lit := .t [.t [.s "copy", .s "aa", .s "cc"], .t [.s "copy", .s "bb", .s "aa"], .t [.s "copy", .s "cc", .s "bb"]]
def turnE1 : Lit := .t [.t [.v 2, .v 1, .v 1], .t [], .b false]
def turnE2 : Lit := .t [.t [.t [.v 1, .v 2, .v 1], .t []], .t [.t [.v 2, .v 2, .v 1], .t []], .t [.t [.v 2, .v 1, .v 1], .t []]]
def turnB (ws : List Str) (a b c : Str) : Bool := askB ws turnP [a, b, c] && (eqB (doneD turnP [a, b, c]) (turnE1.d (rho3 a b c)) && eqB (cutsD turnP [a, b, c]) (turnE2.d (rho3 a b c)))
theorem turn_all : allW turnB = true := by decide +kernel
section
variable {P : Program} {w : World} {K : PySem.W.Frag} {mg : Str → Option Value} {base : Heap} {CR : Addr}
theorem ok_turned {l : Nat} {f fD fC : Addr} {fd fdD fdC : FuncData} (G : Fun K "_law_turned_right" "_law_turned_right" sTurned f fd)
    (GD : FnOk P w K mg base CX0 l fD fdD ["release", "program", "words"] (spDone CR)) (gD : mg "done" = some (.ref fD)) (kD : PySem.W.keepIn K (.ref fD) = true) (bD : Binds K fdD ["release", "program", "words"] [])
    (GC : FnOk P w K mg base CX0 l fC fdC ["release", "program", "words"] (spCuts CR)) (gC : mg "cuts" = some (.ref fC)) (kC : PySem.W.keepIn K (.ref fC) = true) (bC : Binds K fdC ["release", "program", "words"] []) :
    FnOk P w K mg base CX0 (l + 1) f fd pChk (spChk CR) := by
  refine G.ok scTurned (fun vs H Q E h => ?_) (fun cdv A outer s H vs Q E hr h => ?_)
  · obtain ⟨y, ws, a, b, c, rfl, _⟩ := h
    rfl
  · obtain ⟨y, ws, a, b, c, rfl, hy, hw, ha, hb, hc, q⟩ := h
    refine ⟨_, pss_cons (ps_set (i := 4) scTurned.nd rfl (Or.inl rfl) (pe_tup (pa_cons (pe_tup (pa_cons pe_str (pa_cons pe_str (pa_cons pe_str pa_nil)))) (pa_cons (pe_tup (pa_cons pe_str (pa_cons pe_str (pa_cons pe_str pa_nil)))) (pa_cons (pe_tup (pa_cons pe_str (pa_cons pe_str (pa_cons pe_str pa_nil)))) pa_nil)))))
      (pss_cons (ps_if (pt_cmpR (op_neD hr.units) (pe_call GD hr (by rfl) gD kD bD .nil pass0 (pa_cons (pv 0) (pa_cons (pv 4) (pa_cons (pe_tup (pa_cons (pv 1) (pa_cons (pv 2) (pa_cons (pv 3) pa_nil)))) pa_nil)))) (pe_tup (pa_cons (pe_tup (pa_cons (pv 2) (pa_cons (pv 1) (pa_cons (pv 1) pa_nil)))) (pa_cons (pe_tup pa_nil) (pa_cons pe_bl pa_nil)))) (nomark _)) (pss_one (ps_ret pe_bl)) pss_nil)
      (pss_one (ps_ret (pe_cmpR (op_eqD hr.units) (pe_call GC hr (by rfl) gC kC bC .nil pass0 (pa_cons (pv 0) (pa_cons (pv 4) (pa_cons (pe_tup (pa_cons (pv 1) (pa_cons (pv 2) (pa_cons (pv 3) pa_nil)))) pa_nil))))
        (pe_tup (pa_cons (pe_tup (pa_cons (pe_tup (pa_cons (pv 1) (pa_cons (pv 2) (pa_cons (pv 1) pa_nil)))) (pa_cons (pe_tup pa_nil) pa_nil))) (pa_cons (pe_tup (pa_cons (pe_tup (pa_cons (pv 2) (pa_cons (pv 2) (pa_cons (pv 1) pa_nil)))) (pa_cons (pe_tup pa_nil) pa_nil))) (pa_cons (pe_tup (pa_cons (pe_tup (pa_cons (pv 2) (pa_cons (pv 1) (pa_cons (pv 1) pa_nil)))) (pa_cons (pe_tup pa_nil) pa_nil))) pa_nil)))) (nomark _))))), ?_⟩
    have fact := allW_ok turn_all hw ha hb hc
    unfold turnB at fact
    simp only [Bool.and_eq_true] at fact
    obtain ⟨f1, f2, f3⟩ := fact
    refine seq_go (asg_go (lit_to (S := []) (ρ := rho3 a b c) turnL (by rfl) (by decide) (fun i hi => nomatch hi) fun pv1 H1 s1 hp => name_go ?_))
    dsimp only [List.set]
    have hp1 : LitAt H1 pv1 (progD turnP) := hp
    refine seq_go (ifs_go (test_go (op_go (call_go ⟨_, rfl, _, rfl, lit_to (S := [1, 2, 3]) (ρ := rho3 a b c) xyz (by rfl) (by decide) (env3 rfl rfl rfl) fun av H2 s2 hav => ?_⟩))))
    dsimp only [tNil, List.cons_append, List.nil_append]
    refine done_go (x := [a, b, c]) (hy.same (s1.trans s2)) (hp1.same s2) hav f1 fun t H3 s3 ht => ?_
    refine lit_to (S := [1, 2, 3]) (ρ := rho3 a b c) turnE1 (by rfl) (by decide) (env3 rfl rfl rfl) fun u H4 s4 hu => ne_go (ht.same s4) hu f2 ⟨_, rfl, ite2 (fun z => absurd z Bool.false_ne_true) fun _ => next_go ?_⟩
    dsimp only
    have s14 := ((s1.trans s2).trans s3).trans s4
    refine ret_go (op_go (call_go ⟨_, rfl, _, rfl, lit_to (S := [1, 2, 3]) (ρ := rho3 a b c) xyz (by rfl) (by decide) (env3 rfl rfl rfl) fun av H5 s5 hav => ?_⟩))
    dsimp only [tNil, List.cons_append, List.nil_append]
    refine cuts_go (x := [a, b, c]) (hy.same (s14.trans s5)) (hp1.same (((s2.trans s3).trans s4).trans s5)) hav f1 fun t H6 s6 ht => ?_
    refine lit_to (S := [1, 2, 3]) (ρ := rho3 a b c) turnE2 (by rfl) (by decide) (env3 rfl rfl rfl) fun u H7 s7 hu => eq_go (ht.same s7) hu f3 ?_
    exact q H7 (((s14.trans s5).trans s6).trans s7)
end
end Sc

namespace Sc
open PySem L2 PySem.Spec PyProof.Rows Lm
/-! ### choices and lists of written tuples -/
theorem str_dec (a b : Str) : decide (V.str a = V.str b) = decide (a = b) := by
  by_cases h : a = b
  · rw [decide_eq_true h, decide_eq_true (by rw [h])]
  · rw [decide_eq_false h, decide_eq_false (fun z => h (V.str.inj z))]
theorem ifl_go {S : List Nat} {ρ : Nat → PyData} {σ : L2.St} {te1 te2 : TE} {a b : Str} {i j : Nat} (l1 l2 : Lit) {H : Hp} {Q : VK} (e1 : te1 = l1.te) (e2 : te2 = l2.te) (b1 : l1.bnd S = true) (b2 : l2.bnd S = true) (env : ∀ i ∈ S, ∃ v, σ[i]? = some (some v) ∧ LitAt H v (ρ i))
    (hi : σ[i]? = some (some (.str a))) (hj : σ[j]? = some (some (.str b))) (q : ∀ v H', Same H H' → LitAt H' v (if a = b then l1.d ρ else l2.d ρ) → Q v H') : tIf (tTest (tOp rEq (tVar i) (tVar j))) te1 te2 σ H Q := by
  rw [e1, e2]
  refine ⟨_, hi, _, hj, rfl, _, rfl, ite2 (fun h => ?_) fun h => ?_⟩
  · rw [str_dec] at h
    rw [if_pos (of_decide_eq_true h)] at q
    exact lit_go l1 b1 env q
  · rw [str_dec] at h
    rw [if_neg (fun z => h (decide_eq_true z))] at q
    exact lit_go l2 b2 env q
theorem ifn_go {S : List Nat} {ρ : Nat → PyData} {σ : L2.St} {te1 te2 : TE} {a b : Str} {i j : Nat} (l1 l2 : Lit) {H : Hp} {Q : VK} (e1 : te1 = l1.te) (e2 : te2 = l2.te) (b1 : l1.bnd S = true) (b2 : l2.bnd S = true) (env : ∀ i ∈ S, ∃ v, σ[i]? = some (some v) ∧ LitAt H v (ρ i))
    (hi : σ[i]? = some (some (.str a))) (hj : σ[j]? = some (some (.str b))) (q : ∀ v H', Same H H' → LitAt H' v (if a = b then l2.d ρ else l1.d ρ) → Q v H') : tIf (tTest (tOp rNe (tVar i) (tVar j))) te1 te2 σ H Q := by
  rw [e1, e2]
  refine ⟨_, hi, _, hj, rfl, _, rfl, ite2 (fun h => ?_) fun h => ?_⟩
  · rw [str_dec, Bool.not_eq_true', decide_eq_false_iff_not] at h
    rw [if_neg h] at q
    exact lit_go l1 b1 env q
  · rw [str_dec, Bool.not_eq_true', decide_eq_false_iff_not, Classical.not_not] at h
    rw [if_pos h] at q
    exact lit_go l2 b2 env q
theorem lstl_go {S : List Nat} {ρ : Nat → PyData} {σ : L2.St} {te : TE} (ls : List Lit) {H : Hp} {Q : VK} (e : te = tLst (Lit.tas ls)) (hb : Lit.bnds S ls = true) (h20 : ls.length ≤ 20) (env : ∀ i ∈ S, ∃ v, σ[i]? = some (some v) ∧ LitAt H v (ρ i))
    (q : ∀ p vs H', Same H H' → H' p = some (.lst vs) → LitsAt H' vs (Lit.ds ρ ls) → Q (.ref p) H') : te σ H Q := by
  rw [e]
  refine lits_go (ρ := ρ) ls hb env fun vs H1 s1 h1 => ⟨?_, fun p hp => q p vs _ (s1.trans (same_new hp)) upd_same (h1.same (same_new hp))⟩
  rw [h1.len, Lit.ds_len, sizeLine_eq]
  omega
theorem ifr_go {S : List Nat} {ρ : Nat → PyData} {σ : L2.St} {te1 te2 : TE} {a b : Str} {i j : Nat} (ls1 ls2 : List Lit) {H : Hp} {Q : VK} (e1 : te1 = tLst (Lit.tas ls1)) (e2 : te2 = tLst (Lit.tas ls2)) (b1 : Lit.bnds S ls1 = true) (b2 : Lit.bnds S ls2 = true) (h1 : ls1.length ≤ 20) (h2 : ls2.length ≤ 20)
    (env : ∀ i ∈ S, ∃ v, σ[i]? = some (some v) ∧ LitAt H v (ρ i)) (hi : σ[i]? = some (some (.str a))) (hj : σ[j]? = some (some (.str b)))
    (q : ∀ p vs H', Same H H' → H' p = some (.lst vs) → LitsAt H' vs (if a = b then Lit.ds ρ ls1 ++ Lit.ds ρ ls1 else Lit.ds ρ ls2) → Q (.ref p) H') : tIf (tTest (tOp rEq (tVar i) (tVar j))) (tOp rRep te1 (tC (.int 2))) te2 σ H Q := by
  refine ⟨_, hi, _, hj, rfl, _, rfl, ite2 (fun h => ?_) fun h => ?_⟩
  · rw [str_dec] at h
    rw [if_pos (of_decide_eq_true h)] at q
    refine op_go (lstl_go (ρ := ρ) ls1 e1 b1 h1 env fun p vs H1 s1 hp hv => tc_go ⟨p, 2, vs, rfl, rfl, hp, by decide, by decide, ?_, fun p2 hp2 => q p2 (vs ++ vs) _ (s1.trans (same_new hp2)) ?_ ?_⟩)
    · rw [hv.len, Lit.ds_len, sizeLine_eq]
      show ls1.length * 2 ≤ _
      omega
    · rw [upd_same]
      show some (HO.lst ((vs ++ (vs ++ [])))) = _
      rw [List.append_nil]
    · exact (hv.app hv).same (same_new hp2)
  · rw [str_dec] at h
    rw [if_neg (fun z => h (decide_eq_true z))] at q
    exact lstl_go (ρ := ρ) ls2 e2 b2 h2 env q
/-! ### _law_tests_right -/
abbrev sTests : Stmt := top 89
abbrev nTests : List Str := ["_law_release_here", "_law_x", "_law_y", "_law_z", "_law_inner", "_law_program", "_law_wakes", "_law_due", "_law_rest"]
theorem scTests : FnScope nTests pChk (defScope sTests) := ⟨rfl, rfl, rfl, by decide +kernel, rfl, by decide +kernel, by decide +kernel⟩
def testP (a b : Str) : List Cmd := [.plain ["set", "aa", b], .cond "aa" b [.plain ["copy", "aa", "bb"], .cond "bb" a [.plain ["wake", "late"], .plain ["set", "bb", b]] [.plain ["wake", "early"]]] [.plain ["fail"]], .plain ["wake", "early"]]
def te_inner : Lit := .t [.s "if", .s "bb", .v 1, .t [.t [.s "wake", .s "late"], .t [.s "set", .s "bb", .v 2]], .t [.t [.s "wake", .s "early"]]]
def te_prog : Lit := .t [.t [.s "set", .s "aa", .v 2], .t [.s "if", .s "aa", .v 2, .t [.t [.s "copy", .s "aa", .s "bb"], .v 4], .t [.t [.s "fail"]]], .t [.s "wake", .s "early"]]
def te_w1 : Lit := .t [.s "early", .s "late"]
def te_w2 : Lit := .t [.s "early"]
def te_arg : Lit := .t [.v 1, .v 3, .v 3]
def te_e1 : Lit := .t [.t [.v 2, .v 2, .v 3], .v 6, .b false]
def te_d1 : Lit := .t [.t [.v 2, .v 3, .v 3], .t []]
def te_d2 : Lit := .t [.t [.v 2, .v 2, .v 3], .t []]
def te_r1 : Lit := .t [.t [.v 2, .v 2, .v 3], .t [.s "late"]]
def te_r2 : Lit := .t [.t [.v 2, .v 2, .v 3], .t [.s "early"]]
def te_last : Lit := .t [.t [.v 2, .v 2, .v 3], .v 6]
abbrev wkD (a b c : Str) : PyData := if a = b then te_w1.d (rho3 a b c) else te_w2.d (rho3 a b c)
def dueDs (a b c : Str) : List PyData := (Lit.ds (rho3 a b c) [te_d1, te_d2] ++ (if a = b then Lit.ds (rho3 a b c) [te_r1] ++ Lit.ds (rho3 a b c) [te_r1] else Lit.ds (rho3 a b c) [te_r2])) ++ Lit.ds (rho4 a b c 6 (wkD a b c)) [te_last]
def testB (ws : List Str) (a b c : Str) : Bool := askB ws (testP a b) [a, c, c] && (eqB (doneD (testP a b) [a, c, c]) (te_e1.d (rho4 a b c 6 (wkD a b c))) && (eqB (cutsD (testP a b) [a, c, c]) (.tuple (dueDs a b c)) && decide ((dueDs a b c).length ≤ 20)))
theorem test_all : allW testB = true := by decide +kernel
section
variable {P : Program} {w : World} {K : PySem.W.Frag} {mg : Str → Option Value} {base : Heap} {CR : Addr}
theorem ok_tests {l : Nat} {f fD fC : Addr} {fd fdD fdC : FuncData} (G : Fun K "_law_tests_right" "_law_tests_right" sTests f fd) (T : NatR mg)
    (GD : FnOk P w K mg base CX0 l fD fdD ["release", "program", "words"] (spDone CR)) (gD : mg "done" = some (.ref fD)) (kD : PySem.W.keepIn K (.ref fD) = true) (bD : Binds K fdD ["release", "program", "words"] [])
    (GC : FnOk P w K mg base CX0 l fC fdC ["release", "program", "words"] (spCuts CR)) (gC : mg "cuts" = some (.ref fC)) (kC : PySem.W.keepIn K (.ref fC) = true) (bC : Binds K fdC ["release", "program", "words"] []) :
    FnOk P w K mg base CX0 (l + 1) f fd pChk (spChk CR) := by
  refine G.ok scTests (fun vs H Q E h => ?_) (fun cdv A outer s H vs Q E hr h => ?_)
  · obtain ⟨y, ws, a, b, c, rfl, _⟩ := h
    rfl
  · obtain ⟨y, ws, a, b, c, rfl, hy, hw, ha, hb, hc, q⟩ := h
    refine ⟨_, pss_cons (ps_set (i := 4) scTests.nd rfl (Or.inl rfl) (pe_tup (pa_cons pe_str (pa_cons pe_str (pa_cons (pv 1) (pa_cons (pe_tup (pa_cons (pe_tup (pa_cons pe_str (pa_cons pe_str pa_nil))) (pa_cons (pe_tup (pa_cons pe_str (pa_cons pe_str (pa_cons (pv 2) pa_nil)))) pa_nil))) (pa_cons (pe_tup (pa_cons (pe_tup (pa_cons pe_str (pa_cons pe_str pa_nil))) pa_nil)) pa_nil)))))))
      (pss_cons (ps_set (i := 5) scTests.nd rfl (Or.inl rfl) (pe_tup (pa_cons (pe_tup (pa_cons pe_str (pa_cons pe_str (pa_cons (pv 2) pa_nil)))) (pa_cons (pe_tup (pa_cons pe_str (pa_cons pe_str (pa_cons (pv 2) (pa_cons (pe_tup (pa_cons (pe_tup (pa_cons pe_str (pa_cons pe_str (pa_cons pe_str pa_nil)))) (pa_cons (pv 4) pa_nil))) (pa_cons (pe_tup (pa_cons (pe_tup (pa_cons pe_str pa_nil)) pa_nil)) pa_nil)))))) (pa_cons (pe_tup (pa_cons pe_str (pa_cons pe_str pa_nil))) pa_nil)))))
      (pss_cons (ps_set (i := 6) scTests.nd rfl (Or.inl rfl) (pe_ifExp (pt_cmpR op_eq (pv 1) (pv 2) (nomark _)) (pe_tup (pa_cons pe_str (pa_cons pe_str pa_nil))) (pe_tup (pa_cons pe_str pa_nil))))
      (pss_cons (ps_if (pt_cmpR (op_neD hr.units) (pe_call GD hr (by rfl) gD kD bD .nil pass0 (pa_cons (pv 0) (pa_cons (pv 5) (pa_cons (pe_tup (pa_cons (pv 1) (pa_cons (pv 3) (pa_cons (pv 3) pa_nil)))) pa_nil)))) (pe_tup (pa_cons (pe_tup (pa_cons (pv 2) (pa_cons (pv 2) (pa_cons (pv 3) pa_nil)))) (pa_cons (pv 6) (pa_cons pe_bl pa_nil)))) (nomark _)) (pss_one (ps_ret pe_bl)) pss_nil)
      (pss_cons (ps_set (i := 7) scTests.nd rfl (Or.inl rfl) (pe_lst (pa_cons (pe_tup (pa_cons (pe_tup (pa_cons (pv 2) (pa_cons (pv 3) (pa_cons (pv 3) pa_nil)))) (pa_cons (pe_tup pa_nil) pa_nil))) (pa_cons (pe_tup (pa_cons (pe_tup (pa_cons (pv 2) (pa_cons (pv 2) (pa_cons (pv 3) pa_nil)))) (pa_cons (pe_tup pa_nil) pa_nil))) pa_nil))))
      (pss_cons (ps_set (i := 8) scTests.nd rfl (Or.inl rfl) (pe_ifExp (pt_cmpR op_eq (pv 1) (pv 2) (nomark _)) (pe_op op_rep (pe_lst (pa_cons (pe_tup (pa_cons (pe_tup (pa_cons (pv 2) (pa_cons (pv 2) (pa_cons (pv 3) pa_nil)))) (pa_cons (pe_tup (pa_cons pe_str pa_nil)) pa_nil))) pa_nil)) pe_int) (pe_lst (pa_cons (pe_tup (pa_cons (pe_tup (pa_cons (pv 2) (pa_cons (pv 2) (pa_cons (pv 3) pa_nil)))) (pa_cons (pe_tup (pa_cons pe_str pa_nil)) pa_nil))) pa_nil))))
      (pss_cons (ps_set (i := 7) scTests.nd rfl (Or.inl rfl) (pe_op op_cat (pe_op op_cat (pv 7) (pv 8)) (pe_lst (pa_cons (pe_tup (pa_cons (pe_tup (pa_cons (pv 2) (pa_cons (pv 2) (pa_cons (pv 3) pa_nil)))) (pa_cons (pv 6) pa_nil))) pa_nil))))
      (pss_one (ps_ret (pe_cmpR (op_eqD hr.units) (pe_call GC hr (by rfl) gC kC bC .nil pass0 (pa_cons (pv 0) (pa_cons (pv 5) (pa_cons (pe_tup (pa_cons (pv 1) (pa_cons (pv 3) (pa_cons (pv 3) pa_nil)))) pa_nil))))
        (pe_callTy call_tuple_of (by rfl) T.tuple (by decide +kernel) (pa_cons (pv 7) pa_nil)) (nomark _)))))))))), ?_⟩
    have fact := allW_ok test_all hw ha hb hc
    unfold testB at fact
    simp only [Bool.and_eq_true, decide_eq_true_eq] at fact
    obtain ⟨f1, f2, f3, f4⟩ := fact
    refine seq_go (asg_go (lit_to (S := [1, 2, 3]) (ρ := rho3 a b c) te_inner (by rfl) (by decide) (env3 rfl rfl rfl) fun iv H1 s1 hi1 => name_go ?_))
    dsimp only [List.set]
    refine seq_go (asg_go (lit_to (S := [1, 2, 3, 4]) (ρ := rho4 a b c 4 (te_inner.d (rho3 a b c))) te_prog (by rfl) (by decide) (env4 rfl rfl rfl rfl hi1 rfl) fun pv1 H2 s2 hp => name_go ?_))
    dsimp only [List.set]
    have hp2 : LitAt H2 pv1 (progD (testP a b)) := hp
    refine seq_go (asg_go (ifl_go (S := [1, 2, 3]) (ρ := rho3 a b c) te_w1 te_w2 (by rfl) (by rfl) (by decide) (by decide) (env3 rfl rfl rfl) rfl rfl fun wv H3 s3 hwk => name_go ?_))
    dsimp only [List.set]
    refine seq_go (ifs_go (test_go (op_go (call_go ⟨_, rfl, _, rfl, lit_to (S := [1, 2, 3]) (ρ := rho3 a b c) te_arg (by rfl) (by decide) (env3 rfl rfl rfl) fun av H4 s4 hav => ?_⟩))))
    dsimp only [tNil, List.cons_append, List.nil_append]
    have s24 := s3.trans s4
    have s14 := (s1.trans s2).trans s24
    refine done_go (x := [a, c, c]) (hy.same s14) (hp2.same s24) hav f1 fun t H5 s5 ht => ?_
    refine lit_to (S := [1, 2, 3, 6]) (ρ := rho4 a b c 6 (wkD a b c)) te_e1 (by rfl) (by decide) (env4 rfl rfl rfl rfl (hwk.same (s4.trans s5)) rfl) fun u H6 s6 hu => ne_go (ht.same s6) hu f2 ⟨_, rfl, ite2 (fun z => absurd z Bool.false_ne_true) fun _ => next_go ?_⟩
    dsimp only
    have s36 := (s4.trans s5).trans s6
    refine seq_go (asg_go (lstl_go (S := [1, 2, 3]) (ρ := rho3 a b c) [te_d1, te_d2] (by rfl) (by decide) (by decide) (env3 rfl rfl rfl) fun p7 v7 H7 s7 h7 l7 => name_go ?_))
    dsimp only [List.set]
    refine seq_go (asg_go (ifr_go (S := [1, 2, 3]) (ρ := rho3 a b c) [te_r1] [te_r2] (by rfl) (by rfl) (by decide) (by decide) (by decide) (by decide) (env3 rfl rfl rfl) rfl rfl fun p8 v8 H8 s8 h8 l8 => name_go ?_))
    dsimp only [List.set]
    have s38 := (s36.trans s7).trans s8
    have all8 := (l7.same s8).app l8
    refine seq_go (asg_go (op_go (op_go ⟨_, rfl, _, rfl, p7, p8, v7, v8, rfl, rfl, s8 _ _ h7, h8, ?_, fun p9 hp9 => lstl_go (S := [1, 2, 3, 6]) (ρ := rho4 a b c 6 (wkD a b c)) [te_last] (by rfl) (by decide) (by decide) (env4 rfl rfl rfl rfl (hwk.same (s38.trans (same_new hp9))) rfl) fun p10 v10 H10 s10 h10 l10 => ⟨p9, p10, _, _, rfl, rfl, s10 _ _ upd_same, h10, ?_, fun p11 hp11 => name_go ?_⟩⟩)))
    · have := all8.len
      rw [List.length_append] at this
      have k : (Lit.ds (rho3 a b c) [te_d1, te_d2] ++ (if a = b then Lit.ds (rho3 a b c) [te_r1] ++ Lit.ds (rho3 a b c) [te_r1] else Lit.ds (rho3 a b c) [te_r2])).length ≤ 20 := by
        unfold dueDs at f4
        rw [List.length_append] at f4
        omega
      rw [sizeLine_eq]
      omega
    · have all10 := (all8.same ((same_new hp9).trans s10)).app l10
      have := all10.len
      rw [List.length_append] at this
      have k : ((Lit.ds (rho3 a b c) [te_d1, te_d2] ++ (if a = b then Lit.ds (rho3 a b c) [te_r1] ++ Lit.ds (rho3 a b c) [te_r1] else Lit.ds (rho3 a b c) [te_r2])) ++ Lit.ds (rho4 a b c 6 (wkD a b c)) [te_last]).length ≤ 20 := f4
      rw [sizeLine_eq]
      omega
    dsimp only [List.set]
    have all11 : LitsAt _ ((v7 ++ v8) ++ v10) (dueDs a b c) := ((all8.same ((same_new hp9).trans s10)).app l10).same (same_new (o := .lst ((v7 ++ v8) ++ v10)) hp11)
    have s311 := (s38.trans ((same_new (o := .lst (v7 ++ v8)) hp9).trans s10)).trans (same_new (o := .lst ((v7 ++ v8) ++ v10)) hp11)
    have h11 : (upd H10 p11 (.lst ((v7 ++ v8) ++ v10))) p11 = some (.lst ((v7 ++ v8) ++ v10)) := upd_same
    generalize upd H10 p11 (.lst ((v7 ++ v8) ++ v10)) = H11 at all11 s311 h11 ⊢
    refine ret_go (op_go (call_go ⟨_, rfl, _, rfl, lit_to (S := [1, 2, 3]) (ρ := rho3 a b c) te_arg (by rfl) (by decide) (env3 rfl rfl rfl) fun av H12 s12 hav2 => ?_⟩))
    dsimp only [tNil, List.cons_append, List.nil_append]
    have s112 := ((s1.trans s2).trans s3).trans (s311.trans s12)
    refine cuts_go (x := [a, c, c]) (hy.same s112) (hp2.same (s3.trans (s311.trans s12))) hav2 f1 fun t2 H13 s13 ht2 => ?_
    refine cb_go (cons_go ⟨_, rfl, p11, _, rfl, .inl ⟨.inl (.inl (s13 _ _ (s12 _ _ h11))), fun t3 ht3 => ?_⟩⟩)
    have s14' := same_new (o := .tup ((v7 ++ v8) ++ v10)) ht3
    refine eq_go (ht2.same s14') (d := cutsD (testP a b) [a, c, c]) (e := .tuple (dueDs a b c)) ?_ f3 (q _ ((s112.trans s13).trans s14'))
    unfold LitAt
    exact ⟨t3, _, rfl, upd_same, all11.same ((s12.trans s13).trans s14')⟩
end
end Sc

namespace Sc
open PySem L2 PySem.Spec PyProof.Rows Lm
/-! ### _law_fails_right -/
abbrev sFails : Stmt := top 90
abbrev nFails : List Str := ["_law_release_here", "_law_x", "_law_y", "_law_z", "_law_deep", "_law_program", "_law_spots", "_law_found", "_law_words", "_law_wakes"]
theorem scFails : FnScope nFails pChk (defScope sFails) := ⟨rfl, rfl, rfl, by decide +kernel, rfl, by decide +kernel, by decide +kernel⟩
def failP (a b c : Str) : List Cmd := [.plain ["wake", "late"], .plain ["wake", "late"], .cond "aa" a [.cond "bb" b [.plain ["set", "cc", a], .plain ["fail"], .plain ["set", "cc", b]] []] [], .plain ["set", "aa", c], .plain ["wake", "early"]]
def failP2 (a : Str) : List Cmd := [.plain ["fail"], .plain ["set", "aa", a], .plain ["fail"]]
def failP3 : List Cmd := [.plain ["fail"]]
def prs (a b c : Str) : List (PyData × PyData) := [(wordsD ["late"], wordsD [a, b, c]), (wordsD ["late"], wordsD [a, b, c]), (wordsD ["late"], wordsD [a, b, a])]
abbrev asIs (q : PyData × PyData) : PyData := .tuple [q.1, q.2]
abbrev swapped (q : PyData × PyData) : PyData := .tuple [q.2, q.1]
theorem lits_get {H : Hp} : ∀ {vs : List V} {ds : List PyData} {i : Nat} {v : V}, LitsAt H vs ds → vs[i]? = some v → ∃ d, ds[i]? = some d ∧ LitAt H v d
  | [], [], i, v, _, h => by simp at h
  | u :: vs, d :: ds, 0, v, h, e => by
    unfold LitsAt at h
    simp at e
    exact ⟨d, rfl, by rw [← e]; exact h.1⟩
  | u :: vs, d :: ds, i + 1, v, h, e => by
    unfold LitsAt at h
    obtain ⟨x, y, z⟩ := lits_get h.2 (by simpa using e)
    exact ⟨x, by simpa using y, z⟩
  | [], _ :: _, _, _, h, _ => by unfold LitsAt at h; exact h.elim
  | _ :: _, [], _, _, h, _ => by unfold LitsAt at h; exact h.elim
theorem lit_pair {H : Hp} {v : V} {d e : PyData} (h : LitAt H v (.tuple [d, e])) : ∃ p x y, v = .ref p ∧ H p = some (.tup [x, y]) ∧ LitAt H x d ∧ LitAt H y e := by
  unfold LitAt at h
  obtain ⟨p, xs, e1, h1, h2⟩ := h
  match xs, h2 with
  | [x, y], h2 =>
    unfold LitsAt at h2
    obtain ⟨h3, h4⟩ := h2
    unfold LitsAt at h4
    exact ⟨p, x, y, e1, h1, h3, h4.1⟩
  | [], h2 => simp [LitsAt] at h2
  | [_], h2 => simp [LitsAt] at h2
  | _ :: _ :: _ :: _, h2 => simp [LitsAt] at h2
theorem pair_lit {H : Hp} {p : Addr} {x y : V} {d e : PyData} (h : H p = some (.tup [x, y])) (hx : LitAt H x d) (hy : LitAt H y e) : LitAt H (.ref p) (.tuple [d, e]) := by
  unfold LitAt
  refine ⟨p, _, rfl, h, ?_⟩
  unfold LitsAt
  refine ⟨hx, ?_⟩
  unfold LitsAt
  refine ⟨hy, ?_⟩
  unfold LitsAt
  exact True.intro
mutual
theorem LitAt.keep {H H' : Hp} (s : Tups H H') : ∀ {v : V} {d : PyData}, LitAt H v d → LitAt H' v d
  | v, .str x, h => by unfold LitAt at h ⊢; exact h
  | v, .bool x, h => by unfold LitAt at h ⊢; exact h
  | v, .tuple ds, h => by
    unfold LitAt at h ⊢
    obtain ⟨a, xs, e, h1, h2⟩ := h
    exact ⟨a, xs, e, s _ _ h1, LitsAt.keep s h2⟩
  | v, .none, h => by unfold LitAt at h; exact h.elim
  | v, .int _, h => by unfold LitAt at h; exact h.elim
  | v, .list _, h => by unfold LitAt at h; exact h.elim
  | v, .dict _, h => by unfold LitAt at h; exact h.elim
theorem LitsAt.keep {H H' : Hp} (s : Tups H H') : ∀ {vs : List V} {ds : List PyData}, LitsAt H vs ds → LitsAt H' vs ds
  | [], [], _ => by unfold LitsAt; exact True.intro
  | v :: vs, d :: ds, h => by
    unfold LitsAt at h ⊢
    exact ⟨LitAt.keep s h.1, LitsAt.keep s h.2⟩
  | [], _ :: _, h => by unfold LitsAt at h; exact h.elim
  | _ :: _, [], h => by unfold LitsAt at h; exact h.elim
end
theorem lits_snoc {H : Hp} {vs : List V} {ds : List PyData} {v : V} {d : PyData} (h : LitsAt H vs ds) (hv : LitAt H v d) : LitsAt H (vs ++ [v]) (ds ++ [d]) := by
  refine h.app ?_
  unfold LitsAt
  refine ⟨hv, ?_⟩
  unfold LitsAt
  exact True.intro
def fa_deep : Lit := .t [.s "if", .s "aa", .v 1, .t [.t [.s "if", .s "bb", .v 2, .t [.t [.s "set", .s "cc", .v 1], .t [.s "fail"], .t [.s "set", .s "cc", .v 2]], .t []]], .t []]
def fa_prog : Lit := .t [.t [.s "wake", .s "late"], .t [.s "wake", .s "late"], .v 4, .t [.s "set", .s "aa", .v 3], .t [.s "wake", .s "early"]]
def fa_spots : Lit := .t [.t [.t [.s "late"], .t [.v 1, .v 2, .v 3]], .t [.t [.s "late"], .t [.v 1, .v 2, .v 3]], .t [.t [.s "late"], .t [.v 1, .v 2, .v 1]]]
def fa_e1 : Lit := .t [.t [.v 1, .v 2, .v 1], .t [.s "late"], .b true]
def fa_p2 : Lit := .t [.t [.s "fail"], .t [.s "set", .s "aa", .v 1], .t [.s "fail"]]
def fa_w2 : Lit := .t [.v 2, .v 2, .v 3]
def fa_e2 : Lit := .t [.t [.v 2, .v 2, .v 3], .t [], .b true]
def fa_p3 : Lit := .t [.t [.s "fail"]]
def fa_e0 : Lit := .t []
def fa_e3 : Lit := .t [.t [.v 1, .v 2, .v 3], .t [], .b false]
def fa_arg : Lit := .t [.v 1, .v 2, .v 3]
def failB (ws : List Str) (a b c : Str) : Bool := (askB ws (failP a b c) [a, b, c] && (eqB (doneD (failP a b c) [a, b, c]) (fa_e1.d (rho3 a b c)) && eqB (cutsD (failP a b c) [a, b, c]) (.tuple ((prs a b c).map swapped)))) &&
  ((askB ws (failP2 a) [b, b, c] && eqB (doneD (failP2 a) [b, b, c]) (fa_e2.d (rho3 a b c))) && ((askB ws failP3 [b, b, c] && eqB (cutsD failP3 [b, b, c]) (.tuple [])) && (askB ws [] [a, b, c] && (eqB (doneD [] [a, b, c]) (fa_e3.d (rho3 a b c)) && eqB (cutsD [] [a, b, c]) (.tuple [])))))
theorem fail_all : allW failB = true := by decide +kernel
section
variable {P : Program} {w : World} {K : PySem.W.Frag} {mg : Str → Option Value} {base : Heap} {CR : Addr}
theorem ok_fails {l : Nat} {f fD fC : Addr} {fd fdD fdC : FuncData} (G : Fun K "_law_fails_right" "_law_fails_right" sFails f fd) (T : NatR mg)
    (GD : FnOk P w K mg base CX0 l fD fdD ["release", "program", "words"] (spDone CR)) (gD : mg "done" = some (.ref fD)) (kD : PySem.W.keepIn K (.ref fD) = true) (bD : Binds K fdD ["release", "program", "words"] [])
    (GC : FnOk P w K mg base CX0 l fC fdC ["release", "program", "words"] (spCuts CR)) (gC : mg "cuts" = some (.ref fC)) (kC : PySem.W.keepIn K (.ref fC) = true) (bC : Binds K fdC ["release", "program", "words"] []) :
    FnOk P w K mg base CX0 (l + 1) f fd pChk (spChk CR) := by
  refine G.ok scFails (fun vs H Q E h => ?_) (fun cdv A outer s H vs Q E hr h => ?_)
  · obtain ⟨y, ws, a, b, c, rfl, _⟩ := h
    rfl
  · obtain ⟨y, ws, a, b, c, rfl, hy, hw, ha, hb, hc, q⟩ := h
    refine ⟨_, pss_cons (ps_set (i := 4) scFails.nd rfl (Or.inl rfl) (pe_tup (pa_cons pe_str (pa_cons pe_str (pa_cons (pv 1) (pa_cons (pe_tup (pa_cons (pe_tup (pa_cons pe_str (pa_cons pe_str (pa_cons (pv 2) (pa_cons (pe_tup (pa_cons (pe_tup (pa_cons pe_str (pa_cons pe_str (pa_cons (pv 1) pa_nil)))) (pa_cons (pe_tup (pa_cons pe_str pa_nil)) (pa_cons (pe_tup (pa_cons pe_str (pa_cons pe_str (pa_cons (pv 2) pa_nil)))) pa_nil)))) (pa_cons (pe_tup pa_nil) pa_nil)))))) pa_nil)) (pa_cons (pe_tup pa_nil) pa_nil)))))))
      (pss_cons (ps_set (i := 5) scFails.nd rfl (Or.inl rfl) (pe_tup (pa_cons (pe_tup (pa_cons pe_str (pa_cons pe_str pa_nil))) (pa_cons (pe_tup (pa_cons pe_str (pa_cons pe_str pa_nil))) (pa_cons (pv 4) (pa_cons (pe_tup (pa_cons pe_str (pa_cons pe_str (pa_cons (pv 3) pa_nil)))) (pa_cons (pe_tup (pa_cons pe_str (pa_cons pe_str pa_nil))) pa_nil)))))))
      (pss_cons (ps_set (i := 6) scFails.nd rfl (Or.inl rfl) (pe_tup (pa_cons (pe_tup (pa_cons (pe_tup (pa_cons pe_str pa_nil)) (pa_cons (pe_tup (pa_cons (pv 1) (pa_cons (pv 2) (pa_cons (pv 3) pa_nil)))) pa_nil))) (pa_cons (pe_tup (pa_cons (pe_tup (pa_cons pe_str pa_nil)) (pa_cons (pe_tup (pa_cons (pv 1) (pa_cons (pv 2) (pa_cons (pv 3) pa_nil)))) pa_nil))) (pa_cons (pe_tup (pa_cons (pe_tup (pa_cons pe_str pa_nil)) (pa_cons (pe_tup (pa_cons (pv 1) (pa_cons (pv 2) (pa_cons (pv 1) pa_nil)))) pa_nil))) pa_nil)))))
      (pss_cons (ps_if (pt_cmpR (op_neD hr.units) (pe_call GD hr (by rfl) gD kD bD .nil pass0 (pa_cons (pv 0) (pa_cons (pv 5) (pa_cons (pe_tup (pa_cons (pv 1) (pa_cons (pv 2) (pa_cons (pv 3) pa_nil)))) pa_nil)))) (pe_tup (pa_cons (pe_tup (pa_cons (pv 1) (pa_cons (pv 2) (pa_cons (pv 1) pa_nil)))) (pa_cons (pe_tup (pa_cons pe_str pa_nil)) (pa_cons pe_bl pa_nil)))) (nomark _)) (pss_one (ps_ret pe_bl)) pss_nil)
      (pss_cons (ps_if (pt_cmpR (op_neD hr.units) (pe_call GC hr (by rfl) gC kC bC .nil pass0 (pa_cons (pv 0) (pa_cons (pv 5) (pa_cons (pe_tup (pa_cons (pv 1) (pa_cons (pv 2) (pa_cons (pv 3) pa_nil)))) pa_nil))))
        (pe_callTy call_tuple_of (by rfl) T.tuple (by decide +kernel) (pa_cons (pe_lc (own := [("_law_words", 8), ("_law_wakes", 9)]) (g := gTup K 2 (gCons (gName 9) (gCons (gName 8) gNil))) (tt := tYes) (te := tTup (tCons (tVar 8) (tCons (tVar 9) tNil))) rfl scFails.nd (pi_tup (pv 6)) (blkOk_by (own := [("_law_words", 8), ("_law_wakes", 9)]) (N := nFails) (sc := defScope sFails) (by decide +kernel))
          (fun _ _ _ _ _ => pg_tup rfl (pgs_cons (pg_name (i := 9) scFails.nd rfl (Or.inl rfl)) (pgs_cons (pg_name (i := 8) scFails.nd rfl (Or.inl rfl)) pgs_nil))) (fun _ _ _ _ _ => pts_nil) (fun _ _ _ _ _ => pe_tup (pa_cons (pv 8) (pa_cons (pv 9) pa_nil)))) pa_nil)) (nomark _)) (pss_one (ps_ret pe_bl)) pss_nil)
      (pss_cons (ps_set (i := 7) scFails.nd rfl (Or.inl rfl) (pe_call GD hr (by rfl) gD kD bD .nil pass0 (pa_cons (pv 0) (pa_cons (pe_tup (pa_cons (pe_tup (pa_cons pe_str pa_nil)) (pa_cons (pe_tup (pa_cons pe_str (pa_cons pe_str (pa_cons (pv 1) pa_nil)))) (pa_cons (pe_tup (pa_cons pe_str pa_nil)) pa_nil)))) (pa_cons (pe_tup (pa_cons (pv 2) (pa_cons (pv 2) (pa_cons (pv 3) pa_nil)))) pa_nil)))))
      (pss_cons (ps_if (PW.pt (pw_or (pt_cmpR (op_neD hr.units) (pv 7) (pe_tup (pa_cons (pe_tup (pa_cons (pv 2) (pa_cons (pv 2) (pa_cons (pv 3) pa_nil)))) (pa_cons (pe_tup pa_nil) (pa_cons pe_bl pa_nil)))) (nomark _)) (pw_or1 (pt_cmpR (op_neD hr.units) (pe_call GC hr (by rfl) gC kC bC .nil pass0 (pa_cons (pv 0) (pa_cons (pe_tup (pa_cons (pe_tup (pa_cons pe_str pa_nil)) pa_nil)) (pa_cons (pe_tup (pa_cons (pv 2) (pa_cons (pv 2) (pa_cons (pv 3) pa_nil)))) pa_nil)))) (pe_tup pa_nil) (nomark _))))) (pss_one (ps_ret pe_bl)) pss_nil)
      (pss_one (ps_ret (pe_and (pe_cmpR (op_eqD hr.units) (pe_call GD hr (by rfl) gD kD bD .nil pass0 (pa_cons (pv 0) (pa_cons (pe_tup pa_nil) (pa_cons (pe_tup (pa_cons (pv 1) (pa_cons (pv 2) (pa_cons (pv 3) pa_nil)))) pa_nil)))) (pe_tup (pa_cons (pe_tup (pa_cons (pv 1) (pa_cons (pv 2) (pa_cons (pv 3) pa_nil)))) (pa_cons (pe_tup pa_nil) (pa_cons pe_bl pa_nil)))) (nomark _))
        (pe_one (pe_cmpR (op_eqD hr.units) (pe_call GC hr (by rfl) gC kC bC .nil pass0 (pa_cons (pv 0) (pa_cons (pe_tup pa_nil) (pa_cons (pe_tup (pa_cons (pv 1) (pa_cons (pv 2) (pa_cons (pv 3) pa_nil)))) pa_nil)))) (pe_tup pa_nil) (nomark _)))))))))))), ?_⟩
    have fact := allW_ok fail_all hw ha hb hc
    unfold failB at fact
    simp only [Bool.and_eq_true] at fact
    obtain ⟨⟨f1, f2, f3⟩, ⟨f4, f5⟩, ⟨f6, f7⟩, f8, f9, f10⟩ := fact
    refine seq_go (asg_go (lit_to (S := [1, 2, 3]) (ρ := rho3 a b c) fa_deep (by rfl) (by decide) (env3 rfl rfl rfl) fun iv H1 s1 hi1 => name_go ?_))
    dsimp only [List.set]
    refine seq_go (asg_go (lit_to (S := [1, 2, 3, 4]) (ρ := rho4 a b c 4 (fa_deep.d (rho3 a b c))) fa_prog (by rfl) (by decide) (env4 rfl rfl rfl rfl hi1 rfl) fun pv1 H2 s2 hp => name_go ?_))
    dsimp only [List.set]
    have hp2 : LitAt H2 pv1 (progD (failP a b c)) := hp
    refine seq_go (asg_go (lit_to (S := [1, 2, 3]) (ρ := rho3 a b c) fa_spots (by rfl) (by decide) (env3 rfl rfl rfl) fun sv H3 s3 hsp => name_go ?_))
    dsimp only [List.set]
    have hsp3 : LitAt H3 sv (.tuple ((prs a b c).map asIs)) := hsp
    unfold LitAt at hsp3
    obtain ⟨ps, xs, rfl, hps, lxs⟩ := hsp3
    have s13 := (s1.trans s2).trans s3
    refine seq_go (ifs_go (test_go (op_go (call_go ⟨_, rfl, _, rfl, lit_to (S := [1, 2, 3]) (ρ := rho3 a b c) fa_arg (by rfl) (by decide) (env3 rfl rfl rfl) fun av H4 s4 hav => ?_⟩))))
    dsimp only [tNil, List.cons_append, List.nil_append]
    refine done_go (x := [a, b, c]) (hy.same (s13.trans s4)) (hp2.same (s3.trans s4)) hav f1 fun t H5 s5 ht => ?_
    refine lit_to (S := [1, 2, 3]) (ρ := rho3 a b c) fa_e1 (by rfl) (by decide) (env3 rfl rfl rfl) fun u H6 s6 hu => ne_go (ht.same s6) hu f2 ⟨_, rfl, ite2 (fun z => absurd z Bool.false_ne_true) fun _ => next_go ?_⟩
    dsimp only
    have s36 := (s4.trans s5).trans s6
    refine seq_go (ifs_go (test_go (op_go (call_go ⟨_, rfl, _, rfl, lit_to (S := [1, 2, 3]) (ρ := rho3 a b c) fa_arg (by rfl) (by decide) (env3 rfl rfl rfl) fun av H7 s7 hav => ?_⟩))))
    dsimp only [tNil, List.cons_append, List.nil_append]
    have s37 := s36.trans s7
    refine cuts_go (x := [a, b, c]) (hy.same (s13.trans s37)) (hp2.same (s3.trans s37)) hav f1 fun t H8 s8 ht => ?_
    have s38 := s37.trans s8
    have hps8 := s38 _ _ hps
    have lxs8 := lxs.same s38
    have len3 : xs.length = 3 := lxs.len
    refine cb_go (cons_go ⟨_, rfl, ps, rfl, ⟨xs, .inl (.inl hps8)⟩, fun D hD => ?_⟩)
    refine lc_tup (xs := xs) (fun i H => Same H8 H ∧ ∃ acc, H D = some (.lst acc) ∧ LitsAt H acc (((prs a b c).take i).map swapped)) ⟨same_new hD, [], upd_same, by unfold LitsAt; exact True.intro⟩ (fun i H _ p => .inl (.inl (p.1 _ _ hps8))) (fun i v H hv ⟨k1, acc, hacc, lacc⟩ => ?_) (fun H ⟨k1, acc, hacc, lacc⟩ => ?_)
    · obtain ⟨d, hd, lv⟩ := lits_get lxs8 hv
      rw [List.getElem?_map] at hd
      obtain ⟨qq, hq, rfl⟩ : ∃ qq, (prs a b c)[i]? = some qq ∧ asIs qq = d := by
        cases e : (prs a b c)[i]? with
        | none => rw [e] at hd; cases hd
        | some qq => rw [e] at hd; exact ⟨qq, rfl, Option.some.inj hd⟩
      obtain ⟨p, x1, y1, rfl, hpp, lx, ly⟩ := lit_pair lv
      refine ⟨p, _, rfl, .inl (.inl (k1 _ _ hpp)), rfl, _, _, rfl, name_go ⟨_, _, rfl, name_go ⟨rfl, rfl, yes_go (true_go ⟨_, rfl, _, rfl, (by show 2 ≤ sizeLine; decide), fun p2 hp2 => ⟨acc, (same_new hp2) _ _ hacc, ?_, fun bb u hbb => ?_, _, upd_same, ?_⟩⟩)⟩⟩⟩
      · have := lacc.len
        rw [List.length_map, List.length_take] at this
        have : (prs a b c).length = 3 := rfl
        rw [sizeLine_eq]
        omega
      · rw [upd_ne (fun z => by rw [z, hD] at hbb; cases hbb)]
        exact (same_new hp2) _ _ (k1 _ _ hbb)
      · have eD := hacc
        have tD : Tups H (upd (upd H p2 (.tup [y1, x1])) D (.lst (acc ++ [V.ref p2]))) := fun a0 xs0 h0 => by
          rw [upd_ne (fun z => by rw [z, hacc] at h0; cases h0)]
          exact (same_new hp2) _ _ h0
        have nDp : p2 ≠ D := fun z => by rw [z, hacc] at hp2; cases hp2
        have ex : (upd (upd H p2 (.tup [y1, x1])) D (.lst (acc ++ [V.ref p2]))) p2 = some (.tup [y1, x1]) := by rw [upd_ne nDp, upd_same]
        rw [List.take_add_one, hq, List.map_append]
        exact lits_snoc (lacc.keep tD) (pair_lit ex ((ly.same k1).keep tD) ((lx.same k1).keep tD))
    · have hl : ((prs a b c).take xs.length).map swapped = (prs a b c).map swapped := by rw [len3]; rfl
      rw [hl] at lacc
      refine ⟨D, acc, rfl, .inl ⟨.inl (.inl hacc), fun t2 ht2 => ?_⟩⟩
      have s9 := k1.trans (same_new (o := .tup acc) ht2)
      have lt2 : LitAt (upd H t2 (.tup acc)) (.ref t2) (.tuple ((prs a b c).map swapped)) := by
        unfold LitAt
        exact ⟨t2, _, rfl, upd_same, lacc.same (same_new ht2)⟩
      refine ne_go (ht.same s9) lt2 f3 ⟨_, rfl, ite2 (fun z => absurd z Bool.false_ne_true) fun _ => next_go ?_⟩
      dsimp only
      have s39 := s38.trans s9
      generalize upd H t2 (.tup acc) = H9 at s39 ⊢
      have sA := s13.trans s39
      refine seq_go (asg_go (call_go ⟨_, rfl, lit_to (S := [1, 2, 3]) (ρ := rho3 a b c) fa_p2 (by rfl) (by decide) (env3 rfl rfl rfl) fun pv2 G1 g1 hq2 => lit_to (S := [1, 2, 3]) (ρ := rho3 a b c) fa_w2 (by rfl) (by decide) (env3 rfl rfl rfl) fun av2 G2 g2 hw2 => ?_⟩))
      dsimp only [tNil, List.cons_append, List.nil_append]
      have hq2' : LitAt G1 pv2 (progD (failP2 a)) := hq2
      refine done_go (x := [b, b, c]) (hy.same (sA.trans (g1.trans g2))) (hq2'.same g2) hw2 f4 fun t4 G3 g3 ht4 => name_go ?_
      have sB := sA.trans ((g1.trans g2).trans g3)
      refine seq_go (ifs_go (or_go (test_go (op_go ⟨_, rfl, lit_to (S := [1, 2, 3]) (ρ := rho3 a b c) fa_e2 (by rfl) (by decide) (env3 rfl rfl rfl) fun u4 G4 g4 hu4 => ne_go (ht4.same g4) hu4 f5 ⟨_, rfl, ite2 (fun z => absurd z Bool.false_ne_true) fun _ => ?_⟩⟩))))
      refine test_go (op_go (call_go ⟨_, rfl, lit_to (S := [1, 2, 3]) (ρ := rho3 a b c) fa_p3 (by rfl) (by decide) (env3 rfl rfl rfl) fun pv3 G5 g5 hq3 => lit_to (S := [1, 2, 3]) (ρ := rho3 a b c) fa_w2 (by rfl) (by decide) (env3 rfl rfl rfl) fun av3 G6 g6 hw3 => ?_⟩))
      dsimp only [tNil, List.cons_append, List.nil_append]
      have hq3' : LitAt G5 pv3 (progD failP3) := hq3
      have sC := (sB.trans g4).trans (g5.trans g6)
      refine cuts_go (x := [b, b, c]) (hy.same sC) (hq3'.same g6) hw3 f6 fun t5 G7 g7 ht5 => ?_
      refine lit_to (S := []) (ρ := rho3 a b c) fa_e0 (by rfl) (by decide) (fun i hi => nomatch hi) fun u5 G8 g8 hu5 => ne_go (ht5.same g8) hu5 f7 ⟨_, rfl, ite2 (fun z => absurd z Bool.false_ne_true) fun _ => next_go ?_⟩
      dsimp only
      have sD := (sC.trans g7).trans g8
      refine ret_go (op_go (call_go ⟨_, rfl, lit_to (S := []) (ρ := rho3 a b c) fa_e0 (by rfl) (by decide) (fun i hi => nomatch hi) fun pv4 F1 h1 hq4 => lit_to (S := [1, 2, 3]) (ρ := rho3 a b c) fa_arg (by rfl) (by decide) (env3 rfl rfl rfl) fun av4 F2 h2 hw4 => ?_⟩))
      dsimp only [tNil, List.cons_append, List.nil_append]
      have hq4' : LitAt F1 pv4 (progD []) := hq4
      have sE := sD.trans (h1.trans h2)
      refine done_go (x := [a, b, c]) (hy.same sE) (hq4'.same h2) hw4 f8 fun t6 F3 h3 ht6 => ?_
      refine lit_to (S := [1, 2, 3]) (ρ := rho3 a b c) fa_e3 (by rfl) (by decide) (env3 rfl rfl rfl) fun u6 F4 h4 hu6 => eq_go (ht6.same h4) hu6 f9 (tst_go (ite2 (fun _ => ?_) fun z => absurd rfl z))
      have sF := (sE.trans h3).trans h4
      refine op_go (call_go ⟨_, rfl, lit_to (S := []) (ρ := rho3 a b c) fa_e0 (by rfl) (by decide) (fun i hi => nomatch hi) fun pv5 F5 h5 hq5 => lit_to (S := [1, 2, 3]) (ρ := rho3 a b c) fa_arg (by rfl) (by decide) (env3 rfl rfl rfl) fun av5 F6 h6 hw5 => ?_⟩)
      dsimp only [tNil, List.cons_append, List.nil_append]
      have hq5' : LitAt F5 pv5 (progD []) := hq5
      have sG := sF.trans (h5.trans h6)
      refine cuts_go (x := [a, b, c]) (hy.same sG) (hq5'.same h6) hw5 f8 fun t7 F7 h7 ht7 => ?_
      refine lit_to (S := []) (ρ := rho3 a b c) fa_e0 (by rfl) (by decide) (fun i hi => nomatch hi) fun u7 F8 h8 hu7 => eq_go (ht7.same h8) hu7 f10 ?_
      exact q F8 ((sG.trans h7).trans h8)
end
end Sc

namespace Sc
open PySem L2 PySem.Spec PyProof.Rows Lm
/-! ### _law_still_right -/
abbrev sStill : Stmt := top 91
abbrev nStill : List Str := ["_law_release_here", "_law_x", "_law_y", "_law_z", "_law_same", "_law_here", "_law_other"]
theorem scStill : FnScope nStill pChk (defScope sStill) := ⟨rfl, rfl, rfl, by decide +kernel, rfl, by decide +kernel, by decide +kernel⟩
def stillP (a c : Str) : List Cmd := [.plain ["set", "aa", a], .plain ["copy", "bb", "bb"], .cond "cc" c [.plain ["set", "cc", c]] [], .plain ["wake", "early"]]
def otherP (a b : Str) : List Cmd := if a = b then [.cond "aa" a [.plain ["set", "aa", a]] []] else [.cond "aa" b [.plain ["fail"]] []]
def sr_same : Lit := .t [.t [.s "set", .s "aa", .v 1], .t [.s "copy", .s "bb", .s "bb"], .t [.s "if", .s "cc", .v 3, .t [.t [.s "set", .s "cc", .v 3]], .t []], .t [.s "wake", .s "early"]]
def sr_here : Lit := .t [.v 1, .v 2, .v 3]
def sr_t1 : Lit := .t [.t [.v 5, .t []]]
def sr_t2 : Lit := .t [.t [.v 5, .t [.s "early"]]]
def sr_o1 : Lit := .t [.s "if", .s "aa", .v 2, .t [.t [.s "fail"]], .t []]
def sr_o2 : Lit := .t [.s "if", .s "aa", .v 1, .t [.t [.s "set", .s "aa", .v 1]], .t []]
def sr_p2 : Lit := .t [.v 6]
def sr_e2 : Lit := .t [.v 5, .t [], .b false]
def stillDs (a b c : Str) : List PyData := (List.replicate 3 [PyData.tuple [wordsD [a, b, c], wordsD []]]).flatten ++ [.tuple [wordsD [a, b, c], wordsD ["early"]]]
def stillB (ws : List Str) (a b c : Str) : Bool := (askB ws (stillP a c) [a, b, c] && eqB (cutsD (stillP a c) [a, b, c]) (.tuple (stillDs a b c))) &&
  (askB ws (otherP a b) [a, b, c] && (eqB (doneD (otherP a b) [a, b, c]) (.tuple [wordsD [a, b, c], wordsD [], .bool false]) && decide ((runL lawNames (otherP a b) ([a, b, c], [])).1.length = if a = b then 1 else 0)))
theorem still_all : allW stillB = true := by decide +kernel
section
variable {P : Program} {w : World} {K : PySem.W.Frag} {mg : Str → Option Value} {base : Heap} {CR : Addr}
theorem ok_still {l : Nat} {f fD fC : Addr} {fd fdD fdC : FuncData} (G : Fun K "_law_still_right" "_law_still_right" sStill f fd) (T : NatR mg)
    (GD : FnOk P w K mg base CX0 l fD fdD ["release", "program", "words"] (spDone CR)) (gD : mg "done" = some (.ref fD)) (kD : PySem.W.keepIn K (.ref fD) = true) (bD : Binds K fdD ["release", "program", "words"] [])
    (GC : FnOk P w K mg base CX0 l fC fdC ["release", "program", "words"] (spCuts CR)) (gC : mg "cuts" = some (.ref fC)) (kC : PySem.W.keepIn K (.ref fC) = true) (bC : Binds K fdC ["release", "program", "words"] []) :
    FnOk P w K mg base CX0 (l + 1) f fd pChk (spChk CR) := by
  refine G.ok scStill (fun vs H Q E h => ?_) (fun cdv A outer s H vs Q E hr h => ?_)
  · obtain ⟨y, ws, a, b, c, rfl, _⟩ := h
    rfl
  · obtain ⟨y, ws, a, b, c, rfl, hy, hw, ha, hb, hc, q⟩ := h
    refine ⟨_, pss_cons (ps_set (i := 4) scStill.nd rfl (Or.inl rfl) (pe_tup (pa_cons (pe_tup (pa_cons pe_str (pa_cons pe_str (pa_cons (pv 1) pa_nil)))) (pa_cons (pe_tup (pa_cons pe_str (pa_cons pe_str (pa_cons pe_str pa_nil)))) (pa_cons (pe_tup (pa_cons pe_str (pa_cons pe_str (pa_cons (pv 3) (pa_cons (pe_tup (pa_cons (pe_tup (pa_cons pe_str (pa_cons pe_str (pa_cons (pv 3) pa_nil)))) pa_nil)) (pa_cons (pe_tup pa_nil) pa_nil)))))) (pa_cons (pe_tup (pa_cons pe_str (pa_cons pe_str pa_nil))) pa_nil))))))
      (pss_cons (ps_set (i := 5) scStill.nd rfl (Or.inl rfl) (pe_tup (pa_cons (pv 1) (pa_cons (pv 2) (pa_cons (pv 3) pa_nil)))))
      (pss_cons (ps_if (pt_cmpR (op_neD hr.units) (pe_call GC hr (by rfl) gC kC bC .nil pass0 (pa_cons (pv 0) (pa_cons (pv 4) (pa_cons (pv 5) pa_nil)))) (pe_op op_catT (pe_op op_repT (pe_tup (pa_cons (pe_tup (pa_cons (pv 5) (pa_cons (pe_tup pa_nil) pa_nil))) pa_nil)) pe_int) (pe_tup (pa_cons (pe_tup (pa_cons (pv 5) (pa_cons (pe_tup (pa_cons pe_str pa_nil)) pa_nil))) pa_nil))) (nomark _)) (pss_one (ps_ret pe_bl)) pss_nil)
      (pss_cons (ps_set (i := 6) scStill.nd rfl (Or.inl rfl) (pe_ifExp (pt_cmpR op_ne (pv 1) (pv 2) (nomark _)) (pe_tup (pa_cons pe_str (pa_cons pe_str (pa_cons (pv 2) (pa_cons (pe_tup (pa_cons (pe_tup (pa_cons pe_str pa_nil)) pa_nil)) (pa_cons (pe_tup pa_nil) pa_nil)))))) (pe_tup (pa_cons pe_str (pa_cons pe_str (pa_cons (pv 1) (pa_cons (pe_tup (pa_cons (pe_tup (pa_cons pe_str (pa_cons pe_str (pa_cons (pv 1) pa_nil)))) pa_nil)) (pa_cons (pe_tup pa_nil) pa_nil))))))))
      (pss_one (ps_ret (pe_and (pe_cmpR (op_eqD hr.units) (pe_call GD hr (by rfl) gD kD bD .nil pass0 (pa_cons (pv 0) (pa_cons (pe_tup (pa_cons (pv 6) pa_nil)) (pa_cons (pv 5) pa_nil)))) (pe_tup (pa_cons (pv 5) (pa_cons (pe_tup pa_nil) (pa_cons pe_bl pa_nil)))) (nomark _))
        (pe_one (pe_cmpR op_eq (pe_callB call_len_seq (by rfl) T.len PySem.boot_len (pa_cons (pe_call GC hr (by rfl) gC kC bC .nil pass0 (pa_cons (pv 0) (pa_cons (pe_tup (pa_cons (pv 6) pa_nil)) (pa_cons (pv 5) pa_nil)))) pa_nil))
          (pe_callTy call_int1 (by rfl) T.int (by decide +kernel) (pa_cons (pe_cmpR op_eq (pv 1) (pv 2) (nomark _)) pa_nil)) (nomark _))))))))), ?_⟩
    have fact := allW_ok still_all hw ha hb hc
    unfold stillB at fact
    simp only [Bool.and_eq_true, decide_eq_true_eq] at fact
    obtain ⟨⟨f1, f2⟩, f3, f4, f5⟩ := fact
    refine seq_go (asg_go (lit_to (S := [1, 2, 3]) (ρ := rho3 a b c) sr_same (by rfl) (by decide) (env3 rfl rfl rfl) fun pv1 H1 s1 hp => name_go ?_))
    dsimp only [List.set]
    have hp1 : LitAt H1 pv1 (progD (stillP a c)) := hp
    refine seq_go (asg_go (lit_to (S := [1, 2, 3]) (ρ := rho3 a b c) sr_here (by rfl) (by decide) (env3 rfl rfl rfl) fun hv H2 s2 hh => name_go ?_))
    dsimp only [List.set]
    have hh2 : LitAt H2 hv (wordsD [a, b, c]) := hh
    have s12 := s1.trans s2
    refine seq_go (ifs_go (test_go (op_go (call_go ⟨_, rfl, _, rfl, _, rfl, ?_⟩))))
    dsimp only [tNil, List.cons_append, List.nil_append]
    refine cuts_go (x := [a, b, c]) (hy.same s12) (hp1.same s2) hh2 f1 fun t H3 s3 ht => ?_
    refine op_go (op_go ?_)
    refine (lit_to (S := [1, 2, 3, 5]) (ρ := rho4 a b c 5 (wordsD [a, b, c])) sr_t1 (by rfl) (by decide) (by exact env4 rfl rfl rfl rfl (hh2.same s3) rfl) fun v1 H4 s4 l1 => tc_go ?_)
    have l1' : LitAt H4 v1 (.tuple [.tuple [wordsD [a, b, c], wordsD []]]) := l1
    unfold LitAt at l1'
    obtain ⟨p1, x1, rfl, hx1, lx1⟩ := l1'
    have n1 : x1.length = 1 := lx1.len
    refine ⟨p1, 3, x1, rfl, rfl, .inl (.inl hx1), (fun z => by rw [z] at n1; cases n1), by decide, by decide, by omega, fun p2 hp2 => ?_⟩
    have s5 := same_new (o := .tup (List.replicate (3 : Int).toNat x1).flatten) hp2
    dsimp only
    refine lit_to (S := [1, 2, 3, 5]) (ρ := rho4 a b c 5 (wordsD [a, b, c])) sr_t2 (by rfl) (by decide) (by exact env4 rfl rfl rfl rfl (hh2.same ((s3.trans s4).trans s5)) rfl) fun v2 H6 s6 l2 => ?_
    have l2' : LitAt H6 v2 (.tuple [.tuple [wordsD [a, b, c], wordsD ["early"]]]) := l2
    unfold LitAt at l2'
    obtain ⟨p3, x2, rfl, hx2, lx2⟩ := l2'
    have n2 : x2.length = 1 := lx2.len
    have e3 : (List.replicate (3 : Int).toNat x1).flatten = x1 ++ (x1 ++ (x1 ++ [])) := rfl
    have len3 : (List.replicate (3 : Int).toNat x1).flatten.length = 3 := by
      rw [e3, List.length_append, List.length_append, List.length_append, n1]
      rfl
    refine ⟨p2, p3, (List.replicate (3 : Int).toNat x1).flatten, x2, rfl, rfl, .inl (.inl (s6 _ _ upd_same)), .inl (.inl hx2), (fun z => by rw [z] at len3; cases len3), (by rw [len3, n2]; decide), (fun z => by rw [z] at n2; cases n2), fun _ p4 hp4 => ?_⟩
    have s7 := same_new (o := .tup ((List.replicate (3 : Int).toNat x1).flatten ++ x2)) hp4
    have lall : LitAt (upd H6 p4 (.tup ((List.replicate (3 : Int).toNat x1).flatten ++ x2))) (.ref p4) (.tuple (stillDs a b c)) := by
      unfold LitAt
      have k1 := lx1.same ((s5.trans s6).trans s7)
      exact ⟨p4, _, rfl, upd_same, ((k1.app (k1.app (k1.app (by unfold LitsAt; exact True.intro)))).app (lx2.same s7))⟩
    have s47 := ((s4.trans s5).trans s6).trans s7
    refine ne_go (ht.same s47) lall f2 ⟨_, rfl, ite2 (fun z => absurd z Bool.false_ne_true) fun _ => next_go ?_⟩
    dsimp only
    have s37 := s3.trans s47
    generalize upd H6 p4 (.tup ((List.replicate (3 : Int).toNat x1).flatten ++ x2)) = H7 at s37 ⊢
    have s17 := s12.trans s37
    refine seq_go (asg_go (ifn_go (S := [1, 2, 3]) (ρ := rho3 a b c) sr_o1 sr_o2 (by rfl) (by rfl) (by decide) (by decide) (env3 rfl rfl rfl) rfl rfl fun ov H8 s8 lo => name_go ?_))
    dsimp only [List.set]
    have s28 := s37.trans s8
    have s18 := s12.trans s28
    have hpo : ∀ {H : Hp} {v : V}, LitAt H v (.tuple [if a = b then sr_o2.d (rho3 a b c) else sr_o1.d (rho3 a b c)]) → LitAt H v (progD (otherP a b)) := fun {H v} h => by
      unfold otherP
      by_cases z : a = b
      · rw [if_pos z] at h ⊢
        exact h
      · rw [if_neg z] at h ⊢
        exact h
    refine ret_go (op_go (call_go ⟨_, rfl, lit_to (S := [1, 2, 3, 6]) (ρ := rho4 a b c 6 (if a = b then sr_o2.d (rho3 a b c) else sr_o1.d (rho3 a b c))) sr_p2 (by rfl) (by decide) (by exact env4 rfl rfl rfl rfl lo rfl) fun pv2 G1 g1 lp => ⟨_, rfl, ?_⟩⟩))
    dsimp only [tNil, List.cons_append, List.nil_append]
    refine done_go (x := [a, b, c]) (hy.same (s18.trans g1)) (hpo lp) (hh2.same (s28.trans g1)) f3 fun t2 G2 g2 ht2 => ?_
    refine lit_to (S := [1, 2, 3, 5]) (ρ := rho4 a b c 5 (wordsD [a, b, c])) sr_e2 (by rfl) (by decide) (by exact env4 rfl rfl rfl rfl (hh2.same ((s28.trans g1).trans g2)) rfl) fun u2 G3 g3 hu2 => eq_go (ht2.same g3) (e := .tuple [wordsD [a, b, c], wordsD [], .bool false]) hu2 f4 (tst_go (ite2 (fun _ => ?_) fun z => absurd rfl z))
    have g13 := (g1.trans g2).trans g3
    refine op_go (cb_go (cons_go (call_go ⟨_, rfl, lit_to (S := [1, 2, 3, 6]) (ρ := rho4 a b c 6 (if a = b then sr_o2.d (rho3 a b c) else sr_o1.d (rho3 a b c))) sr_p2 (by rfl) (by decide) (by exact env4 rfl rfl rfl rfl (lo.same g13) rfl) fun pv3 G4 g4 lp3 => ⟨_, rfl, ?_⟩⟩)))
    dsimp only [tNil, List.cons_append, List.nil_append]
    refine cuts_go (x := [a, b, c]) (hy.same (s18.trans (g13.trans g4))) (hpo lp3) (hh2.same (s28.trans (g13.trans g4))) f3 fun t3 G5 g5 ht3 => ?_
    unfold cutsD LitAt at ht3
    obtain ⟨p5, us, rfl, h5, l5⟩ := ht3
    have n5 : us.length = (runL lawNames (otherP a b) ([a, b, c], [])).1.length := by
      rw [l5.len, List.length_map]
    refine ⟨p5, us, rfl, .inr (.inl (.inl h5)), ?_⟩
    refine cb_go (cons_go (op_go ⟨_, rfl, _, rfl, rfl, .inr ⟨_, rfl, rfl, ?_⟩⟩))
    have ee : decide (V.int (us.length : Int) = V.int (if decide (V.str a = V.str b) = true then 1 else 0)) = true := by
      rw [n5, f5, str_dec]
      by_cases z : a = b
      · rw [if_pos z, decide_eq_true z]
        rfl
      · rw [if_neg z, decide_eq_false z]
        rfl
    rw [ee]
    exact q G5 ((s18.trans (g13.trans g4)).trans g5)
end
end Sc

namespace Sc
open PySem L2 PySem.Spec PyProof.Rows Lm
/-! ### law -/
abbrev sLaw : Stmt := top 92
abbrev nLaw : List Str := ["_law_script", "_law_k", "_law_pot", "_law_turn", "_law_words", "_law_release_here", "_law_some", "_law_told", "_law_spot"]
theorem scLaw : FnScope nLaw ["_law_script"] (defScope sLaw) := ⟨rfl, rfl, rfl, by decide +kernel, rfl, by decide +kernel, by decide +kernel⟩
structure NatL (mg : Str → Option Value) : Prop where
  range : mg "range" = none
  max : mg "max" = none
  min : mg "min" = none
  len : mg "len" = none
  all : mg "all" = none
def spLaw (TT : List (Addr × Str)) (K : PySem.W.Frag) : Sp := fun vs H Q _ => ∃ (a : Addr) (ns : List Int), vs = [.ref a] ∧ SqL K H a (ns.map V.int) ∧ ns.length ≤ 63 ∧ LamX.Tabs TT H ∧ ∀ H', Q (.bl true) H'
/-- what the script's standing rests on -/
theorem scr {K : PySem.W.Frag} {H : Hp} {a : Addr} {xs : List V} (h : SqL K H a xs) : ∃ R : Hp → Prop, R H ∧ (∀ H, R H → SqL K H a xs) ∧ (∀ H H', R H → OffN [] H H' → R H') ∧ ∀ H0 p, R H0 → H0 p = none → ∀ H H', R H → SameBut p H H' → R H' := by
  have one : ∀ u, H a = some u → (∀ ps, u ≠ .tbl ps) → (∀ H, H a = some u → SqL K H a xs) → ∃ R : Hp → Prop, R H ∧ (∀ H, R H → SqL K H a xs) ∧ (∀ H H', R H → OffN [] H H' → R H') ∧ ∀ H0 p, R H0 → H0 p = none → ∀ H H', R H → SameBut p H H' → R H' := fun u hu nt f =>
    ⟨fun H => H a = some u, hu, f, fun H H' r o => o _ _ (by simp) r nt, fun H0 p r0 hp H H' r s => s _ _ r (fun z => by rw [← z, r0] at hp; cases hp)⟩
  rcases h with (h | ⟨o, h⟩) | h
  · exact one _ h (fun ps z => by cases z) fun H e => .inl (.inl e)
  · exact one _ h (fun ps z => by cases z) fun H e => .inl (.inr ⟨o, e⟩)
  · exact ⟨fun _ => True, True.intro, fun _ _ => .inr h, fun _ _ _ _ => True.intro, fun _ _ _ _ _ _ _ _ => True.intro⟩
theorem SameBut.tabs2 {TT : List (Addr × Str)} {p : Addr} {H H' : Hp} {xs : List V} (s : SameBut p H H') (e : H p = some (.lst xs)) (t : LamX.Tabs TT H) : LamX.Tabs TT H' :=
  Tabs.off t (F := [p]) (fun a ha => by rw [List.mem_singleton.mp ha]; exact ⟨_, e, .inl ⟨_, rfl⟩⟩) fun a u na ea => s _ _ ea fun z => na (by rw [z]; simp)
theorem SameBut.re2 {p CR : Addr} {y : Re} {cm : List (Str × List Str)} {tr : List Str} {H H' : Hp} {xs : List V} (s : SameBut p H H') (e : H p = some (.lst xs)) (h : y.At CR cm tr H) : y.At CR cm tr H' := by
  obtain ⟨ob, hc, hd⟩ := h.cells
  obtain ⟨ks, hw, dw⟩ := h.words
  exact ⟨s _ _ h.obj (oKinds h.obj e fun z => by cases z), ⟨ob, s _ _ hc (oKinds hc e fun z => by cases z), hd⟩, ⟨ks, s _ _ hw (oKinds hw e fun z => by cases z), dw.imp fun v ws ⟨q, e1, hq⟩ => ⟨q, e1, s _ _ hq (oKinds hq e fun z => by cases z)⟩⟩, h.wok, s _ _ h.trig (oKinds h.trig e fun z => by cases z), h.few⟩
theorem SameBut.tabs {TT : List (Addr × Str)} {p : Addr} {H H' : Hp} {N : Nat} (s : SameBut p H H') (hp : PotAt H p N) (t : LamX.Tabs TT H) : LamX.Tabs TT H' := by
  obtain ⟨o, m, c, e, _⟩ := hp.ex
  exact s.tabs2 e t
theorem SameBut.re {p CR : Addr} {y : Re} {cm : List (Str × List Str)} {tr : List Str} {H H' : Hp} {N : Nat} (s : SameBut p H H') (hp : PotAt H p N) (h : y.At CR cm tr H) : y.At CR cm tr H' := by
  obtain ⟨o, m, c, e, _⟩ := hp.ex
  exact s.re2 e h
theorem but_upd {p : Addr} {H : Hp} {o : HO} : SameBut p H (upd H p o) := fun b u e nb => (upd_ne nb).trans e
theorem PotAt.off {p : Addr} {H H' : Hp} {N : Nat} (h : PotAt H p N) (o : OffN [] H H') : PotAt H' p N := by
  obtain ⟨a, m, c, e, r⟩ := h.ex
  exact ⟨a, m, c, o _ _ (by simp) e (fun ps z => by cases z), r⟩
theorem OffN.of {H H' : Hp} (s : Same H H') : OffN [] H H' := fun a o _ e _ => s _ _ e
theorem three_of {α : Type} {xs : List α} (h : xs.length = 3) : ∃ x y z, xs = [x, y, z] := by
  match xs, h with
  | [x, y, z], _ => exact ⟨x, y, z, rfl⟩
section
variable {P : Program} {w : World} {K : PySem.W.Frag} {mg : Str → Option Value} {base : Heap} {CR : Addr}
theorem ok_law {l : Nat} {f fP fO fL f1 f2 f3 f4 : Addr} {fd fdP fdO fdL fd1 fd2 fd3 fd4 : FuncData} {TT : List (Addr × Str)} (hl3 : 3 ≤ l) (G : Fun K "law" "law" sLaw f fd) (T : NatL mg)
    (GP : FnOk P w K mg base CX0 1 fP fdP ["_law_script", "_law_k"] (spPot K)) (gP : mg "_law_pot_of" = some (.ref fP)) (kP : PySem.W.keepIn K (.ref fP) = true) (bP : Binds K fdP ["_law_script", "_law_k"] [])
    (GO : FnOk P w K mg base CX0 2 fO fdO ["_law_pot", "_law_some"] (spOf K)) (gO : mg "_law_of" = some (.ref fO)) (kO : PySem.W.keepIn K (.ref fO) = true) (bO : Binds K fdO ["_law_pot", "_law_some"] [])
    (GL : FnOk P w K mg base CX0 l fL fdL ["_law_words"] (spLRel TT CR)) (gL : mg "_law_release" = some (.ref fL)) (kL : PySem.W.keepIn K (.ref fL) = true) (bL : Binds K fdL ["_law_words"] [])
    (G1 : FnOk P w K mg base CX0 l f1 fd1 pChk (spChk CR)) (g1 : mg "_law_turned_right" = some (.ref f1)) (k1 : PySem.W.keepIn K (.ref f1) = true) (b1 : Binds K fd1 pChk [])
    (G2 : FnOk P w K mg base CX0 l f2 fd2 pChk (spChk CR)) (g2 : mg "_law_tests_right" = some (.ref f2)) (k2 : PySem.W.keepIn K (.ref f2) = true) (b2 : Binds K fd2 pChk [])
    (G3 : FnOk P w K mg base CX0 l f3 fd3 pChk (spChk CR)) (g3 : mg "_law_fails_right" = some (.ref f3)) (k3 : PySem.W.keepIn K (.ref f3) = true) (b3 : Binds K fd3 pChk [])
    (G4 : FnOk P w K mg base CX0 l f4 fd4 pChk (spChk CR)) (g4 : mg "_law_still_right" = some (.ref f4)) (k4 : PySem.W.keepIn K (.ref f4) = true) (b4 : Binds K fd4 pChk []) :
    FnOk P w K mg base CX0 (l + 1) f fd ["_law_script"] (spLaw TT K) := by
  refine G.ok scLaw (fun vs H Q E h => ?_) (fun cdv A outer s H vs Q E hr h => ?_)
  · obtain ⟨a, ns, rfl, _⟩ := h
    rfl
  · obtain ⟨a, ns, rfl, hS, hl, tab, q⟩ := h
    refine ⟨_, pss_cons (ps_for PassesOwn.never rfl (pi_range1 (by rfl) T.range (pa_cons (pe_callB (call_max2 rfl) (by rfl) T.max (by decide +kernel) (pa_cons pe_int (pa_cons (pe_callB (call_min2 rfl) (by rfl) T.min (by decide +kernel)
            (pa_cons pe_int (pa_cons (pe_callB call_len_seq (by rfl) T.len PySem.boot_len (pa_cons (pv 0) pa_nil)) pa_nil))) pa_nil))) pa_nil)) (pg_name (i := 1) scLaw.nd rfl (Or.inl rfl))
          (pss_cons (ps_set (i := 2) scLaw.nd rfl (Or.inr rfl) (pe_call GP (hr.mono (by omega)) (by rfl) gP kP bP .nil pass0 (pa_cons (pv 0) (pa_cons (pv 1) pa_nil))))
          (pss_one (ps_for PassesOwn.never rfl (pi_range1 (by rfl) T.range (pa_cons pe_int pa_nil)) (pg_name (i := 3) scLaw.nd rfl (Or.inl rfl))
            (pss_cons (ps_set (i := 4) scLaw.nd rfl (Or.inr rfl) (pe_call GO (hr.mono (by omega)) (by rfl) gO kO bO .nil pass0 (pa_cons (pv 2) (pa_cons (pe_lst (pa_cons (pe_lst (pa_cons pe_str (pa_cons pe_str pa_nil))) (pa_cons (pe_lst (pa_cons pe_str (pa_cons pe_str (pa_cons pe_str pa_nil)))) (pa_cons (pe_lst (pa_cons pe_str (pa_cons pe_str (pa_cons pe_str pa_nil)))) pa_nil)))) pa_nil))))
            (pss_cons (ps_par (i := 5) (j := 6) rfl scLaw.nd rfl rfl (by decide) rfl rfl (pa_cons (pe_call GL hr (by rfl) gL kL bL .nil pass0 (pa_cons (pv 4) pa_nil)) (pa_cons
                (pe_lc (own := [("_law_spot", 8)]) (g := gName 8) (tt := tYes) (te := tCall (spOf K) [] E0 (tCons (tVar 2) (tCons (tVar 4) tNil))) rfl scLaw.nd (pi_range1 (by rfl) T.range (pa_cons pe_int pa_nil)) (blkOk_by (own := [("_law_spot", 8)]) (N := nLaw) (sc := defScope sLaw) (by decide +kernel))
                  (fun _ _ _ _ _ => pg_name (i := 8) scLaw.nd rfl (Or.inl rfl)) (fun _ _ _ _ _ => pts_nil) (fun _ _ _ _ _ => pe_call GO (hr.mono (by omega)) (by rfl) gO kO bO .nil pass0 (pa_cons (pv 2) (pa_cons (pv 4) pa_nil)))) pa_nil)) rfl)
            (pss_cons (ps_set (i := 7) scLaw.nd rfl (Or.inl rfl) (pe_lst (pa_cons (pe_call G1 hr (by rfl) g1 k1 b1 .nil pass0 (pa_cons (pv 5) (pa_cons (pe_ix ix_list (pv 6) pe_int (fun _ _ => rfl)) (pa_cons (pe_ix ix_list (pv 6) pe_int (fun _ _ => rfl)) (pa_cons (pe_ix ix_list (pv 6) pe_int (fun _ _ => rfl)) pa_nil))))) pa_nil)))
            (pss_cons (ps_expr (pe_bm PySem.F.plainAttrs_list PySem.F.slot_list_append PySem.F.type_list_append mt_append (pv 7) (pa_cons (pe_call G2 hr (by rfl) g2 k2 b2 .nil pass0 (pa_cons (pv 5) (pa_cons (pe_ix ix_list (pv 6) pe_int (fun _ _ => rfl)) (pa_cons (pe_ix ix_list (pv 6) pe_int (fun _ _ => rfl)) (pa_cons (pe_ix ix_list (pv 6) pe_int (fun _ _ => rfl)) pa_nil))))) pa_nil)))
            (pss_cons (ps_expr (pe_bm PySem.F.plainAttrs_list PySem.F.slot_list_append PySem.F.type_list_append mt_append (pv 7) (pa_cons (pe_call G3 hr (by rfl) g3 k3 b3 .nil pass0 (pa_cons (pv 5) (pa_cons (pe_ix ix_list (pv 6) pe_int (fun _ _ => rfl)) (pa_cons (pe_ix ix_list (pv 6) pe_int (fun _ _ => rfl)) (pa_cons (pe_ix ix_list (pv 6) pe_int (fun _ _ => rfl)) pa_nil))))) pa_nil)))
            (pss_cons (ps_expr (pe_bm PySem.F.plainAttrs_list PySem.F.slot_list_append PySem.F.type_list_append mt_append (pv 7) (pa_cons (pe_call G4 hr (by rfl) g4 k4 b4 .nil pass0 (pa_cons (pv 5) (pa_cons (pe_ix ix_list (pv 6) pe_int (fun _ _ => rfl)) (pa_cons (pe_ix ix_list (pv 6) pe_int (fun _ _ => rfl)) (pa_cons (pe_ix ix_list (pv 6) pe_int (fun _ _ => rfl)) pa_nil))))) pa_nil)))
            (pss_one (ps_if (pt_not (pt_val (pe_callB (cr_all rfl) (by rfl) T.all (by decide +kernel) (pa_cons (pv 7) pa_nil)))) (pss_one (ps_ret pe_bl)) pss_nil))))))))))))
        (pss_one (ps_ret pe_bl)), ?_⟩
    have top3 : ∀ n : Nat, (1 : Int) ≤ (if (if ((n : Nat) : Int) < 3 then ((n : Nat) : Int) else 3) > 1 then (if ((n : Nat) : Int) < 3 then ((n : Nat) : Int) else 3) else 1) ∧
          (if (if ((n : Nat) : Int) < 3 then ((n : Nat) : Int) else 3) > 1 then (if ((n : Nat) : Int) < 3 then ((n : Nat) : Int) else 3) else 1) ≤ 3 := fun n => by
        split <;> split <;> omega
    have t3 := top3 (ns.map V.int).length
    obtain ⟨R, r0, r1, r2, r3⟩ := scr hS
    refine seq_go ⟨_, rfl, a, _, rfl, .inl hS, _, _, rfl, _, _, rfl, _, rfl, by omega, by omega, for_range (lo := 0) (n := Int.toNat _)
        (fun i σ H' => ∃ y1 y2 y3 y4 y5 y6 y7, σ = [some (.ref a), y1, y2, y3, y4, y5, y6, y7, none] ∧ R H' ∧ LamX.Tabs TT H') ⟨none, none, none, none, none, none, none, rfl, r0, tab⟩ ?_ ?_⟩
    · rintro i σ H1 hi ⟨y1, y2, y3, y4, y5, y6, y7, rfl, rH1, tab1⟩
      have hi3 : i < 3 := by omega
      refine name_go ?_
      dsimp only [List.set]
      refine seq_go (asg_go (call_go ⟨_, rfl, _, rfl, a, ns, i, ?_, r1 _ rH1, hi3, fun p o m hp o0 o1 m0 m1 => name_go ?_⟩))
      · rw [Int.zero_add]
        rfl
      have s2 := same_new (o := .lst [.int o, .int m, .int 0]) hp
      have pot0 : PotAt (upd H1 p (.lst [.int o, .int m, .int 0])) p 0 := ⟨o, m, 0, upd_same, o0, m0, m1, by decide, by decide⟩
      have rH2 := r2 _ _ rH1 (OffN.of s2)
      have tab2 := LamX.Tabs.ext tab1 s2
      have rr := r3 H1 p rH1 hp
      dsimp only [List.set]
      generalize upd H1 p (.lst [.int o, .int m, .int 0]) = H2 at pot0 rH2 tab2 ⊢
      refine ⟨(4 : Int), rfl, by decide, by decide, for_range (lo := 0) (n := Int.toNat 4)
        (fun j σ H' => ∃ y3 y4 y5 y6 y7, σ = [some (.ref a), some (.int (0 + (i : Nat))), some (.ref p), y3, y4, y5, y6, y7, none] ∧ R H' ∧ LamX.Tabs TT H' ∧ PotAt H' p (4 * j)) ⟨y3, y4, y5, y6, y7, rfl, rH2, tab2, pot0⟩ ?_ ?_⟩
      · rintro j σ A0 hj ⟨y3, y4, y5, y6, y7, rfl, rA, tA, potA⟩
        have hj4 : j < 4 := hj
        refine name_go ?_
        dsimp only [List.set]
        obtain ⟨po, pm, pc, pe, _⟩ := potA.ex
        refine seq_go (asg_go (call_go ⟨_, rfl, (by show 2 ≤ sizeLine; decide), fun l1 h1 => ⟨(by show 3 ≤ sizeLine; decide), fun l2 h2 => ⟨(by show 3 ≤ sizeLine; decide), fun l3 h3 => ⟨(by show 3 ≤ sizeLine; decide), fun L hL => ?_⟩⟩⟩⟩))
        have q1 := same_new (o := .lst [V.str "u", V.str "v"]) h1
        have q2 := same_new (o := .lst [V.str "v", V.str "w", V.str "u"]) h2
        have q3 := same_new (o := .lst [V.str "off", V.str "on", V.str "offon"]) h3
        have q4 := same_new (o := .lst [V.ref l1, V.ref l2, V.ref l3]) hL
        have e1 := q4 _ _ (q3 _ _ (q2 _ _ (upd_same (H := A0) (a := l1) (o := .lst [V.str "u", V.str "v"]))))
        have e2 := q4 _ _ (q3 _ _ (upd_same (H := upd A0 l1 (.lst [V.str "u", V.str "v"])) (a := l2) (o := .lst [V.str "v", V.str "w", V.str "u"])))
        have e3 := q4 _ _ (upd_same (H := upd (upd A0 l1 (.lst [V.str "u", V.str "v"])) l2 (.lst [V.str "v", V.str "w", V.str "u"])) (a := l3) (o := .lst [V.str "off", V.str "on", V.str "offon"]))
        have e4 : (upd (upd (upd (upd A0 l1 (.lst [V.str "u", V.str "v"])) l2 (.lst [V.str "v", V.str "w", V.str "u"])) l3 (.lst [V.str "off", V.str "on", V.str "offon"])) L (.lst [V.ref l1, V.ref l2, V.ref l3])) L = some (.lst [V.ref l1, V.ref l2, V.ref l3]) := upd_same
        have s4 := ((q1.trans q2).trans q3).trans q4
        have n1 : l1 ≠ p := fun z => by rw [z, pe] at h1; cases h1
        have n2 : l2 ≠ p := fun z => by rw [z, q1 _ _ pe] at h2; cases h2
        have n3 : l3 ≠ p := fun z => by rw [z, q2 _ _ (q1 _ _ pe)] at h3; cases h3
        have nL : L ≠ p := fun z => by rw [z, q3 _ _ (q2 _ _ (q1 _ _ pe))] at hL; cases hL
        generalize upd (upd (upd (upd A0 l1 (.lst [V.str "u", V.str "v"])) l2 (.lst [V.str "v", V.str "w", V.str "u"])) l3 (.lst [V.str "off", V.str "on", V.str "offon"])) L (.lst [V.ref l1, V.ref l2, V.ref l3]) = A1 at e1 e2 e3 e4 s4 ⊢
        have pot1 := potA.off (OffN.of s4)
        have rA1 := r2 _ _ rA (OffN.of s4)
        have tA1 := LamX.Tabs.ext tA s4
        refine ⟨p, L, [.ref l1, .ref l2, .ref l3], 4 * j, rfl, pot1, by omega, .inl (.inl e4), nL, (by show 0 < 3; decide), (by show 3 < 1000; decide), fun x A2 hx pot2 sb => name_go ?_⟩
        dsimp only [List.set]
        obtain ⟨lw, ws, rfl, hw, hlw, nlw⟩ : ∃ lw ws, x = .ref lw ∧ ws ∈ lawWords ∧ A2 lw = some (.lst (ws.map V.str)) ∧ lw ≠ p := by
          simp only [List.mem_cons, List.not_mem_nil, or_false] at hx
          rcases hx with rfl | rfl | rfl
          · exact ⟨l1, ["u", "v"], rfl, by decide, sb _ _ e1 n1, n1⟩
          · exact ⟨l2, ["v", "w", "u"], rfl, by decide, sb _ _ e2 n2, n2⟩
          · exact ⟨l3, ["off", "on", "offon"], rfl, by decide, sb _ _ e3 n3, n3⟩
        have rA2 := rr _ _ rA1 sb
        have tA2 := sb.tabs pot1 tA1
        obtain ⟨_, _, w3, w4⟩ := text_ok ws hw
        refine seq_go ⟨_, rfl, lw, ws, rfl, hw, hlw, tA2, fun y A3 o3 tA3 at3 => ?_⟩
        have pot3 := pot2.off o3
        have rA3 := r2 _ _ rA2 o3
        have hlw3 := o3 _ _ (by simp) hlw (fun ps z => by cases z)
        refine ⟨(3 : Int), rfl, by decide, by decide, fun D hD => ?_⟩
        have nDp : D ≠ p := fun z => by
          obtain ⟨_, _, _, e, _⟩ := pot3.ex
          rw [z, e] at hD
          cases hD
        refine lc_range (lo := 0) (n := (3 : Int).toNat) (fun n H' => ∃ xs : List Str, H' D = some (.lst (xs.map V.str)) ∧ xs.length = n ∧ (∀ x ∈ xs, x ∈ ws) ∧ PotAt H' p (4 * j + 1 + n) ∧ R H' ∧ LamX.Tabs TT H' ∧ y.At CR (cmOf ws) lawTr H' ∧ H' lw = some (.lst (ws.map V.str)))
          ⟨[], upd_same, rfl, (fun x hx => by simp at hx), pot3.off (OffN.of (same_new hD)), r2 _ _ rA3 (OffN.of (same_new hD)), LamX.Tabs.ext tA3 (same_new hD), at3.same (same_new hD), (same_new hD) _ _ hlw3⟩ ?_ ?_
        · rintro n B0 hn ⟨xs, hxs, ln, mem, potB, rB, tB, atB, lB⟩
          have hn3 : n < 3 := hn
          have nlD : lw ≠ D := fun z => by rw [z] at hlw3; rw [hlw3] at hD; cases hD
          refine ⟨rfl, yes_go (true_go ⟨_, rfl, _, rfl, p, lw, ws.map V.str, _, rfl, potB, by omega, .inl (.inl lB), nlw, ?_, ?_, fun x B1 hx potC sC => ?_⟩)⟩
          · rw [List.length_map]
            exact List.length_pos_iff.mpr w3
          · rw [List.length_map]
            omega
          obtain ⟨u, hu, rfl⟩ := List.mem_map.mp hx
          have hxs1 := sC _ _ hxs nDp
          have ub : ∀ {b : Addr} {v : HO}, b ≠ D → B1 b = some v → (upd B1 D (.lst (xs.map V.str ++ [V.str u]))) b = some v := fun {b v} nb e => (upd_ne nb).trans e
          refine ⟨_, hxs1, ?_, xs ++ [u], ?_, ?_, ?_, ?_, ?_, ?_, ?_, ?_⟩
          · rw [List.length_map, sizeLine_eq]
            omega
          · rw [upd_same, List.map_append]
            rfl
          · rw [List.length_append, ln]
            rfl
          · intro x hx
            rcases List.mem_append.mp hx with h | h
            · exact mem x h
            · rw [List.mem_singleton.mp h]
              exact hu
          · obtain ⟨o, m, c, e, z1, z2, z3, z4, z5⟩ := potC.ex
            exact ⟨o, m, c, ub (Ne.symm nDp) e, z1, z2, z3, z4, by omega⟩
          · exact r3 A3 D rA3 hD _ _ (rr _ _ rB sC) but_upd
          · exact SameBut.tabs2 (but_upd (o := .lst (xs.map V.str ++ [V.str u]))) hxs1 (sC.tabs potB tB)
          · exact SameBut.re2 (but_upd (o := .lst (xs.map V.str ++ [V.str u]))) hxs1 (sC.re potB atB)
          · exact ub nlD (sC _ _ lB nlw)
        · rintro A4 ⟨xs, hxs, ln, mem, pot4, rA4, tA4, at4, lA4⟩
          obtain ⟨x1, x2, x3, rfl⟩ := three_of ln
          have m1 := mem x1 (by simp)
          have m2 := mem x2 (by simp)
          have m3 := mem x3 (by simp)
          have hD4 : A4 D = some (.lst [V.str x1, V.str x2, V.str x3]) := hxs
          have a0 : atI [V.str x1, V.str x2, V.str x3] (0 : Int) = some (.str x1) := atI_nat (j := 0) rfl
          have a1 : atI [V.str x1, V.str x2, V.str x3] (1 : Int) = some (.str x2) := atI_nat (j := 1) rfl
          have a2 : atI [V.str x1, V.str x2, V.str x3] (2 : Int) = some (.str x3) := atI_nat (j := 2) rfl
          refine ⟨_, _, rfl, ?_⟩
          dsimp only [List.set]
          refine seq_go (asg_go ⟨_, rfl, _, rfl, D, _, _, _, rfl, rfl, .inl (.inl hD4), a0, _, rfl, D, _, _, _, rfl, rfl, .inl (.inl hD4), a1, _, rfl, D, _, _, _, rfl, rfl, .inl (.inl hD4), a2, y, ws, x1, x2, x3, rfl, at4, hw, m1, m2, m3, fun A5 s5 => ⟨(by show 1 ≤ sizeLine; decide), fun Td hT => name_go ?_⟩⟩)
          dsimp only [List.set]
          have nT := none_back s5 hT
          have sK := s5.trans (same_new (o := .lst [V.bl true]) hT)
          have hTd : (upd A5 Td (.lst [V.bl true])) Td = some (.lst [V.bl true]) := upd_same
          generalize upd A5 Td (.lst [V.bl true]) = B5 at sK hTd ⊢
          have keep : ∀ {H1 H2 : Hp} {o : HO}, Same A4 H1 → Same H1 H2 → Same A4 (upd H2 Td o) := fun {H1 H2 o} x y b u hb => by
            rw [upd_ne (fun z => by rw [z, nT] at hb; cases hb)]
            exact y _ _ (x _ _ hb)
          refine seq_go (drop_go (bm_go ⟨_, rfl, .inl ⟨rfl, _, .inl (.inl hTd)⟩, _, rfl, _, rfl, D, _, _, _, rfl, rfl, .inl (.inl (sK _ _ hD4)), a0, _, rfl, D, _, _, _, rfl, rfl, .inl (.inl (sK _ _ hD4)), a1, _, rfl, D, _, _, _, rfl, rfl, .inl (.inl (sK _ _ hD4)), a2, y, ws, x1, x2, x3, rfl, (at4.same sK), hw, m1, m2, m3, fun A6 sA6 => ⟨Td, _, _, rfl, rfl, sA6 _ _ hTd, (by show 1 < sizeLine; decide), ?_⟩⟩))
          dsimp only
          have sK1 := keep (o := .lst ([V.bl true] ++ [V.bl true])) sK sA6
          have hTd1 : (upd A6 Td (.lst ([V.bl true] ++ [V.bl true]))) Td = some (.lst ([V.bl true] ++ [V.bl true])) := upd_same
          generalize upd A6 Td (.lst ([V.bl true] ++ [V.bl true])) = B6 at sK1 hTd1 ⊢
          refine seq_go (drop_go (bm_go ⟨_, rfl, .inl ⟨rfl, _, .inl (.inl hTd1)⟩, _, rfl, _, rfl, D, _, _, _, rfl, rfl, .inl (.inl (sK1 _ _ hD4)), a0, _, rfl, D, _, _, _, rfl, rfl, .inl (.inl (sK1 _ _ hD4)), a1, _, rfl, D, _, _, _, rfl, rfl, .inl (.inl (sK1 _ _ hD4)), a2, y, ws, x1, x2, x3, rfl, (at4.same sK1), hw, m1, m2, m3, fun A7 sA7 => ⟨Td, _, _, rfl, rfl, sA7 _ _ hTd1, (by show 2 < sizeLine; decide), ?_⟩⟩))
          dsimp only
          have sK2 := keep (o := .lst (([V.bl true] ++ [V.bl true]) ++ [V.bl true])) sK1 sA7
          have hTd2 : (upd A7 Td (.lst (([V.bl true] ++ [V.bl true]) ++ [V.bl true]))) Td = some (.lst (([V.bl true] ++ [V.bl true]) ++ [V.bl true])) := upd_same
          generalize upd A7 Td (.lst (([V.bl true] ++ [V.bl true]) ++ [V.bl true])) = B7 at sK2 hTd2 ⊢
          refine seq_go (drop_go (bm_go ⟨_, rfl, .inl ⟨rfl, _, .inl (.inl hTd2)⟩, _, rfl, _, rfl, D, _, _, _, rfl, rfl, .inl (.inl (sK2 _ _ hD4)), a0, _, rfl, D, _, _, _, rfl, rfl, .inl (.inl (sK2 _ _ hD4)), a1, _, rfl, D, _, _, _, rfl, rfl, .inl (.inl (sK2 _ _ hD4)), a2, y, ws, x1, x2, x3, rfl, (at4.same sK2), hw, m1, m2, m3, fun A8 sA8 => ⟨Td, _, _, rfl, rfl, sA8 _ _ hTd2, (by show 3 < sizeLine; decide), ?_⟩⟩))
          dsimp only
          have sK3 := keep (o := .lst ((([V.bl true] ++ [V.bl true]) ++ [V.bl true]) ++ [V.bl true])) sK2 sA8
          have hTd3 : (upd A8 Td (.lst ((([V.bl true] ++ [V.bl true]) ++ [V.bl true]) ++ [V.bl true]))) Td = some (.lst ((([V.bl true] ++ [V.bl true]) ++ [V.bl true]) ++ [V.bl true])) := upd_same
          generalize upd A8 Td (.lst ((([V.bl true] ++ [V.bl true]) ++ [V.bl true]) ++ [V.bl true])) = B8 at sK3 hTd3 ⊢
          refine ifs_go (not_go (val_go (cb_go (cons_go ⟨_, rfl, Td, [true, true, true, true], rfl, .inl (.inl hTd3), _, rfl, ite2 (fun z => absurd z (by decide)) fun _ => next_go ⟨_, _, _, _, _, rfl, r2 _ _ rA4 (OffN.of sK3), LamX.Tabs.ext tA4 sK3, ?_⟩⟩))))
          have z := pot4.off (OffN.of sK3)
          rw [show 4 * (j + 1) = 4 * j + 1 + (3 : Int).toNat by show 4 * (j + 1) = 4 * j + 1 + 3; omega]
          exact z
      · rintro σ A0 ⟨y3, y4, y5, y6, y7, rfl, rA, tA, potA⟩
        exact ⟨_, _, _, _, _, _, _, rfl, rA, tA⟩
    · rintro σ H1 ⟨y1, y2, y3, y4, y5, y6, y7, rfl, rA, tA⟩
      exact q H1
end
end Sc

namespace Sc
open PySem L2 PySem.Spec PyProof.Rows
/-! ### what the top has written -/
def DefAt (K : PySem.W.Frag) (mg : Str → Option Value) (x : Str) (st : Stmt) (f : Addr) (fd : FuncData) : Prop := Fun K x x st f fd ∧ mg x = some (.ref f)
theorem def_mk {K : PySem.W.Frag} {h : Heap} {mg : Str → Option Value} (X : K.In h) (G : h.Ns mainGlobals mg) {f : Addr} (x : Str) (st : Stmt) {od an : Option Addr} {sl : Array (Option Value)} {oc kV dc pm cd ct : Value}
    (a1 : PySem.W.nsIn K mainGlobals x = some (some (.ref f)))
    (l1 : K.lookup f = some ⟨oc, od, .func (PySem.W.fnOf x x (defArgs st) (defBody st) (defScope st) .none kV dc pm an cd ct), sl⟩) (c1 : PySem.W.codeIn K cd x = true) (k1 : PySem.W.keepIn K (.ref f) = true) :
    DefAt K mg x st f (PySem.W.fnOf x x (defArgs st) (defBody st) (defScope st) .none kV dc pm an cd ct) := ⟨fun_mk (st := st) l1 c1 k1, PySem.W.mg_of X G a1⟩
theorem strs_at {its : List Value} {xs : List Str} (h : its.length = xs.length) (g : ∀ i (hi : i < its.length), ∃ t, its[i] = .str (xs[i]'(by omega)) t) : Vals (xs.map V.str) its := by
  induction xs generalizing its with
  | nil =>
    cases its with
    | nil => exact .nil
    | cons a as => cases h
  | cons x xs ih =>
    cases its with
    | nil => cases h
    | cons a as =>
      refine .cons (g 0 (by simp)) (ih (by simpa using h) fun i hi => ?_)
      obtain ⟨t, e⟩ := g (i + 1) (by simpa using hi)
      exact ⟨t, by simpa using e⟩
theorem tup_at {K : PySem.W.Frag} {a : Addr} {od : Option Addr} {its : Array Value} {n : Nat} {sl : Array (Option Value)} {xs : List V} (l : K.lookup a = some ⟨.type "tuple", od, .seq its n, sl⟩) (z : its.size ≤ sizeLine) (v : Vals xs its.toList) : ∀ H, SqT K H a xs := fun _ => .inr ⟨_, its, n, l, rfl, rfl, z, v⟩
theorem short_lines : ∀ ws ∈ lawWords, (Txt.split (textOf ws) feed).length ≤ 20 ∧ ∀ n ∈ List.range 20, ((lineWords (Txt.split (textOf ws) feed) n 4).map (·.length)).sum + (lineWords (Txt.split (textOf ws) feed) n 4).length * (" " : Str).length ≤ 16777216 := by decide +kernel
theorem hj_of {text : Str} (h : isText text) : ∀ n, ((lineWords (Txt.split text feed) n 4).map (·.length)).sum + (lineWords (Txt.split text feed) n 4).length * (" " : Str).length ≤ 16777216 := by
  obtain ⟨ws, hw, rfl⟩ := h
  obtain ⟨h1, h2⟩ := short_lines ws hw
  intro n
  by_cases hn : n < 20
  · exact h2 n (List.mem_range.mpr hn)
  · have : (Txt.split (textOf ws) feed)[n]? = none := List.getElem?_eq_none (by omega)
    have e : lineWords (Txt.split (textOf ws) feed) n 4 = [] := by
      unfold lineWords
      rw [this]
    rw [e]
    decide
abbrev qEd : Str := "read_edition.<locals>.<lambda>"
abbrev qPk : Str := "read_package.<locals>.<lambda>"
theorem all10 {P : Program} {w : World} {K : PySem.W.Frag} {h : Heap} {mg : Str → Option Value} {fa CE CP CD CR rA pA nA cE PE cP PP : Addr} {dC dP dS : Option Addr} {oC oP oS : Value} {lC lP lS : Array (Option Value)} (X : K.In h) (G : h.Ns mainGlobals mg) (hfa : mg "law" = some (.ref fa))
    {f_has f_copy f_cmdOf f_spelled f_name f_number f_fits f_plain f_cellLine f_setLine f_edNum f_isRow f_isWords f_isProg f_isPart f_isCmd f_isIf f_done f_cuts f_refP f_refW f_whole f_stops f_run f_part f_behind f_joined f_draft f_several f_cell f_package f_edition f_need f_laid f_program f_trigger f_commands f_command f_iff f_set f_inSeq f_pst f_ups f_ref f_dbl f_told f_unn f_names f_met f_ring f_ringB f_mul f_most f_pot f_ltake f_of f_lrel f_turned f_tests f_fails f_still f_law f_edInit f_pkInit f_edn f_nds f_drInit f_line f_take f_reInit : Addr} {e_has e_copy e_cmdOf e_spelled e_name e_number e_fits e_plain e_cellLine e_setLine e_edNum e_isRow e_isWords e_isProg e_isPart e_isCmd e_isIf e_done e_cuts e_refP e_refW e_whole e_stops e_run e_part e_behind e_joined e_draft e_several e_cell e_package e_edition e_need e_laid e_program e_trigger e_commands e_command e_iff e_set e_inSeq e_pst e_ups e_ref e_dbl e_told e_unn e_names e_met e_ring e_ringB e_mul e_most e_pot e_ltake e_of e_lrel e_turned e_tests e_fails e_still e_law e_edInit e_pkInit e_edn e_nds e_drInit e_line e_take e_reInit : FuncData}
    (D_has : DefAt K mg "has_word" sHas f_has e_has)
    (D_copy : DefAt K mg "can_copy" sCopy f_copy e_copy)
    (D_cmdOf : DefAt K mg "is_command_of" sCmdOf f_cmdOf e_cmdOf)
    (D_spelled : DefAt K mg "is_spelled" sSpelled f_spelled e_spelled)
    (D_name : DefAt K mg "is_name" sName f_name e_name)
    (D_number : DefAt K mg "is_number" sNumber f_number e_number)
    (D_fits : DefAt K mg "fits" sFits f_fits e_fits)
    (D_plain : DefAt K mg "is_plain_command" sPlain f_plain e_plain)
    (D_cellLine : DefAt K mg "is_cell_line" sCellLine f_cellLine e_cellLine)
    (D_setLine : DefAt K mg "is_set_line" sSetLine f_setLine e_setLine)
    (D_edNum : DefAt K mg "edition_number" sEdNum f_edNum e_edNum)
    (D_isRow : DefAt K mg "is_row" sRow f_isRow e_isRow)
    (D_isWords : DefAt K mg "is_words" sIsWords f_isWords e_isWords)
    (D_isProg : DefAt K mg "is_program" sIsProg f_isProg e_isProg)
    (D_isPart : DefAt K mg "is_part" sIsPart f_isPart e_isPart)
    (D_isCmd : DefAt K mg "is_command" sIsCmd f_isCmd e_isCmd)
    (D_isIf : DefAt K mg "is_if" sIsIf f_isIf e_isIf)
    (D_done : DefAt K mg "done" sDone f_done e_done)
    (D_cuts : DefAt K mg "cuts" sCuts f_cuts e_cuts)
    (D_refP : DefAt K mg "refuse_program" sRefP f_refP e_refP)
    (D_refW : DefAt K mg "refuse_words" sRefW f_refW e_refW)
    (D_whole : DefAt K mg "whole_run" sWhole f_whole e_whole)
    (D_stops : DefAt K mg "stops" sStops f_stops e_stops)
    (D_run : DefAt K mg "run_commands" sRun f_run e_run)
    (D_part : DefAt K mg "part_to_run" sPart f_part e_part)
    (D_behind : DefAt K mg "state_behind" sBehind f_behind e_behind)
    (D_joined : DefAt K mg "joined" sJoined f_joined e_joined)
    (D_draft : DefAt K mg "read_draft" sDraft f_draft e_draft)
    (D_several : DefAt K mg "read_several" sSeveral f_several e_several)
    (D_cell : DefAt K mg "read_cell" sCell f_cell e_cell)
    (D_package : DefAt K mg "read_package" sPackage f_package e_package)
    (D_edition : DefAt K mg "read_edition" sEdition f_edition e_edition)
    (D_need : DefAt K mg "read_need" sNeed f_need e_need)
    (D_laid : DefAt K mg "read_laid" sLaid f_laid e_laid)
    (D_program : DefAt K mg "read_program" sProgram f_program e_program)
    (D_trigger : DefAt K mg "read_trigger" sTrigger f_trigger e_trigger)
    (D_commands : DefAt K mg "read_commands" sCommands f_commands e_commands)
    (D_command : DefAt K mg "read_command" sCommand f_command e_command)
    (D_iff : DefAt K mg "read_if" sIf f_iff e_iff)
    (D_set : DefAt K mg "read_set" sSet f_set e_set)
    (D_inSeq : DefAt K mg "in_sequence" sInSeq f_inSeq e_inSeq)
    (D_pst : DefAt K mg "package_steps" sPst f_pst e_pst)
    (D_ups : DefAt K mg "upgrade_steps" sUps f_ups e_ups)
    (D_ref : DefAt K mg "refuse_wrong" sRef f_ref e_ref)
    (D_dbl : DefAt K mg "first_doubled" sDbl f_dbl e_dbl)
    (D_told : DefAt K mg "told_once" sTold f_told e_told)
    (D_unn : DefAt K mg "first_unnamed" sUnn f_unn e_unn)
    (D_names : DefAt K mg "names_rightly" sNames f_names e_names)
    (D_met : DefAt K mg "is_met" sMet f_met e_met)
    (D_ring : DefAt K mg "ring_of_needs" sRing f_ring e_ring)
    (D_ringB : DefAt K mg "ring_behind" sRingB f_ringB e_ringB)
    (D_mul : DefAt K mg "words_multiplied" sMul f_mul e_mul)
    (D_most : DefAt K mg "most_steps" sMost f_most e_most)
    (D_pot : DefAt K mg "_law_pot_of" sPot f_pot e_pot)
    (D_ltake : DefAt K mg "_law_take" sLTake f_ltake e_ltake)
    (D_of : DefAt K mg "_law_of" sOf f_of e_of)
    (D_lrel : DefAt K mg "_law_release" sLRel f_lrel e_lrel)
    (D_turned : DefAt K mg "_law_turned_right" sTurned f_turned e_turned)
    (D_tests : DefAt K mg "_law_tests_right" sTests f_tests e_tests)
    (D_fails : DefAt K mg "_law_fails_right" sFails f_fails e_fails)
    (D_still : DefAt K mg "_law_still_right" sStill f_still e_still)
    (D_law : DefAt K mg "law" sLaw f_law e_law)
    (F_edInit : Fun K "__init__" "Edition.__init__" sEdInit f_edInit e_edInit)
    (F_pkInit : Fun K "__init__" "Package.__init__" sPkInit f_pkInit e_pkInit)
    (F_edn : Fun K "edition" "Package.edition" sEdn f_edn e_edn)
    (F_nds : Fun K "all_needs" "Package.all_needs" sNds f_nds e_nds)
    (F_drInit : Fun K "__init__" "Draft.__init__" sDrInit f_drInit e_drInit)
    (F_line : Fun K "line_words" "Draft.line_words" sLineWords f_line e_line)
    (F_take : Fun K "take" "Draft.take" sTake f_take e_take)
    (F_reInit : Fun K "__init__" "Release.__init__" sReInit f_reInit e_reInit)
    (M_edInit : Mk K CE f_edInit)
    (M_pkInit : Mk K CP f_pkInit)
    (M_edn : Meth K CP "edition" f_edn)
    (M_nds : Meth K CP "all_needs" f_nds)
    (M_drInit : Mk K CD f_drInit)
    (M_line : Meth K CD "line_words" f_line)
    (M_take : Meth K CD "take" f_take)
    (M_reInit : Mk K CR f_reInit)
    (O_E : Own K CE edNames) (c_E : PySem.W.nsIn K mainGlobals "Edition" = some (some (.ref CE)))
    (O_P : Own K CP pkNames) (c_P : PySem.W.nsIn K mainGlobals "Package" = some (some (.ref CP)))
    (O_D : Own K CD drNames) (c_D : PySem.W.nsIn K mainGlobals "Draft" = some (some (.ref CD)))
    (O_R : Own K CR reNames) (c_R : PySem.W.nsIn K mainGlobals "Release" = some (some (.ref CR)))
    (nD : CD ≠ CR) (nP : CP ≠ CR)
    (xL : ∃ t, PySem.W.nsIn K mainGlobals "LETTERS" = some (some (.str letters t))) (xD : ∃ t, PySem.W.nsIn K mainGlobals "DIGITS" = some (some (.str digits t))) (xR : PySem.W.nsIn K mainGlobals "RESERVED" = some (some (.ref rA))) (xRt : ∀ H, SqT K H rA (reserved.map V.str)) (xP : PySem.W.nsIn K mainGlobals "PLAIN_COMMANDS" = some (some (.ref pA))) (xPt : ∀ H, SqT K H pA (plainForms.map V.str)) (xN : PySem.W.nsIn K mainGlobals "PROGRAM_NAMES" = some (some (.ref nA))) (xNt : ∀ H, SqT K H nA (programNames.map V.str))
    (xW : ∃ t, PySem.W.nsIn K mainGlobals "MOST_WORDS" = some (some (.int 60 t))) (xS : ∃ t, PySem.W.nsIn K mainGlobals "MOST_STEPS" = some (some (.int 6 t)))
    (lkC : K.lookup f_cell = some ⟨oC, dC, .func e_cell, lC⟩) (lkP : K.lookup f_package = some ⟨oP, dP, .func e_package, lP⟩) (lkS : K.lookup f_set = some ⟨oS, dS, .func e_set, lS⟩) (hcE : e_edition.code = .ref cE) (hcP : e_package.code = .ref cP) (nEP : PE ≠ PP)
    (z_len : PySem.W.nsIn K mainGlobals "len" = some none)
    (z_all : PySem.W.nsIn K mainGlobals "all" = some none)
    (z_any : PySem.W.nsIn K mainGlobals "any" = some none)
    (z_zip : PySem.W.nsIn K mainGlobals "zip" = some none)
    (z_int : PySem.W.nsIn K mainGlobals "int" = some none)
    (z_str : PySem.W.nsIn K mainGlobals "str" = some none)
    (z_list : PySem.W.nsIn K mainGlobals "list" = some none)
    (z_tuple : PySem.W.nsIn K mainGlobals "tuple" = some none)
    (z_sorted : PySem.W.nsIn K mainGlobals "sorted" = some none)
    (z_enumerate : PySem.W.nsIn K mainGlobals "enumerate" = some none)
    (z_max : PySem.W.nsIn K mainGlobals "max" = some none)
    (z_set : PySem.W.nsIn K mainGlobals "set" = some none)
    (z_isinstance : PySem.W.nsIn K mainGlobals "isinstance" = some none)
    (z_range : PySem.W.nsIn K mainGlobals "range" = some none)
    (z_min : PySem.W.nsIn K mainGlobals "min" = some none)
    (z_abs : PySem.W.nsIn K mainGlobals "abs" = some none)
    (b_has : Binds K e_has ["cells", "cell", "word"] [])
    (b_copy : Binds K e_copy ["cells", "one", "other"] [])
    (b_cmdOf : Binds K e_cmdOf ["cells", "triggers", "command"] [])
    (b_spelled : Binds K e_spelled ["word"] [])
    (b_name : Binds K e_name ["word"] [])
    (b_number : Binds K e_number ["word"] [])
    (b_fits : Binds K e_fits ["words", "form"] [])
    (b_plain : Binds K e_plain ["words"] [])
    (b_cellLine : Binds K e_cellLine ["words"] [])
    (b_setLine : Binds K e_setLine ["words"] [])
    (b_edNum : Binds K e_edNum ["word"] [])
    (b_isRow : Binds K e_isRow ["value", "many"] [])
    (b_isWords : Binds K e_isWords ["release", "value"] [])
    (b_isProg : Binds K e_isProg ["release", "value"] [])
    (b_isPart : Binds K e_isPart ["release", "value", "least", "most", "ifs"] [])
    (b_isCmd : Binds K e_isCmd ["release", "value", "ifs"] [])
    (b_isIf : Binds K e_isIf ["release", "value", "ifs"] [])
    (b_done : Binds K e_done ["release", "program", "words"] [])
    (b_cuts : Binds K e_cuts ["release", "program", "words"] [])
    (b_refP : Binds K e_refP ["release", "program"] [])
    (b_refW : Binds K e_refW ["release", "words"] [])
    (b_whole : Binds K e_whole ["release", "program", "words"] [])
    (b_stops : Binds K e_stops ["release", "program", "words"] [])
    (b_run : Binds K e_run ["release", "program", "states"] [])
    (b_part : Binds K e_part ["release", "command", "words"] [])
    (b_behind : Binds K e_behind ["release", "command", "state"] [])
    (b_joined : Binds K e_joined ["wakes", "more"] [])
    (b_draft : Binds K e_draft ["text"] [])
    (b_several : Binds K e_several ["read", "draft", "least", "most"] [])
    (b_cell : Binds K e_cell ["draft"] [])
    (b_package : Binds K e_package ["draft"] [])
    (b_edition : Binds K e_edition ["draft", "package"] [])
    (b_need : Binds K e_need ["draft", "edition"] [])
    (b_laid : Binds K e_laid ["draft", "edition"] [])
    (b_program : Binds K e_program ["draft", "edition"] [])
    (b_trigger : Binds K e_trigger ["draft", "package"] [])
    (b_commands : Binds K e_commands ["draft", "depth", "most", "ifs"] [])
    (b_command : Binds K e_command ["draft", "depth", "ifs"] [])
    (b_iff : Binds K e_iff ["draft", "depth", "ifs", "words"] [])
    (b_set : Binds K e_set ["draft"] [])
    (b_inSeq : Binds K e_inSeq ["packages", "names"] [])
    (b_pst : Binds K e_pst ["name", "elder", "newer"] [])
    (b_ups : Binds K e_ups ["packages", "elder", "newer"] [])
    (b_ref : Binds K e_ref ["draft"] [])
    (b_dbl : Binds K e_dbl ["rows"] [])
    (b_told : Binds K e_told ["kind", "words", "line", "edition"] [])
    (b_unn : Binds K e_unn ["draft"] [])
    (b_names : Binds K e_names ["draft", "kind", "words"] [])
    (b_met : Binds K e_met ["packages", "members", "name", "number"] [])
    (b_ring : Binds K e_ring ["packages"] [])
    (b_ringB : Binds K e_ringB ["needs", "path"] [])
    (b_mul : Binds K e_mul ["cells"] [])
    (b_most : Binds K e_most ["packages", "sets"] [])
    (b_pot : Binds K e_pot ["_law_script", "_law_k"] [])
    (b_ltake : Binds K e_ltake ["_law_pot", "_law_upto"] [])
    (b_of : Binds K e_of ["_law_pot", "_law_some"] [])
    (b_lrel : Binds K e_lrel ["_law_words"] [])
    (b_turned : Binds K e_turned ["_law_release_here", "_law_x", "_law_y", "_law_z"] [])
    (b_tests : Binds K e_tests ["_law_release_here", "_law_x", "_law_y", "_law_z"] [])
    (b_fails : Binds K e_fails ["_law_release_here", "_law_x", "_law_y", "_law_z"] [])
    (b_still : Binds K e_still ["_law_release_here", "_law_x", "_law_y", "_law_z"] [])
    (b_edInit : Binds K e_edInit ["self"] [])
    (b_pkInit : Binds K e_pkInit ["self"] [])
    (b_edn : Binds K e_edn ["self", "number"] [])
    (b_nds : Binds K e_nds ["self"] [])
    (b_drInit : Binds K e_drInit ["self", "text"] [])
    (b_line : Binds K e_line ["self", "depth"] [])
    (b_take : Binds K e_take ["self", "kind", "words"] [])
    (b_reInit : Binds K e_reInit ["self", "text"] [])
    (hB : ∀ (s : Shared) (u : Value), BindsTo s e_law ⟨[u], []⟩ [("_law_script", u)]) :
    ∃ fd : FuncData, (∀ (s : Shared) (u : Value), BindsTo s fd ⟨[u], []⟩ [("_law_script", u)]) ∧ ∀ base : Heap, K.In base → base.Ns mainGlobals mg → LamX.TabB base mg cE PE → LamX.TabB base mg cP PP → FnOk P w K mg base CX0 25 fa fd ["_law_script"] (spLaw [(PE, qEd), (PP, qPk)] K) := by
  have e := hfa.symm.trans D_law.2
  cases e
  have z : ∀ {n : Str}, PySem.W.nsIn K mainGlobals n = some none → mg n = none := fun h => PySem.W.mg_none_of X G h
  have m : ∀ {n : Str} {v : Value}, PySem.W.nsIn K mainGlobals n = some (some v) → mg n = some v := fun h => PySem.W.mg_of X G h
  refine ⟨e_law, hB, fun base KB GB TE TP => ?_⟩
  have T : NatR mg := ⟨z z_len, z z_all, z z_any, z z_zip, z z_int, z z_str, z z_list, z z_tuple, z z_sorted, z z_enumerate, z z_max, z z_set, z z_isinstance⟩
  have T0 : Nat0 mg := ⟨z z_len, z z_abs, z z_int⟩
  have TL : NatL mg := ⟨z z_range, z z_max, z z_min, z z_len, z z_all⟩
  have U : Kept K mg rA := ⟨xL.imp fun _ h => m h, xD.imp fun _ h => m h, m xR, xRt⟩
  have G_has : FnOk P w K mg base CX0 1 f_has e_has _ _ := ok_has D_has.1 T
  have G_copy : FnOk P w K mg base CX0 1 f_copy e_copy _ _ := ok_copy D_copy.1 T
  have G_cmdOf : FnOk P w K mg base CX0 2 f_cmdOf e_cmdOf _ _ := ok_cmdOf D_cmdOf.1 T G_has D_has.2 D_has.1.kp b_has G_copy D_copy.2 D_copy.1.kp b_copy
  have G_spelled : FnOk P w K mg base CX0 1 f_spelled e_spelled _ _ := ok_spelled D_spelled.1 T U
  have G_name : FnOk P w K mg base CX0 2 f_name e_name _ _ := ok_name D_name.1 U G_spelled D_spelled.2 D_spelled.1.kp b_spelled
  have G_number : FnOk P w K mg base CX0 1 f_number e_number _ _ := ok_number D_number.1 T U
  have G_fits : FnOk P w K mg base CX0 3 f_fits e_fits _ _ := ok_fits D_fits.1 T G_name D_name.2 D_name.1.kp b_name
  have G_plain : FnOk P w K mg base CX0 4 f_plain e_plain _ _ := ok_plain D_plain.1 T (m xP) xPt G_fits D_fits.2 D_fits.1.kp b_fits
  have G_cellLine : FnOk P w K mg base CX0 3 f_cellLine e_cellLine _ _ := ok_cellLine D_cellLine.1 T G_name D_name.2 D_name.1.kp b_name
  have G_setLine : FnOk P w K mg base CX0 4 f_setLine e_setLine _ _ := ok_setLine D_setLine.1 T G_fits D_fits.2 D_fits.1.kp b_fits G_name D_name.2 D_name.1.kp b_name G_number D_number.2 D_number.1.kp b_number
  have G_edNum : FnOk P w K mg base CX0 1 f_edNum e_edNum _ _ := ok_edNum D_edNum.1 T
  have G_isRow : FnOk P w K mg base CX0 1 f_isRow e_isRow _ _ := ok_row D_isRow.1 T
  have G_isWords : FnOk P w K mg base CX0 2 f_isWords e_isWords _ _ := ok_isWords D_isWords.1 T O_R G_isRow D_isRow.2 D_isRow.1.kp b_isRow
  have G_joined : FnOk P w K mg base CX0 1 f_joined e_joined _ _ := ok_joined D_joined.1 T
  have G_behind : FnOk P w K mg base CX0 2 f_behind e_behind _ _ := ok_behind D_behind.1 T O_R G_joined D_joined.2 D_joined.1.kp b_joined
  have G_part : FnOk P w K mg base CX0 1 f_part e_part _ _ := ok_part D_part.1 T O_R
  have G_run0 : FnOk P w K mg base CX0 3 f_run e_run _ (spRun CR 0) := ok_run0 D_run.1 O_R G_behind D_behind.2 D_behind.1.kp b_behind
  have G_run1 : FnOk P w K mg base CX0 4 f_run e_run _ (spRun CR 1) := ok_runS (by omega) D_run.1 O_R G_behind D_behind.2 D_behind.1.kp b_behind G_part D_part.2 D_part.1.kp b_part G_run0 D_run.2 D_run.1.kp b_run
  have G_run : FnOk P w K mg base CX0 5 f_run e_run _ (spRun CR 2) := ok_runS (by omega) D_run.1 O_R G_behind D_behind.2 D_behind.1.kp b_behind G_part D_part.2 D_part.1.kp b_part G_run1 D_run.2 D_run.1.kp b_run
  have G_whole : FnOk P w K mg base CX0 6 f_whole e_whole _ _ := ok_whole D_whole.1 G_run D_run.2 D_run.1.kp b_run
  have G_stops : FnOk P w K mg base CX0 6 f_stops e_stops _ _ := ok_stops D_stops.1 T G_run D_run.2 D_run.1.kp b_run
  have G_isCmd0 : FnOk P w K mg base CX0 3 f_isCmd e_isCmd _ (spIsCmd CR 0) := ok_isCmd0 D_isCmd.1 T O_R G_cmdOf D_cmdOf.2 D_cmdOf.1.kp b_cmdOf
  have G_isPart0 : FnOk P w K mg base CX0 4 f_isPart e_isPart _ (spIsPart CR 0) := ok_isPart D_isPart.1 T O_R G_isCmd0 D_isCmd.2 D_isCmd.1.kp b_isCmd
  have G_isIf0 : FnOk P w K mg base CX0 5 f_isIf e_isIf _ (spIsIf CR 0) := ok_isIf (by omega) D_isIf.1 T O_R G_isPart0 D_isPart.2 D_isPart.1.kp b_isPart G_has D_has.2 D_has.1.kp b_has
  have G_isCmd1 : FnOk P w K mg base CX0 6 f_isCmd e_isCmd _ (spIsCmd CR 1) := ok_isCmdS (by omega) D_isCmd.1 T O_R G_cmdOf D_cmdOf.2 D_cmdOf.1.kp b_cmdOf G_isIf0 D_isIf.2 D_isIf.1.kp b_isIf
  have G_isPart1 : FnOk P w K mg base CX0 7 f_isPart e_isPart _ (spIsPart CR 1) := ok_isPart D_isPart.1 T O_R G_isCmd1 D_isCmd.2 D_isCmd.1.kp b_isCmd
  have G_isIf1 : FnOk P w K mg base CX0 8 f_isIf e_isIf _ (spIsIf CR 1) := ok_isIf (by omega) D_isIf.1 T O_R G_isPart1 D_isPart.2 D_isPart.1.kp b_isPart G_has D_has.2 D_has.1.kp b_has
  have G_isCmd2 : FnOk P w K mg base CX0 9 f_isCmd e_isCmd _ (spIsCmd CR 2) := ok_isCmdS (by omega) D_isCmd.1 T O_R G_cmdOf D_cmdOf.2 D_cmdOf.1.kp b_cmdOf G_isIf1 D_isIf.2 D_isIf.1.kp b_isIf
  have G_isPart2 : FnOk P w K mg base CX0 10 f_isPart e_isPart _ (spIsPart CR 2) := ok_isPart D_isPart.1 T O_R G_isCmd2 D_isCmd.2 D_isCmd.1.kp b_isCmd
  have G_isProg : FnOk P w K mg base CX0 11 f_isProg e_isProg _ _ := ok_isProg D_isProg.1 G_isPart2 D_isPart.2 D_isPart.1.kp b_isPart
  have G_refP : FnOk P w K mg base CX0 12 f_refP e_refP _ _ := ok_refP D_refP.1 G_isProg D_isProg.2 D_isProg.1.kp b_isProg
  have G_refW : FnOk P w K mg base CX0 3 f_refW e_refW _ _ := ok_refW D_refW.1 G_isWords D_isWords.2 D_isWords.1.kp b_isWords
  have G_done : FnOk P w K mg base CX0 13 f_done e_done _ _ := ok_done (l := 0) (by omega) (by omega) D_done.1 G_refP D_refP.2 D_refP.1.kp b_refP G_refW D_refW.2 D_refW.1.kp b_refW G_whole D_whole.2 D_whole.1.kp b_whole
  have G_cuts : FnOk P w K mg base CX0 13 f_cuts e_cuts _ _ := ok_cuts (l := 0) (by omega) (by omega) D_cuts.1 G_refP D_refP.2 D_refP.1.kp b_refP G_refW D_refW.2 D_refW.1.kp b_refW G_stops D_stops.2 D_stops.1.kp b_stops
  have G_edInit : FnOk P w K mg base CX0 1 f_edInit e_edInit _ _ := ok_edInit F_edInit O_E
  have G_pkInit : FnOk P w K mg base CX0 1 f_pkInit e_pkInit _ _ := ok_pkInit F_pkInit O_P
  have G_edn : FnOk P w K mg base CX0 1 f_edn e_edn _ _ := ok_edn (CE := CE) F_edn O_P
  have G_nds : FnOk P w K mg base CX0 1 f_nds e_nds _ _ := ok_nds F_nds O_P O_E
  have G_drInit : FnOk P w K mg base CX0 1 f_drInit e_drInit _ _ := ok_drInit F_drInit O_D
  have G_line : FnOk P w K mg base CX0 1 f_line e_line _ _ := ok_line F_line T O_D
  have G_take : FnOk P w K mg base CX0 1 f_take e_take _ _ := ok_take F_take O_D
  have Dn : DrFns P w K mg base CD f_line f_take e_line e_take := ⟨O_D, G_line, M_line, b_line, G_take, M_take, b_take⟩
  have G_inSeq : FnOk P w K mg base CX0 1 f_inSeq e_inSeq _ _ := ok_inSeq D_inSeq.1 T
  have G_told : FnOk P w K mg base CX0 1 f_told e_told _ _ := ok_told D_told.1
  have G_mul : FnOk P w K mg base CX0 1 f_mul e_mul _ _ := ok_mul D_mul.1 T
  have G_dbl : FnOk P w K mg base CX0 2 f_dbl e_dbl _ _ := ok_dbl D_dbl.1 T G_told D_told.2 D_told.1.kp b_told
  have G_met : FnOk P w K mg base CX0 2 f_met e_met _ _ := ok_met D_met.1 T O_P O_E G_edn M_edn b_edn
  have G_names : FnOk P w K mg base CX0 3 f_names e_names _ _ := ok_names (C := CD) D_names.1 T O_D G_cmdOf D_cmdOf.2 D_cmdOf.1.kp b_cmdOf G_met D_met.2 D_met.1.kp b_met G_edNum D_edNum.2 D_edNum.1.kp b_edNum
  have G_unn : FnOk P w K mg base CX0 4 f_unn e_unn _ _ := ok_unn D_unn.1 T O_D G_names D_names.2 D_names.1.kp b_names
  have G_ringB : FnOk P w K mg base CX0 1 f_ringB e_ringB _ _ := ok_ringB D_ringB.1
  have G_ring : FnOk P w K mg base CX0 2 f_ring e_ring _ _ := ok_ring D_ring.1 O_P G_ringB D_ringB.2 D_ringB.1.kp b_ringB G_nds M_nds b_nds
  have G_pst : FnOk P w K mg base CX0 1 f_pst e_pst _ _ := ok_pst D_pst.1 T O_E
  have G_ups : FnOk P w K mg base CX0 2 f_ups e_ups _ _ := ok_ups (CP := CP) D_ups.1 T O_P G_pst D_pst.2 D_pst.1.kp b_pst G_edn M_edn b_edn
  have G_most : FnOk P w K mg base CX0 3 f_most e_most _ _ := ok_most D_most.1 T G_ups D_ups.2 D_ups.1.kp b_ups
  have G_ref : FnOk P w K mg base CX0 5 f_ref e_ref _ _ := ok_ref D_ref.1 O_D G_dbl D_dbl.2 D_dbl.1.kp b_dbl G_unn D_unn.2 D_unn.1.kp b_unn G_ring D_ring.2 D_ring.1.kp b_ring G_mul D_mul.2 D_mul.1.kp b_mul G_most D_most.2 D_most.1.kp b_most (xW.imp fun _ h => m h) (xS.imp fun _ h => m h)
  have G_draft : ∀ text, isText text → FnOk P w K mg base CX0 21 f_draft e_draft ["text"] (spDraft [(PE, qEd), (PP, qPk)] CD CP CE text) := by
    intro text ht
    have hj := hj_of ht
    have G_c0 : FnOk P w K mg base CX0 5 f_command e_command _ (spCommand CD (Txt.split text feed) 0) := ok_command0 (ls := (Txt.split text feed)) (fF := f_fits) (fdF := e_fits) D_command.1 T Dn G_plain D_plain.2 D_plain.1.kp b_plain
    have G_cs0 : FnOk P w K mg base CX0 6 f_commands e_commands _ (spCommands CD (Txt.split text feed) 0) := ok_commands D_commands.1 T G_c0 D_command.2 D_command.1.kp b_command
    have G_i0 : FnOk P w K mg base CX0 7 f_iff e_iff _ (spIf CD (Txt.split text feed) 0) := ok_if (by omega) D_iff.1 Dn G_cs0 D_commands.2 D_commands.1.kp b_commands
    have G_c1 : FnOk P w K mg base CX0 8 f_command e_command _ (spCommand CD (Txt.split text feed) 1) := ok_command1 (by omega) D_command.1 T Dn G_plain D_plain.2 D_plain.1.kp b_plain G_fits D_fits.2 D_fits.1.kp b_fits G_i0 D_iff.2 D_iff.1.kp b_iff
    have G_cs1 : FnOk P w K mg base CX0 9 f_commands e_commands _ (spCommands CD (Txt.split text feed) 1) := ok_commands D_commands.1 T G_c1 D_command.2 D_command.1.kp b_command
    have G_i1 : FnOk P w K mg base CX0 10 f_iff e_iff _ (spIf CD (Txt.split text feed) 1) := ok_if (by omega) D_iff.1 Dn G_cs1 D_commands.2 D_commands.1.kp b_commands
    have G_c2 : FnOk P w K mg base CX0 11 f_command e_command _ (spCommand CD (Txt.split text feed) 2) := ok_command1 (by omega) D_command.1 T Dn G_plain D_plain.2 D_plain.1.kp b_plain G_fits D_fits.2 D_fits.1.kp b_fits G_i1 D_iff.2 D_iff.1.kp b_iff
    have G_cs2 : FnOk P w K mg base CX0 12 f_commands e_commands _ (spCommands CD (Txt.split text feed) 2) := ok_commands D_commands.1 T G_c2 D_command.2 D_command.1.kp b_command
    have G_need : FnOk P w K mg base CX0 4 f_need e_need _ (spPart CD CE (Txt.split text feed) fun n m => some (mNeed (Txt.split text feed) n m)) := ok_need D_need.1 Dn O_E G_fits D_fits.2 D_fits.1.kp b_fits
    have G_laid : FnOk P w K mg base CX0 4 f_laid e_laid _ (spPart CD CE (Txt.split text feed) fun n m => some (mLaid (Txt.split text feed) n m)) := ok_laid D_laid.1 Dn O_E G_fits D_fits.2 D_fits.1.kp b_fits
    have G_program : FnOk P w K mg base CX0 13 f_program e_program _ (spPart CD CE (Txt.split text feed) (mProgram (Txt.split text feed))) := ok_program (by omega) D_program.1 Dn O_E hj (m xN) xNt G_cs2 D_commands.2 D_commands.1.kp b_commands
    have G_edition : FnOk P w K mg base CX0 16 f_edition e_edition _ (spEdition [(PE, qEd), (PP, qPk)] CD CP CE (Txt.split text feed)) := ok_edition (k := 13) (by omega) D_edition.1 T Dn O_P D_several.1 b_several D_several.2 D_several.1.kp (G_need.mono (k := 13) (by omega)) D_need.2 D_need.1.kp b_need (G_laid.mono (k := 13) (by omega)) D_laid.2 D_laid.1.kp b_laid G_program D_program.2 D_program.1.kp b_program M_edInit G_edInit (m c_E) b_edInit TE hcE (by simp) (fun r hr e => by simp at hr; rcases hr with rfl | rfl <;> first | exact absurd e.symm nEP | rfl)
    have G_trigger : FnOk P w K mg base CX0 13 f_trigger e_trigger _ (spTrigger CD CP CE (Txt.split text feed)) := ok_trigger (by omega) D_trigger.1 T Dn O_P G_fits D_fits.2 D_fits.1.kp b_fits G_cs2 D_commands.2 D_commands.1.kp b_commands
    have G_package : FnOk P w K mg base CX0 19 f_package e_package _ (spPackage [(PE, qEd), (PP, qPk)] CD CP CE (Txt.split text feed)) := ok_package (k := 16) (by omega) D_package.1 T Dn G_fits D_fits.2 D_fits.1.kp b_fits D_several.1 b_several D_several.2 D_several.1.kp G_edition D_edition.2 D_edition.1.kp b_edition (G_trigger.mono (k := 16) (by omega)) D_trigger.2 D_trigger.1.kp b_trigger M_pkInit G_pkInit (m c_P) b_pkInit TP hcP (by simp) (fun r hr e => by simp at hr; rcases hr with rfl | rfl <;> first | exact absurd e nEP | rfl)
    have G_cell : FnOk P w K mg base CX0 4 f_cell e_cell _ (spCell CD (Txt.split text feed)) := ok_cell D_cell.1 T Dn G_cellLine D_cellLine.2 D_cellLine.1.kp b_cellLine
    have G_set : FnOk P w K mg base CX0 5 f_set e_set _ (spSet CD (Txt.split text feed)) := ok_set D_set.1 T Dn G_setLine D_setLine.2 D_setLine.1.kp b_setLine G_inSeq D_inSeq.2 D_inSeq.1.kp b_inSeq G_edNum D_edNum.2 D_edNum.1.kp b_edNum
    exact ok_draft (k := 19) (by omega) D_draft.1 T O_D D_several.1 b_several D_several.2 D_several.1.kp (G_cell.mono (by omega)) D_cell.2 b_cell (KB _ _ lkC) G_package D_package.2 b_package (KB _ _ lkP) (G_set.mono (by omega)) D_set.2 b_set (KB _ _ lkS) M_drInit G_drInit (m c_D) b_drInit
  have G_reInit : FnOk P w K mg base CX0 22 f_reInit e_reInit _ (spReInit [(PE, qEd), (PP, qPk)] isText CR) := ok_reInit (k := 21) (by omega) F_reInit T O_D O_P O_R nD nP G_draft D_draft.2 D_draft.1.kp b_draft G_ref D_ref.2 D_ref.1.kp b_ref
  have G_pot : FnOk P w K mg base CX0 1 f_pot e_pot _ _ := ok_pot D_pot.1 T0
  have G_ltake : FnOk P w K mg base CX0 1 f_ltake e_ltake _ _ := ok_ltake D_ltake.1 T0
  have G_of : FnOk P w K mg base CX0 2 f_of e_of _ _ := ok_of D_of.1 T0 G_ltake D_ltake.2 D_ltake.1.kp b_ltake
  have G_lrel : FnOk P w K mg base CX0 24 f_lrel e_lrel _ _ := ok_lrel (k := 22) D_lrel.1 T M_reInit G_reInit (m c_R) b_reInit
  have G_turned : FnOk P w K mg base CX0 14 f_turned e_turned _ (spChk CR) := ok_turned D_turned.1 G_done D_done.2 D_done.1.kp b_done G_cuts D_cuts.2 D_cuts.1.kp b_cuts
  have G_tests : FnOk P w K mg base CX0 14 f_tests e_tests _ (spChk CR) := ok_tests D_tests.1 T G_done D_done.2 D_done.1.kp b_done G_cuts D_cuts.2 D_cuts.1.kp b_cuts
  have G_fails : FnOk P w K mg base CX0 14 f_fails e_fails _ (spChk CR) := ok_fails D_fails.1 T G_done D_done.2 D_done.1.kp b_done G_cuts D_cuts.2 D_cuts.1.kp b_cuts
  have G_still : FnOk P w K mg base CX0 14 f_still e_still _ (spChk CR) := ok_still D_still.1 T G_done D_done.2 D_done.1.kp b_done G_cuts D_cuts.2 D_cuts.1.kp b_cuts
  exact ok_law (l := 24) (by omega) D_law.1 TL G_pot D_pot.2 D_pot.1.kp b_pot G_of D_of.2 D_of.1.kp b_of G_lrel D_lrel.2 D_lrel.1.kp b_lrel (G_turned.mono (k := 24) (by omega)) D_turned.2 D_turned.1.kp b_turned (G_tests.mono (k := 24) (by omega)) D_tests.2 D_tests.1.kp b_tests (G_fails.mono (k := 24) (by omega)) D_fails.2 D_fails.1.kp b_fails (G_still.mono (k := 24) (by omega)) D_still.2 D_still.1.kp b_still
end Sc

namespace Sc
open PySem L2 PySem.Spec PyProof.Rows
theorem fun_mk2 {K : PySem.W.Frag} {x qual : Str} {st : Stmt} {f : Addr} {oc : Value} {od an : Option Addr} {osl : Array (Option Value)} {kV doc pm cdv ct : Value}
    (l : K.lookup f = some ⟨oc, od, .func (PySem.W.fnOf x qual (defArgs st) (defBody st) (defScope st) .none kV doc pm an cdv ct), osl⟩) (c : PySem.W.codeIn K cdv qual = true) (k : PySem.W.keepIn K (.ref f) = true) :
    Fun K x qual st f (PySem.W.fnOf x qual (defArgs st) (defBody st) (defScope st) .none kV doc pm an cdv ct) := fun_mk (st := st) l c k
theorem vals_strs {xs : List Str} {its : List Value} (h : (its.map fun v => match v with | .str x _ => some x | _ => none) = xs.map some) : L2.Vals (xs.map L2.V.str) its := by
  induction xs generalizing its with
  | nil =>
    cases its with
    | nil => exact .nil
    | cons a as => simp at h
  | cons x xs ih =>
    cases its with
    | nil => simp at h
    | cons a as =>
      rw [List.map_cons, List.map_cons, List.cons.injEq] at h
      refine .cons ?_ (ih h.2)
      have h1 := h.1
      split at h1
      · rename_i y t
        cases h1
        exact ⟨t, rfl⟩
      · cases h1
theorem all10L {l : PySem.W.OpenLaw} {w : World} {K : PySem.W.Frag} {h : Heap} {mg : Str → Option Value} {fa CE CP CD CR rA pA nA cE PE cP PP : Addr} {dC dP dS dxR dxP dxN odE odP : Option Addr} {oC oP oS : Value} {lC lP lS sxR sxP sxN slE slP : Array (Option Value)} {ixR ixP ixN vsE vsP : Array Value} {nxR nxP nxN : Nat} {tL tD tW tS : Tok} (X : K.In h) (G : h.Ns mainGlobals mg) (hfa : mg "law" = some (.ref fa))
    {f_has f_copy f_cmdOf f_spelled f_name f_number f_fits f_plain f_cellLine f_setLine f_edNum f_isRow f_isWords f_isProg f_isPart f_isCmd f_isIf f_done f_cuts f_refP f_refW f_whole f_stops f_run f_part f_behind f_joined f_draft f_several f_cell f_package f_edition f_need f_laid f_program f_trigger f_commands f_command f_iff f_set f_inSeq f_pst f_ups f_ref f_dbl f_told f_unn f_names f_met f_ring f_ringB f_mul f_most f_pot f_ltake f_of f_lrel f_turned f_tests f_fails f_still f_law f_edInit f_pkInit f_edn f_nds f_drInit f_line f_take f_reInit : Addr} {e_has e_copy e_cmdOf e_spelled e_name e_number e_fits e_plain e_cellLine e_setLine e_edNum e_isRow e_isWords e_isProg e_isPart e_isCmd e_isIf e_done e_cuts e_refP e_refW e_whole e_stops e_run e_part e_behind e_joined e_draft e_several e_cell e_package e_edition e_need e_laid e_program e_trigger e_commands e_command e_iff e_set e_inSeq e_pst e_ups e_ref e_dbl e_told e_unn e_names e_met e_ring e_ringB e_mul e_most e_pot e_ltake e_of e_lrel e_turned e_tests e_fails e_still e_law e_edInit e_pkInit e_edn e_nds e_drInit e_line e_take e_reInit : FuncData}
    (D_has : DefAt K mg "has_word" sHas f_has e_has)
    (D_copy : DefAt K mg "can_copy" sCopy f_copy e_copy)
    (D_cmdOf : DefAt K mg "is_command_of" sCmdOf f_cmdOf e_cmdOf)
    (D_spelled : DefAt K mg "is_spelled" sSpelled f_spelled e_spelled)
    (D_name : DefAt K mg "is_name" sName f_name e_name)
    (D_number : DefAt K mg "is_number" sNumber f_number e_number)
    (D_fits : DefAt K mg "fits" sFits f_fits e_fits)
    (D_plain : DefAt K mg "is_plain_command" sPlain f_plain e_plain)
    (D_cellLine : DefAt K mg "is_cell_line" sCellLine f_cellLine e_cellLine)
    (D_setLine : DefAt K mg "is_set_line" sSetLine f_setLine e_setLine)
    (D_edNum : DefAt K mg "edition_number" sEdNum f_edNum e_edNum)
    (D_isRow : DefAt K mg "is_row" sRow f_isRow e_isRow)
    (D_isWords : DefAt K mg "is_words" sIsWords f_isWords e_isWords)
    (D_isProg : DefAt K mg "is_program" sIsProg f_isProg e_isProg)
    (D_isPart : DefAt K mg "is_part" sIsPart f_isPart e_isPart)
    (D_isCmd : DefAt K mg "is_command" sIsCmd f_isCmd e_isCmd)
    (D_isIf : DefAt K mg "is_if" sIsIf f_isIf e_isIf)
    (D_done : DefAt K mg "done" sDone f_done e_done)
    (D_cuts : DefAt K mg "cuts" sCuts f_cuts e_cuts)
    (D_refP : DefAt K mg "refuse_program" sRefP f_refP e_refP)
    (D_refW : DefAt K mg "refuse_words" sRefW f_refW e_refW)
    (D_whole : DefAt K mg "whole_run" sWhole f_whole e_whole)
    (D_stops : DefAt K mg "stops" sStops f_stops e_stops)
    (D_run : DefAt K mg "run_commands" sRun f_run e_run)
    (D_part : DefAt K mg "part_to_run" sPart f_part e_part)
    (D_behind : DefAt K mg "state_behind" sBehind f_behind e_behind)
    (D_joined : DefAt K mg "joined" sJoined f_joined e_joined)
    (D_draft : DefAt K mg "read_draft" sDraft f_draft e_draft)
    (D_several : DefAt K mg "read_several" sSeveral f_several e_several)
    (D_cell : DefAt K mg "read_cell" sCell f_cell e_cell)
    (D_package : DefAt K mg "read_package" sPackage f_package e_package)
    (D_edition : DefAt K mg "read_edition" sEdition f_edition e_edition)
    (D_need : DefAt K mg "read_need" sNeed f_need e_need)
    (D_laid : DefAt K mg "read_laid" sLaid f_laid e_laid)
    (D_program : DefAt K mg "read_program" sProgram f_program e_program)
    (D_trigger : DefAt K mg "read_trigger" sTrigger f_trigger e_trigger)
    (D_commands : DefAt K mg "read_commands" sCommands f_commands e_commands)
    (D_command : DefAt K mg "read_command" sCommand f_command e_command)
    (D_iff : DefAt K mg "read_if" sIf f_iff e_iff)
    (D_set : DefAt K mg "read_set" sSet f_set e_set)
    (D_inSeq : DefAt K mg "in_sequence" sInSeq f_inSeq e_inSeq)
    (D_pst : DefAt K mg "package_steps" sPst f_pst e_pst)
    (D_ups : DefAt K mg "upgrade_steps" sUps f_ups e_ups)
    (D_ref : DefAt K mg "refuse_wrong" sRef f_ref e_ref)
    (D_dbl : DefAt K mg "first_doubled" sDbl f_dbl e_dbl)
    (D_told : DefAt K mg "told_once" sTold f_told e_told)
    (D_unn : DefAt K mg "first_unnamed" sUnn f_unn e_unn)
    (D_names : DefAt K mg "names_rightly" sNames f_names e_names)
    (D_met : DefAt K mg "is_met" sMet f_met e_met)
    (D_ring : DefAt K mg "ring_of_needs" sRing f_ring e_ring)
    (D_ringB : DefAt K mg "ring_behind" sRingB f_ringB e_ringB)
    (D_mul : DefAt K mg "words_multiplied" sMul f_mul e_mul)
    (D_most : DefAt K mg "most_steps" sMost f_most e_most)
    (D_pot : DefAt K mg "_law_pot_of" sPot f_pot e_pot)
    (D_ltake : DefAt K mg "_law_take" sLTake f_ltake e_ltake)
    (D_of : DefAt K mg "_law_of" sOf f_of e_of)
    (D_lrel : DefAt K mg "_law_release" sLRel f_lrel e_lrel)
    (D_turned : DefAt K mg "_law_turned_right" sTurned f_turned e_turned)
    (D_tests : DefAt K mg "_law_tests_right" sTests f_tests e_tests)
    (D_fails : DefAt K mg "_law_fails_right" sFails f_fails e_fails)
    (D_still : DefAt K mg "_law_still_right" sStill f_still e_still)
    (D_law : DefAt K mg "law" sLaw f_law e_law)
    (c_E : PySem.W.nsIn K mainGlobals "Edition" = some (some (.ref CE)))
    (c_P : PySem.W.nsIn K mainGlobals "Package" = some (some (.ref CP)))
    (c_D : PySem.W.nsIn K mainGlobals "Draft" = some (some (.ref CD)))
    (c_R : PySem.W.nsIn K mainGlobals "Release" = some (some (.ref CR)))
    (at_edInit : PySem.W.findIn K (.ref CE) "__init__" = some (some (.ref f_edInit)))
    (at_pkInit : PySem.W.findIn K (.ref CP) "__init__" = some (some (.ref f_pkInit)))
    (at_edn : PySem.W.findIn K (.ref CP) "edition" = some (some (.ref f_edn)))
    (at_nds : PySem.W.findIn K (.ref CP) "all_needs" = some (some (.ref f_nds)))
    (at_drInit : PySem.W.findIn K (.ref CD) "__init__" = some (some (.ref f_drInit)))
    (at_line : PySem.W.findIn K (.ref CD) "line_words" = some (some (.ref f_line)))
    (at_take : PySem.W.findIn K (.ref CD) "take" = some (some (.ref f_take)))
    (at_reInit : PySem.W.findIn K (.ref CR) "__init__" = some (some (.ref f_reInit)))
    (F_edInit : Fun K "__init__" "Edition.__init__" sEdInit f_edInit e_edInit)
    (isf_edInit : PySem.W.isFn K (.ref f_edInit) = true)
    (mk1_edInit : PySem.W.makesIn K CE = true)
    (mk4_edInit : PySem.W.keepIn K (.ref CE) = true)
    (F_pkInit : Fun K "__init__" "Package.__init__" sPkInit f_pkInit e_pkInit)
    (isf_pkInit : PySem.W.isFn K (.ref f_pkInit) = true)
    (mk1_pkInit : PySem.W.makesIn K CP = true)
    (mk4_pkInit : PySem.W.keepIn K (.ref CP) = true)
    (F_edn : Fun K "edition" "Package.edition" sEdn f_edn e_edn)
    (isf_edn : PySem.W.isFn K (.ref f_edn) = true)
    (kp_edn : PySem.W.keepIn K (.ref f_edn) = true)
    (F_nds : Fun K "all_needs" "Package.all_needs" sNds f_nds e_nds)
    (isf_nds : PySem.W.isFn K (.ref f_nds) = true)
    (kp_nds : PySem.W.keepIn K (.ref f_nds) = true)
    (F_drInit : Fun K "__init__" "Draft.__init__" sDrInit f_drInit e_drInit)
    (isf_drInit : PySem.W.isFn K (.ref f_drInit) = true)
    (mk1_drInit : PySem.W.makesIn K CD = true)
    (mk4_drInit : PySem.W.keepIn K (.ref CD) = true)
    (F_line : Fun K "line_words" "Draft.line_words" sLineWords f_line e_line)
    (isf_line : PySem.W.isFn K (.ref f_line) = true)
    (kp_line : PySem.W.keepIn K (.ref f_line) = true)
    (F_take : Fun K "take" "Draft.take" sTake f_take e_take)
    (isf_take : PySem.W.isFn K (.ref f_take) = true)
    (kp_take : PySem.W.keepIn K (.ref f_take) = true)
    (F_reInit : Fun K "__init__" "Release.__init__" sReInit f_reInit e_reInit)
    (isf_reInit : PySem.W.isFn K (.ref f_reInit) = true)
    (mk1_reInit : PySem.W.makesIn K CR = true)
    (mk4_reInit : PySem.W.keepIn K (.ref CR) = true)
    (pg_E : PySem.W.plainGet K CE Str.empty = true)
    (hd_E : PySem.W.hasDictIn K CE = true)
    (po_E : PySem.W.plainOver K CE = true)
    (sa_E : PySem.W.findIn K (.ref CE) "__setattr__" = some (some (.builtin "object.__setattr__")))
    (no_E_needs : PySem.W.findIn K (.ref CE) "needs" = some none)
    (no_E_lays : PySem.W.findIn K (.ref CE) "lays" = some none)
    (no_E_programs : PySem.W.findIn K (.ref CE) "programs" = some none)
    (pg_P : PySem.W.plainGet K CP Str.empty = true)
    (hd_P : PySem.W.hasDictIn K CP = true)
    (po_P : PySem.W.plainOver K CP = true)
    (sa_P : PySem.W.findIn K (.ref CP) "__setattr__" = some (some (.builtin "object.__setattr__")))
    (no_P_editions : PySem.W.findIn K (.ref CP) "editions" = some none)
    (no_P_at_programs : PySem.W.findIn K (.ref CP) "at_programs" = some none)
    (pg_D : PySem.W.plainGet K CD Str.empty = true)
    (hd_D : PySem.W.hasDictIn K CD = true)
    (po_D : PySem.W.plainOver K CD = true)
    (sa_D : PySem.W.findIn K (.ref CD) "__setattr__" = some (some (.builtin "object.__setattr__")))
    (no_D_lines : PySem.W.findIn K (.ref CD) "lines" = some none)
    (no_D_line : PySem.W.findIn K (.ref CD) "line" = some none)
    (no_D_rows : PySem.W.findIn K (.ref CD) "rows" = some none)
    (no_D_cells : PySem.W.findIn K (.ref CD) "cells" = some none)
    (no_D_owned : PySem.W.findIn K (.ref CD) "owned" = some none)
    (no_D_packages : PySem.W.findIn K (.ref CD) "packages" = some none)
    (no_D_triggers : PySem.W.findIn K (.ref CD) "triggers" = some none)
    (no_D_sets : PySem.W.findIn K (.ref CD) "sets" = some none)
    (pg_R : PySem.W.plainGet K CR Str.empty = true)
    (hd_R : PySem.W.hasDictIn K CR = true)
    (po_R : PySem.W.plainOver K CR = true)
    (sa_R : PySem.W.findIn K (.ref CR) "__setattr__" = some (some (.builtin "object.__setattr__")))
    (no_R_text : PySem.W.findIn K (.ref CR) "text" = some none)
    (no_R_cells : PySem.W.findIn K (.ref CR) "cells" = some none)
    (no_R_packages : PySem.W.findIn K (.ref CR) "packages" = some none)
    (no_R_sets : PySem.W.findIn K (.ref CR) "sets" = some none)
    (no_R_words_of : PySem.W.findIn K (.ref CR) "words_of" = some none)
    (no_R_owned : PySem.W.findIn K (.ref CR) "owned" = some none)
    (no_R_triggers : PySem.W.findIn K (.ref CR) "triggers" = some none)
    (no_R_parts : PySem.W.findIn K (.ref CR) "parts" = some none)
    (no_R_homes : PySem.W.findIn K (.ref CR) "homes" = some none)
    (no_R_members : PySem.W.findIn K (.ref CR) "members" = some none)
    (nD : CD ≠ CR)
    (nP : CP ≠ CR)
    (xL : PySem.W.nsIn K mainGlobals "LETTERS" = some (some (.str letters tL)))
    (xD : PySem.W.nsIn K mainGlobals "DIGITS" = some (some (.str digits tD)))
    (xR : PySem.W.nsIn K mainGlobals "RESERVED" = some (some (.ref rA)))
    (lxR : K.lookup rA = some ⟨.type "tuple", dxR, .seq ixR nxR, sxR⟩)
    (sxR : ixR.size ≤ sizeLine)
    (vxR : Vals (reserved.map V.str) ixR.toList)
    (xP : PySem.W.nsIn K mainGlobals "PLAIN_COMMANDS" = some (some (.ref pA)))
    (lxP : K.lookup pA = some ⟨.type "tuple", dxP, .seq ixP nxP, sxP⟩)
    (sxP : ixP.size ≤ sizeLine)
    (vxP : Vals (plainForms.map V.str) ixP.toList)
    (xN : PySem.W.nsIn K mainGlobals "PROGRAM_NAMES" = some (some (.ref nA)))
    (lxN : K.lookup nA = some ⟨.type "tuple", dxN, .seq ixN nxN, sxN⟩)
    (sxN : ixN.size ≤ sizeLine)
    (vxN : Vals (programNames.map V.str) ixN.toList)
    (xW : PySem.W.nsIn K mainGlobals "MOST_WORDS" = some (some (.int 60 tW)))
    (xS : PySem.W.nsIn K mainGlobals "MOST_STEPS" = some (some (.int 6 tS)))
    (lkC : K.lookup f_cell = some ⟨oC, dC, .func e_cell, lC⟩)
    (lkP : K.lookup f_package = some ⟨oP, dP, .func e_package, lP⟩)
    (lkS : K.lookup f_set = some ⟨oS, dS, .func e_set, lS⟩)
    (hcE : e_edition.code = .ref cE)
    (hcP : e_package.code = .ref cP)
    (kcE : K.lookup cE = some ⟨.type "code", odE, .fields vsE, slE⟩)
    (pE : vsE[11]? = some (.ref PE))
    (kcP : K.lookup cP = some ⟨.type "code", odP, .fields vsP, slP⟩)
    (pP : vsP[11]? = some (.ref PP))
    (nEP : PE ≠ PP)
    (z_len : PySem.W.nsIn K mainGlobals "len" = some none)
    (z_all : PySem.W.nsIn K mainGlobals "all" = some none)
    (z_any : PySem.W.nsIn K mainGlobals "any" = some none)
    (z_zip : PySem.W.nsIn K mainGlobals "zip" = some none)
    (z_int : PySem.W.nsIn K mainGlobals "int" = some none)
    (z_str : PySem.W.nsIn K mainGlobals "str" = some none)
    (z_list : PySem.W.nsIn K mainGlobals "list" = some none)
    (z_tuple : PySem.W.nsIn K mainGlobals "tuple" = some none)
    (z_sorted : PySem.W.nsIn K mainGlobals "sorted" = some none)
    (z_enumerate : PySem.W.nsIn K mainGlobals "enumerate" = some none)
    (z_max : PySem.W.nsIn K mainGlobals "max" = some none)
    (z_set : PySem.W.nsIn K mainGlobals "set" = some none)
    (z_isinstance : PySem.W.nsIn K mainGlobals "isinstance" = some none)
    (z_range : PySem.W.nsIn K mainGlobals "range" = some none)
    (z_min : PySem.W.nsIn K mainGlobals "min" = some none)
    (z_abs : PySem.W.nsIn K mainGlobals "abs" = some none)
    (b_has : Binds K e_has ["cells", "cell", "word"] [])
    (b_copy : Binds K e_copy ["cells", "one", "other"] [])
    (b_cmdOf : Binds K e_cmdOf ["cells", "triggers", "command"] [])
    (b_spelled : Binds K e_spelled ["word"] [])
    (b_name : Binds K e_name ["word"] [])
    (b_number : Binds K e_number ["word"] [])
    (b_fits : Binds K e_fits ["words", "form"] [])
    (b_plain : Binds K e_plain ["words"] [])
    (b_cellLine : Binds K e_cellLine ["words"] [])
    (b_setLine : Binds K e_setLine ["words"] [])
    (b_edNum : Binds K e_edNum ["word"] [])
    (b_isRow : Binds K e_isRow ["value", "many"] [])
    (b_isWords : Binds K e_isWords ["release", "value"] [])
    (b_isProg : Binds K e_isProg ["release", "value"] [])
    (b_isPart : Binds K e_isPart ["release", "value", "least", "most", "ifs"] [])
    (b_isCmd : Binds K e_isCmd ["release", "value", "ifs"] [])
    (b_isIf : Binds K e_isIf ["release", "value", "ifs"] [])
    (b_done : Binds K e_done ["release", "program", "words"] [])
    (b_cuts : Binds K e_cuts ["release", "program", "words"] [])
    (b_refP : Binds K e_refP ["release", "program"] [])
    (b_refW : Binds K e_refW ["release", "words"] [])
    (b_whole : Binds K e_whole ["release", "program", "words"] [])
    (b_stops : Binds K e_stops ["release", "program", "words"] [])
    (b_run : Binds K e_run ["release", "program", "states"] [])
    (b_part : Binds K e_part ["release", "command", "words"] [])
    (b_behind : Binds K e_behind ["release", "command", "state"] [])
    (b_joined : Binds K e_joined ["wakes", "more"] [])
    (b_draft : Binds K e_draft ["text"] [])
    (b_several : Binds K e_several ["read", "draft", "least", "most"] [])
    (b_cell : Binds K e_cell ["draft"] [])
    (b_package : Binds K e_package ["draft"] [])
    (b_edition : Binds K e_edition ["draft", "package"] [])
    (b_need : Binds K e_need ["draft", "edition"] [])
    (b_laid : Binds K e_laid ["draft", "edition"] [])
    (b_program : Binds K e_program ["draft", "edition"] [])
    (b_trigger : Binds K e_trigger ["draft", "package"] [])
    (b_commands : Binds K e_commands ["draft", "depth", "most", "ifs"] [])
    (b_command : Binds K e_command ["draft", "depth", "ifs"] [])
    (b_iff : Binds K e_iff ["draft", "depth", "ifs", "words"] [])
    (b_set : Binds K e_set ["draft"] [])
    (b_inSeq : Binds K e_inSeq ["packages", "names"] [])
    (b_pst : Binds K e_pst ["name", "elder", "newer"] [])
    (b_ups : Binds K e_ups ["packages", "elder", "newer"] [])
    (b_ref : Binds K e_ref ["draft"] [])
    (b_dbl : Binds K e_dbl ["rows"] [])
    (b_told : Binds K e_told ["kind", "words", "line", "edition"] [])
    (b_unn : Binds K e_unn ["draft"] [])
    (b_names : Binds K e_names ["draft", "kind", "words"] [])
    (b_met : Binds K e_met ["packages", "members", "name", "number"] [])
    (b_ring : Binds K e_ring ["packages"] [])
    (b_ringB : Binds K e_ringB ["needs", "path"] [])
    (b_mul : Binds K e_mul ["cells"] [])
    (b_most : Binds K e_most ["packages", "sets"] [])
    (b_pot : Binds K e_pot ["_law_script", "_law_k"] [])
    (b_ltake : Binds K e_ltake ["_law_pot", "_law_upto"] [])
    (b_of : Binds K e_of ["_law_pot", "_law_some"] [])
    (b_lrel : Binds K e_lrel ["_law_words"] [])
    (b_turned : Binds K e_turned ["_law_release_here", "_law_x", "_law_y", "_law_z"] [])
    (b_tests : Binds K e_tests ["_law_release_here", "_law_x", "_law_y", "_law_z"] [])
    (b_fails : Binds K e_fails ["_law_release_here", "_law_x", "_law_y", "_law_z"] [])
    (b_still : Binds K e_still ["_law_release_here", "_law_x", "_law_y", "_law_z"] [])
    (b_edInit : Binds K e_edInit ["self"] [])
    (b_pkInit : Binds K e_pkInit ["self"] [])
    (b_edn : Binds K e_edn ["self", "number"] [])
    (b_nds : Binds K e_nds ["self"] [])
    (b_drInit : Binds K e_drInit ["self", "text"] [])
    (b_line : Binds K e_line ["self", "depth"] [])
    (b_take : Binds K e_take ["self", "kind", "words"] [])
    (b_reInit : Binds K e_reInit ["self", "text"] [])
    (hB : ∀ (s : Shared) (u : Value), BindsTo s e_law ⟨[u], []⟩ [("_law_script", u)])
    (tE : h.get? PE = some { cls := .none, data := .fields #[] })
    (tP : h.get? PP = some { cls := .none, data := .fields #[] })
    (nE : K.lookup PE = none)
    (nPP : K.lookup PP = none)
    (cdE : PySem.W.codeHdIn K cE PE = true)
    (cdP : PySem.W.codeHdIn K cP PP = true) :
    LamX.LawAtS l w K CX0 25 63 "_law_script" mg fa h := by
  obtain ⟨fd, hb, F⟩ := all10 (P := l.prog) (w := w) X G hfa D_has D_copy D_cmdOf D_spelled D_name D_number D_fits D_plain D_cellLine D_setLine D_edNum D_isRow D_isWords D_isProg D_isPart D_isCmd D_isIf D_done D_cuts D_refP D_refW D_whole D_stops D_run D_part D_behind D_joined D_draft D_several D_cell D_package D_edition D_need D_laid D_program D_trigger D_commands D_command D_iff D_set D_inSeq D_pst D_ups D_ref D_dbl D_told D_unn D_names D_met D_ring D_ringB D_mul D_most D_pot D_ltake D_of D_lrel D_turned D_tests D_fails D_still D_law F_edInit F_pkInit F_edn F_nds F_drInit F_line F_take F_reInit ⟨mk1_edInit, at_edInit, isf_edInit, mk4_edInit⟩ ⟨mk1_pkInit, at_pkInit, isf_pkInit, mk4_pkInit⟩ ⟨at_edn, isf_edn, kp_edn⟩ ⟨at_nds, isf_nds, kp_nds⟩ ⟨mk1_drInit, at_drInit, isf_drInit, mk4_drInit⟩ ⟨at_line, isf_line, kp_line⟩ ⟨at_take, isf_take, kp_take⟩ ⟨mk1_reInit, at_reInit, isf_reInit, mk4_reInit⟩ ⟨⟨pg_E, hd_E, po_E, sa_E⟩, fun f hf => by simp only [edNames, List.mem_cons, List.not_mem_nil, or_false] at hf; rcases hf with rfl | rfl | rfl <;> first  | exact no_E_needs | exact no_E_lays | exact no_E_programs⟩ c_E ⟨⟨pg_P, hd_P, po_P, sa_P⟩, fun f hf => by simp only [pkNames, List.mem_cons, List.not_mem_nil, or_false] at hf; rcases hf with rfl | rfl <;> first  | exact no_P_editions | exact no_P_at_programs⟩ c_P ⟨⟨pg_D, hd_D, po_D, sa_D⟩, fun f hf => by simp only [drNames, List.mem_cons, List.not_mem_nil, or_false] at hf; rcases hf with rfl | rfl | rfl | rfl | rfl | rfl | rfl | rfl <;> first  | exact no_D_lines | exact no_D_line | exact no_D_rows | exact no_D_cells | exact no_D_owned | exact no_D_packages | exact no_D_triggers | exact no_D_sets⟩ c_D ⟨⟨pg_R, hd_R, po_R, sa_R⟩, fun f hf => by simp only [reNames, List.mem_cons, List.not_mem_nil, or_false] at hf; rcases hf with rfl | rfl | rfl | rfl | rfl | rfl | rfl | rfl | rfl | rfl <;> first  | exact no_R_text | exact no_R_cells | exact no_R_packages | exact no_R_sets | exact no_R_words_of | exact no_R_owned | exact no_R_triggers | exact no_R_parts | exact no_R_homes | exact no_R_members⟩ c_R nD nP ⟨_, xL⟩ ⟨_, xD⟩ xR (tup_at lxR sxR vxR) xP (tup_at lxP sxP vxP) xN (tup_at lxN sxN vxN) ⟨_, xW⟩ ⟨_, xS⟩ lkC lkP lkS hcE hcP nEP z_len z_all z_any z_zip z_int z_str z_list z_tuple z_sorted z_enumerate z_max z_set z_isinstance z_range z_min z_abs b_has b_copy b_cmdOf b_spelled b_name b_number b_fits b_plain b_cellLine b_setLine b_edNum b_isRow b_isWords b_isProg b_isPart b_isCmd b_isIf b_done b_cuts b_refP b_refW b_whole b_stops b_run b_part b_behind b_joined b_draft b_several b_cell b_package b_edition b_need b_laid b_program b_trigger b_commands b_command b_iff b_set b_inSeq b_pst b_ups b_ref b_dbl b_told b_unn b_names b_met b_ring b_ringB b_mul b_most b_pot b_ltake b_of b_lrel b_turned b_tests b_fails b_still b_edInit b_pkInit b_edn b_nds b_drInit b_line b_take b_reInit hB
  refine ⟨fd, [(cE, PE), (cP, PP)], spLaw [(PE, qEd), (PP, qPk)] K, fun p hp => ?_, fun p hp => ?_, fun p hp => ?_, hb, fun H a ns hl _ hT hS => ?_, fun base KB GB TB => F base KB GB (TB (cE, PE) (by simp)) (TB (cP, PP) (by simp))⟩
  · simp only [List.mem_cons, List.not_mem_nil, or_false] at hp
    rcases hp with rfl | rfl
    · exact tE
    · exact tP
  · simp only [List.mem_cons, List.not_mem_nil, or_false] at hp
    rcases hp with rfl | rfl
    · exact nE
    · exact nPP
  · simp only [List.mem_cons, List.not_mem_nil, or_false] at hp
    rcases hp with rfl | rfl
    · exact PySem.W.codeHd_of_K X cdE
    · exact PySem.W.codeHd_of_K X cdP
  · refine ⟨a, ns, rfl, hS, hl, fun p hp => ?_, fun _ => rfl⟩
    simp only [List.mem_cons, List.not_mem_nil, or_false] at hp
    rcases hp with rfl | rfl
    · exact LamX.TabS.nil (hT (cE, PE) (by simp))
    · exact LamX.TabS.nil (hT (cP, PP) (by simp))
end Sc

open PySem PySem.W PyProof.Rows
set_option maxRecDepth 100000 in
set_option maxHeartbeats 0 in
theorem PySem.Challenge.cw_scriptsamid_k10_runs_known_by_hand_holds : PySem.Challenge.rw_scriptsamid_k10_runs_known_by_hand.Holds := by
  w_on; o_law; k_head; (case hw => w_witness2)
  k_fill
  refine LamX.walk_ofTs (l := PySem.Challenge.rw_scriptsamid_k10_runs_known_by_hand) (n := 63) (k := 25) (x := "_law_script") (CX := fun _ => L2.CX0) rfl (by decide) rfl ⟨rfl, by decide, by decide⟩ (fun w h Y => PySem.W.km_in_of Y) ?F ?C
  case C => exact fun _ _ _ _ _ z => z
  case F =>
    intro w mg fa h Y KX G hmg
    have hT8 := PySem.W.km_tabs_of Y
    refine' Sc.all10L KX G hmg ?D_has ?D_copy ?D_cmdOf ?D_spelled ?D_name ?D_number ?D_fits ?D_plain ?D_cellLine ?D_setLine ?D_edNum ?D_isRow ?D_isWords ?D_isProg ?D_isPart ?D_isCmd ?D_isIf ?D_done ?D_cuts ?D_refP ?D_refW ?D_whole ?D_stops ?D_run ?D_part ?D_behind ?D_joined ?D_draft ?D_several ?D_cell ?D_package ?D_edition ?D_need ?D_laid ?D_program ?D_trigger ?D_commands ?D_command ?D_iff ?D_set ?D_inSeq ?D_pst ?D_ups ?D_ref ?D_dbl ?D_told ?D_unn ?D_names ?D_met ?D_ring ?D_ringB ?D_mul ?D_most ?D_pot ?D_ltake ?D_of ?D_lrel ?D_turned ?D_tests ?D_fails ?D_still ?D_law ?c_E ?c_P ?c_D ?c_R ?at_edInit ?at_pkInit ?at_edn ?at_nds ?at_drInit ?at_line ?at_take ?at_reInit ?F_edInit ?isf_edInit ?mk1_edInit ?mk4_edInit ?F_pkInit ?isf_pkInit ?mk1_pkInit ?mk4_pkInit ?F_edn ?isf_edn ?kp_edn ?F_nds ?isf_nds ?kp_nds ?F_drInit ?isf_drInit ?mk1_drInit ?mk4_drInit ?F_line ?isf_line ?kp_line ?F_take ?isf_take ?kp_take ?F_reInit ?isf_reInit ?mk1_reInit ?mk4_reInit ?pg_E ?hd_E ?po_E ?sa_E ?no_E_needs ?no_E_lays ?no_E_programs ?pg_P ?hd_P ?po_P ?sa_P ?no_P_editions ?no_P_at_programs ?pg_D ?hd_D ?po_D ?sa_D ?no_D_lines ?no_D_line ?no_D_rows ?no_D_cells ?no_D_owned ?no_D_packages ?no_D_triggers ?no_D_sets ?pg_R ?hd_R ?po_R ?sa_R ?no_R_text ?no_R_cells ?no_R_packages ?no_R_sets ?no_R_words_of ?no_R_owned ?no_R_triggers ?no_R_parts ?no_R_homes ?no_R_members ?nD ?nP ?xL ?xD ?xR ?lxR ?sxR ?vxR ?xP ?lxP ?sxP ?vxP ?xN ?lxN ?sxN ?vxN ?xW ?xS ?lkC ?lkP ?lkS ?hcE ?hcP ?kcE ?pE ?kcP ?pP ?nEP ?z_len ?z_all ?z_any ?z_zip ?z_int ?z_str ?z_list ?z_tuple ?z_sorted ?z_enumerate ?z_max ?z_set ?z_isinstance ?z_range ?z_min ?z_abs ?b_has ?b_copy ?b_cmdOf ?b_spelled ?b_name ?b_number ?b_fits ?b_plain ?b_cellLine ?b_setLine ?b_edNum ?b_isRow ?b_isWords ?b_isProg ?b_isPart ?b_isCmd ?b_isIf ?b_done ?b_cuts ?b_refP ?b_refW ?b_whole ?b_stops ?b_run ?b_part ?b_behind ?b_joined ?b_draft ?b_several ?b_cell ?b_package ?b_edition ?b_need ?b_laid ?b_program ?b_trigger ?b_commands ?b_command ?b_iff ?b_set ?b_inSeq ?b_pst ?b_ups ?b_ref ?b_dbl ?b_told ?b_unn ?b_names ?b_met ?b_ring ?b_ringB ?b_mul ?b_most ?b_pot ?b_ltake ?b_of ?b_lrel ?b_turned ?b_tests ?b_fails ?b_still ?b_edInit ?b_pkInit ?b_edn ?b_nds ?b_drInit ?b_line ?b_take ?b_reInit ?hB ?tE ?tP ?nE ?nPP ?cdE ?cdP
    (case D_has => refine' Sc.def_mk KX G "has_word" Sc.sHas ?a1 ?l1 ?c1 ?k1; (case a1 => k_is); (case l1 => k_is); (case c1 => k_is); (case k1 => k_is))
    (case D_copy => refine' Sc.def_mk KX G "can_copy" Sc.sCopy ?a1 ?l1 ?c1 ?k1; (case a1 => k_is); (case l1 => k_is); (case c1 => k_is); (case k1 => k_is))
    (case D_cmdOf => refine' Sc.def_mk KX G "is_command_of" Sc.sCmdOf ?a1 ?l1 ?c1 ?k1; (case a1 => k_is); (case l1 => k_is); (case c1 => k_is); (case k1 => k_is))
    (case D_spelled => refine' Sc.def_mk KX G "is_spelled" Sc.sSpelled ?a1 ?l1 ?c1 ?k1; (case a1 => k_is); (case l1 => k_is); (case c1 => k_is); (case k1 => k_is))
    (case D_name => refine' Sc.def_mk KX G "is_name" Sc.sName ?a1 ?l1 ?c1 ?k1; (case a1 => k_is); (case l1 => k_is); (case c1 => k_is); (case k1 => k_is))
    (case D_number => refine' Sc.def_mk KX G "is_number" Sc.sNumber ?a1 ?l1 ?c1 ?k1; (case a1 => k_is); (case l1 => k_is); (case c1 => k_is); (case k1 => k_is))
    (case D_fits => refine' Sc.def_mk KX G "fits" Sc.sFits ?a1 ?l1 ?c1 ?k1; (case a1 => k_is); (case l1 => k_is); (case c1 => k_is); (case k1 => k_is))
    (case D_plain => refine' Sc.def_mk KX G "is_plain_command" Sc.sPlain ?a1 ?l1 ?c1 ?k1; (case a1 => k_is); (case l1 => k_is); (case c1 => k_is); (case k1 => k_is))
    (case D_cellLine => refine' Sc.def_mk KX G "is_cell_line" Sc.sCellLine ?a1 ?l1 ?c1 ?k1; (case a1 => k_is); (case l1 => k_is); (case c1 => k_is); (case k1 => k_is))
    (case D_setLine => refine' Sc.def_mk KX G "is_set_line" Sc.sSetLine ?a1 ?l1 ?c1 ?k1; (case a1 => k_is); (case l1 => k_is); (case c1 => k_is); (case k1 => k_is))
    (case D_edNum => refine' Sc.def_mk KX G "edition_number" Sc.sEdNum ?a1 ?l1 ?c1 ?k1; (case a1 => k_is); (case l1 => k_is); (case c1 => k_is); (case k1 => k_is))
    (case D_isRow => refine' Sc.def_mk KX G "is_row" Sc.sRow ?a1 ?l1 ?c1 ?k1; (case a1 => k_is); (case l1 => k_is); (case c1 => k_is); (case k1 => k_is))
    (case D_isWords => refine' Sc.def_mk KX G "is_words" Sc.sIsWords ?a1 ?l1 ?c1 ?k1; (case a1 => k_is); (case l1 => k_is); (case c1 => k_is); (case k1 => k_is))
    (case D_isProg => refine' Sc.def_mk KX G "is_program" Sc.sIsProg ?a1 ?l1 ?c1 ?k1; (case a1 => k_is); (case l1 => k_is); (case c1 => k_is); (case k1 => k_is))
    (case D_isPart => refine' Sc.def_mk KX G "is_part" Sc.sIsPart ?a1 ?l1 ?c1 ?k1; (case a1 => k_is); (case l1 => k_is); (case c1 => k_is); (case k1 => k_is))
    (case D_isCmd => refine' Sc.def_mk KX G "is_command" Sc.sIsCmd ?a1 ?l1 ?c1 ?k1; (case a1 => k_is); (case l1 => k_is); (case c1 => k_is); (case k1 => k_is))
    (case D_isIf => refine' Sc.def_mk KX G "is_if" Sc.sIsIf ?a1 ?l1 ?c1 ?k1; (case a1 => k_is); (case l1 => k_is); (case c1 => k_is); (case k1 => k_is))
    (case D_done => refine' Sc.def_mk KX G "done" Sc.sDone ?a1 ?l1 ?c1 ?k1; (case a1 => k_is); (case l1 => k_is); (case c1 => k_is); (case k1 => k_is))
    (case D_cuts => refine' Sc.def_mk KX G "cuts" Sc.sCuts ?a1 ?l1 ?c1 ?k1; (case a1 => k_is); (case l1 => k_is); (case c1 => k_is); (case k1 => k_is))
    (case D_refP => refine' Sc.def_mk KX G "refuse_program" Sc.sRefP ?a1 ?l1 ?c1 ?k1; (case a1 => k_is); (case l1 => k_is); (case c1 => k_is); (case k1 => k_is))
    (case D_refW => refine' Sc.def_mk KX G "refuse_words" Sc.sRefW ?a1 ?l1 ?c1 ?k1; (case a1 => k_is); (case l1 => k_is); (case c1 => k_is); (case k1 => k_is))
    (case D_whole => refine' Sc.def_mk KX G "whole_run" Sc.sWhole ?a1 ?l1 ?c1 ?k1; (case a1 => k_is); (case l1 => k_is); (case c1 => k_is); (case k1 => k_is))
    (case D_stops => refine' Sc.def_mk KX G "stops" Sc.sStops ?a1 ?l1 ?c1 ?k1; (case a1 => k_is); (case l1 => k_is); (case c1 => k_is); (case k1 => k_is))
    (case D_run => refine' Sc.def_mk KX G "run_commands" Sc.sRun ?a1 ?l1 ?c1 ?k1; (case a1 => k_is); (case l1 => k_is); (case c1 => k_is); (case k1 => k_is))
    (case D_part => refine' Sc.def_mk KX G "part_to_run" Sc.sPart ?a1 ?l1 ?c1 ?k1; (case a1 => k_is); (case l1 => k_is); (case c1 => k_is); (case k1 => k_is))
    (case D_behind => refine' Sc.def_mk KX G "state_behind" Sc.sBehind ?a1 ?l1 ?c1 ?k1; (case a1 => k_is); (case l1 => k_is); (case c1 => k_is); (case k1 => k_is))
    (case D_joined => refine' Sc.def_mk KX G "joined" Sc.sJoined ?a1 ?l1 ?c1 ?k1; (case a1 => k_is); (case l1 => k_is); (case c1 => k_is); (case k1 => k_is))
    (case D_draft => refine' Sc.def_mk KX G "read_draft" Sc.sDraft ?a1 ?l1 ?c1 ?k1; (case a1 => k_is); (case l1 => k_is); (case c1 => k_is); (case k1 => k_is))
    (case D_several => refine' Sc.def_mk KX G "read_several" Sc.sSeveral ?a1 ?l1 ?c1 ?k1; (case a1 => k_is); (case l1 => k_is); (case c1 => k_is); (case k1 => k_is))
    (case D_cell => refine' Sc.def_mk KX G "read_cell" Sc.sCell ?a1 ?l1 ?c1 ?k1; (case a1 => k_is); (case l1 => k_is); (case c1 => k_is); (case k1 => k_is))
    (case D_package => refine' Sc.def_mk KX G "read_package" Sc.sPackage ?a1 ?l1 ?c1 ?k1; (case a1 => k_is); (case l1 => k_is); (case c1 => k_is); (case k1 => k_is))
    (case D_edition => refine' Sc.def_mk KX G "read_edition" Sc.sEdition ?a1 ?l1 ?c1 ?k1; (case a1 => k_is); (case l1 => k_is); (case c1 => k_is); (case k1 => k_is))
    (case D_need => refine' Sc.def_mk KX G "read_need" Sc.sNeed ?a1 ?l1 ?c1 ?k1; (case a1 => k_is); (case l1 => k_is); (case c1 => k_is); (case k1 => k_is))
    (case D_laid => refine' Sc.def_mk KX G "read_laid" Sc.sLaid ?a1 ?l1 ?c1 ?k1; (case a1 => k_is); (case l1 => k_is); (case c1 => k_is); (case k1 => k_is))
    (case D_program => refine' Sc.def_mk KX G "read_program" Sc.sProgram ?a1 ?l1 ?c1 ?k1; (case a1 => k_is); (case l1 => k_is); (case c1 => k_is); (case k1 => k_is))
    (case D_trigger => refine' Sc.def_mk KX G "read_trigger" Sc.sTrigger ?a1 ?l1 ?c1 ?k1; (case a1 => k_is); (case l1 => k_is); (case c1 => k_is); (case k1 => k_is))
    (case D_commands => refine' Sc.def_mk KX G "read_commands" Sc.sCommands ?a1 ?l1 ?c1 ?k1; (case a1 => k_is); (case l1 => k_is); (case c1 => k_is); (case k1 => k_is))
    (case D_command => refine' Sc.def_mk KX G "read_command" Sc.sCommand ?a1 ?l1 ?c1 ?k1; (case a1 => k_is); (case l1 => k_is); (case c1 => k_is); (case k1 => k_is))
    (case D_iff => refine' Sc.def_mk KX G "read_if" Sc.sIf ?a1 ?l1 ?c1 ?k1; (case a1 => k_is); (case l1 => k_is); (case c1 => k_is); (case k1 => k_is))
    (case D_set => refine' Sc.def_mk KX G "read_set" Sc.sSet ?a1 ?l1 ?c1 ?k1; (case a1 => k_is); (case l1 => k_is); (case c1 => k_is); (case k1 => k_is))
    (case D_inSeq => refine' Sc.def_mk KX G "in_sequence" Sc.sInSeq ?a1 ?l1 ?c1 ?k1; (case a1 => k_is); (case l1 => k_is); (case c1 => k_is); (case k1 => k_is))
    (case D_pst => refine' Sc.def_mk KX G "package_steps" Sc.sPst ?a1 ?l1 ?c1 ?k1; (case a1 => k_is); (case l1 => k_is); (case c1 => k_is); (case k1 => k_is))
    (case D_ups => refine' Sc.def_mk KX G "upgrade_steps" Sc.sUps ?a1 ?l1 ?c1 ?k1; (case a1 => k_is); (case l1 => k_is); (case c1 => k_is); (case k1 => k_is))
    (case D_ref => refine' Sc.def_mk KX G "refuse_wrong" Sc.sRef ?a1 ?l1 ?c1 ?k1; (case a1 => k_is); (case l1 => k_is); (case c1 => k_is); (case k1 => k_is))
    (case D_dbl => refine' Sc.def_mk KX G "first_doubled" Sc.sDbl ?a1 ?l1 ?c1 ?k1; (case a1 => k_is); (case l1 => k_is); (case c1 => k_is); (case k1 => k_is))
    (case D_told => refine' Sc.def_mk KX G "told_once" Sc.sTold ?a1 ?l1 ?c1 ?k1; (case a1 => k_is); (case l1 => k_is); (case c1 => k_is); (case k1 => k_is))
    (case D_unn => refine' Sc.def_mk KX G "first_unnamed" Sc.sUnn ?a1 ?l1 ?c1 ?k1; (case a1 => k_is); (case l1 => k_is); (case c1 => k_is); (case k1 => k_is))
    (case D_names => refine' Sc.def_mk KX G "names_rightly" Sc.sNames ?a1 ?l1 ?c1 ?k1; (case a1 => k_is); (case l1 => k_is); (case c1 => k_is); (case k1 => k_is))
    (case D_met => refine' Sc.def_mk KX G "is_met" Sc.sMet ?a1 ?l1 ?c1 ?k1; (case a1 => k_is); (case l1 => k_is); (case c1 => k_is); (case k1 => k_is))
    (case D_ring => refine' Sc.def_mk KX G "ring_of_needs" Sc.sRing ?a1 ?l1 ?c1 ?k1; (case a1 => k_is); (case l1 => k_is); (case c1 => k_is); (case k1 => k_is))
    (case D_ringB => refine' Sc.def_mk KX G "ring_behind" Sc.sRingB ?a1 ?l1 ?c1 ?k1; (case a1 => k_is); (case l1 => k_is); (case c1 => k_is); (case k1 => k_is))
    (case D_mul => refine' Sc.def_mk KX G "words_multiplied" Sc.sMul ?a1 ?l1 ?c1 ?k1; (case a1 => k_is); (case l1 => k_is); (case c1 => k_is); (case k1 => k_is))
    (case D_most => refine' Sc.def_mk KX G "most_steps" Sc.sMost ?a1 ?l1 ?c1 ?k1; (case a1 => k_is); (case l1 => k_is); (case c1 => k_is); (case k1 => k_is))
    (case D_pot => refine' Sc.def_mk KX G "_law_pot_of" Sc.sPot ?a1 ?l1 ?c1 ?k1; (case a1 => k_is); (case l1 => k_is); (case c1 => k_is); (case k1 => k_is))
    (case D_ltake => refine' Sc.def_mk KX G "_law_take" Sc.sLTake ?a1 ?l1 ?c1 ?k1; (case a1 => k_is); (case l1 => k_is); (case c1 => k_is); (case k1 => k_is))
    (case D_of => refine' Sc.def_mk KX G "_law_of" Sc.sOf ?a1 ?l1 ?c1 ?k1; (case a1 => k_is); (case l1 => k_is); (case c1 => k_is); (case k1 => k_is))
    (case D_lrel => refine' Sc.def_mk KX G "_law_release" Sc.sLRel ?a1 ?l1 ?c1 ?k1; (case a1 => k_is); (case l1 => k_is); (case c1 => k_is); (case k1 => k_is))
    (case D_turned => refine' Sc.def_mk KX G "_law_turned_right" Sc.sTurned ?a1 ?l1 ?c1 ?k1; (case a1 => k_is); (case l1 => k_is); (case c1 => k_is); (case k1 => k_is))
    (case D_tests => refine' Sc.def_mk KX G "_law_tests_right" Sc.sTests ?a1 ?l1 ?c1 ?k1; (case a1 => k_is); (case l1 => k_is); (case c1 => k_is); (case k1 => k_is))
    (case D_fails => refine' Sc.def_mk KX G "_law_fails_right" Sc.sFails ?a1 ?l1 ?c1 ?k1; (case a1 => k_is); (case l1 => k_is); (case c1 => k_is); (case k1 => k_is))
    (case D_still => refine' Sc.def_mk KX G "_law_still_right" Sc.sStill ?a1 ?l1 ?c1 ?k1; (case a1 => k_is); (case l1 => k_is); (case c1 => k_is); (case k1 => k_is))
    (case D_law => refine' Sc.def_mk KX G "law" Sc.sLaw ?a1 ?l1 ?c1 ?k1; (case a1 => k_is); (case l1 => k_is); (case c1 => k_is); (case k1 => k_is))
    (case c_E => k_is)
    (case c_P => k_is)
    (case c_D => k_is)
    (case c_R => k_is)
    (case at_edInit => k_is)
    (case at_pkInit => k_is)
    (case at_edn => k_is)
    (case at_nds => k_is)
    (case at_drInit => k_is)
    (case at_line => k_is)
    (case at_take => k_is)
    (case at_reInit => k_is)
    (case F_edInit => refine' Sc.fun_mk2 (x := "__init__") (qual := "Edition.__init__") (st := Sc.sEdInit) ?l1 ?c1 ?k1; (case l1 => k_is); (case c1 => k_is); (case k1 => k_is))
    (case isf_edInit => k_is)
    (case mk1_edInit => k_is)
    (case mk4_edInit => k_is)
    (case F_pkInit => refine' Sc.fun_mk2 (x := "__init__") (qual := "Package.__init__") (st := Sc.sPkInit) ?l1 ?c1 ?k1; (case l1 => k_is); (case c1 => k_is); (case k1 => k_is))
    (case isf_pkInit => k_is)
    (case mk1_pkInit => k_is)
    (case mk4_pkInit => k_is)
    (case F_edn => refine' Sc.fun_mk2 (x := "edition") (qual := "Package.edition") (st := Sc.sEdn) ?l1 ?c1 ?k1; (case l1 => k_is); (case c1 => k_is); (case k1 => k_is))
    (case isf_edn => k_is)
    (case kp_edn => k_is)
    (case F_nds => refine' Sc.fun_mk2 (x := "all_needs") (qual := "Package.all_needs") (st := Sc.sNds) ?l1 ?c1 ?k1; (case l1 => k_is); (case c1 => k_is); (case k1 => k_is))
    (case isf_nds => k_is)
    (case kp_nds => k_is)
    (case F_drInit => refine' Sc.fun_mk2 (x := "__init__") (qual := "Draft.__init__") (st := Sc.sDrInit) ?l1 ?c1 ?k1; (case l1 => k_is); (case c1 => k_is); (case k1 => k_is))
    (case isf_drInit => k_is)
    (case mk1_drInit => k_is)
    (case mk4_drInit => k_is)
    (case F_line => refine' Sc.fun_mk2 (x := "line_words") (qual := "Draft.line_words") (st := Sc.sLineWords) ?l1 ?c1 ?k1; (case l1 => k_is); (case c1 => k_is); (case k1 => k_is))
    (case isf_line => k_is)
    (case kp_line => k_is)
    (case F_take => refine' Sc.fun_mk2 (x := "take") (qual := "Draft.take") (st := Sc.sTake) ?l1 ?c1 ?k1; (case l1 => k_is); (case c1 => k_is); (case k1 => k_is))
    (case isf_take => k_is)
    (case kp_take => k_is)
    (case F_reInit => refine' Sc.fun_mk2 (x := "__init__") (qual := "Release.__init__") (st := Sc.sReInit) ?l1 ?c1 ?k1; (case l1 => k_is); (case c1 => k_is); (case k1 => k_is))
    (case isf_reInit => k_is)
    (case mk1_reInit => k_is)
    (case mk4_reInit => k_is)
    (case pg_E => k_is)
    (case hd_E => k_is)
    (case po_E => k_is)
    (case sa_E => k_is)
    (case no_E_needs => k_is)
    (case no_E_lays => k_is)
    (case no_E_programs => k_is)
    (case pg_P => k_is)
    (case hd_P => k_is)
    (case po_P => k_is)
    (case sa_P => k_is)
    (case no_P_editions => k_is)
    (case no_P_at_programs => k_is)
    (case pg_D => k_is)
    (case hd_D => k_is)
    (case po_D => k_is)
    (case sa_D => k_is)
    (case no_D_lines => k_is)
    (case no_D_line => k_is)
    (case no_D_rows => k_is)
    (case no_D_cells => k_is)
    (case no_D_owned => k_is)
    (case no_D_packages => k_is)
    (case no_D_triggers => k_is)
    (case no_D_sets => k_is)
    (case pg_R => k_is)
    (case hd_R => k_is)
    (case po_R => k_is)
    (case sa_R => k_is)
    (case no_R_text => k_is)
    (case no_R_cells => k_is)
    (case no_R_packages => k_is)
    (case no_R_sets => k_is)
    (case no_R_words_of => k_is)
    (case no_R_owned => k_is)
    (case no_R_triggers => k_is)
    (case no_R_parts => k_is)
    (case no_R_homes => k_is)
    (case no_R_members => k_is)
    (case nD => decide)
    (case nP => decide)
    (case xL => k_is)
    (case xD => k_is)
    (case xR => k_is)
    (case lxR => k_is)
    (case sxR => decide)
    (case vxR => exact Sc.vals_strs (by rfl))
    (case xP => k_is)
    (case lxP => k_is)
    (case sxP => decide)
    (case vxP => exact Sc.vals_strs (by rfl))
    (case xN => k_is)
    (case lxN => k_is)
    (case sxN => decide)
    (case vxN => exact Sc.vals_strs (by rfl))
    (case xW => k_is)
    (case xS => k_is)
    (case lkC => k_is)
    (case lkP => k_is)
    (case lkS => k_is)
    (case hcE => rfl)
    (case hcP => rfl)
    (case kcE => k_is)
    (case pE => rfl)
    (case kcP => k_is)
    (case pP => rfl)
    (case nEP => decide)
    (case z_len => k_is)
    (case z_all => k_is)
    (case z_any => k_is)
    (case z_zip => k_is)
    (case z_int => k_is)
    (case z_str => k_is)
    (case z_list => k_is)
    (case z_tuple => k_is)
    (case z_sorted => k_is)
    (case z_enumerate => k_is)
    (case z_max => k_is)
    (case z_set => k_is)
    (case z_isinstance => k_is)
    (case z_range => k_is)
    (case z_min => k_is)
    (case z_abs => k_is)
    (case b_has => exact L2.Binds.all fun us hl => match us, hl with | [_, _, _], _ => rfl)
    (case b_copy => exact L2.Binds.all fun us hl => match us, hl with | [_, _, _], _ => rfl)
    (case b_cmdOf => exact L2.Binds.all fun us hl => match us, hl with | [_, _, _], _ => rfl)
    (case b_spelled => exact L2.Binds.all fun us hl => match us, hl with | [_], _ => rfl)
    (case b_name => exact L2.Binds.all fun us hl => match us, hl with | [_], _ => rfl)
    (case b_number => exact L2.Binds.all fun us hl => match us, hl with | [_], _ => rfl)
    (case b_fits => exact L2.Binds.all fun us hl => match us, hl with | [_, _], _ => rfl)
    (case b_plain => exact L2.Binds.all fun us hl => match us, hl with | [_], _ => rfl)
    (case b_cellLine => exact L2.Binds.all fun us hl => match us, hl with | [_], _ => rfl)
    (case b_setLine => exact L2.Binds.all fun us hl => match us, hl with | [_], _ => rfl)
    (case b_edNum => exact L2.Binds.all fun us hl => match us, hl with | [_], _ => rfl)
    (case b_isRow => exact L2.Binds.all fun us hl => match us, hl with | [_, _], _ => rfl)
    (case b_isWords => exact L2.Binds.all fun us hl => match us, hl with | [_, _], _ => rfl)
    (case b_isProg => exact L2.Binds.all fun us hl => match us, hl with | [_, _], _ => rfl)
    (case b_isPart => exact L2.Binds.all fun us hl => match us, hl with | [_, _, _, _, _], _ => rfl)
    (case b_isCmd => exact L2.Binds.all fun us hl => match us, hl with | [_, _, _], _ => rfl)
    (case b_isIf => exact L2.Binds.all fun us hl => match us, hl with | [_, _, _], _ => rfl)
    (case b_done => exact L2.Binds.all fun us hl => match us, hl with | [_, _, _], _ => rfl)
    (case b_cuts => exact L2.Binds.all fun us hl => match us, hl with | [_, _, _], _ => rfl)
    (case b_refP => exact L2.Binds.all fun us hl => match us, hl with | [_, _], _ => rfl)
    (case b_refW => exact L2.Binds.all fun us hl => match us, hl with | [_, _], _ => rfl)
    (case b_whole => exact L2.Binds.all fun us hl => match us, hl with | [_, _, _], _ => rfl)
    (case b_stops => exact L2.Binds.all fun us hl => match us, hl with | [_, _, _], _ => rfl)
    (case b_run => exact L2.Binds.all fun us hl => match us, hl with | [_, _, _], _ => rfl)
    (case b_part => exact L2.Binds.all fun us hl => match us, hl with | [_, _, _], _ => rfl)
    (case b_behind => exact L2.Binds.all fun us hl => match us, hl with | [_, _, _], _ => rfl)
    (case b_joined => exact L2.Binds.all fun us hl => match us, hl with | [_, _], _ => rfl)
    (case b_draft => exact L2.Binds.all fun us hl => match us, hl with | [_], _ => rfl)
    (case b_several => exact L2.Binds.all fun us hl => match us, hl with | [_, _, _, _], _ => rfl)
    (case b_cell => exact L2.Binds.all fun us hl => match us, hl with | [_], _ => rfl)
    (case b_package => exact L2.Binds.all fun us hl => match us, hl with | [_], _ => rfl)
    (case b_edition => exact L2.Binds.all fun us hl => match us, hl with | [_, _], _ => rfl)
    (case b_need => exact L2.Binds.all fun us hl => match us, hl with | [_, _], _ => rfl)
    (case b_laid => exact L2.Binds.all fun us hl => match us, hl with | [_, _], _ => rfl)
    (case b_program => exact L2.Binds.all fun us hl => match us, hl with | [_, _], _ => rfl)
    (case b_trigger => exact L2.Binds.all fun us hl => match us, hl with | [_, _], _ => rfl)
    (case b_commands => exact L2.Binds.all fun us hl => match us, hl with | [_, _, _, _], _ => rfl)
    (case b_command => exact L2.Binds.all fun us hl => match us, hl with | [_, _, _], _ => rfl)
    (case b_iff => exact L2.Binds.all fun us hl => match us, hl with | [_, _, _, _], _ => rfl)
    (case b_set => exact L2.Binds.all fun us hl => match us, hl with | [_], _ => rfl)
    (case b_inSeq => exact L2.Binds.all fun us hl => match us, hl with | [_, _], _ => rfl)
    (case b_pst => exact L2.Binds.all fun us hl => match us, hl with | [_, _, _], _ => rfl)
    (case b_ups => exact L2.Binds.all fun us hl => match us, hl with | [_, _, _], _ => rfl)
    (case b_ref => exact L2.Binds.all fun us hl => match us, hl with | [_], _ => rfl)
    (case b_dbl => exact L2.Binds.all fun us hl => match us, hl with | [_], _ => rfl)
    (case b_told => exact L2.Binds.all fun us hl => match us, hl with | [_, _, _, _], _ => rfl)
    (case b_unn => exact L2.Binds.all fun us hl => match us, hl with | [_], _ => rfl)
    (case b_names => exact L2.Binds.all fun us hl => match us, hl with | [_, _, _], _ => rfl)
    (case b_met => exact L2.Binds.all fun us hl => match us, hl with | [_, _, _, _], _ => rfl)
    (case b_ring => exact L2.Binds.all fun us hl => match us, hl with | [_], _ => rfl)
    (case b_ringB => exact L2.Binds.all fun us hl => match us, hl with | [_, _], _ => rfl)
    (case b_mul => exact L2.Binds.all fun us hl => match us, hl with | [_], _ => rfl)
    (case b_most => exact L2.Binds.all fun us hl => match us, hl with | [_, _], _ => rfl)
    (case b_pot => exact L2.Binds.all fun us hl => match us, hl with | [_, _], _ => rfl)
    (case b_ltake => exact L2.Binds.all fun us hl => match us, hl with | [_, _], _ => rfl)
    (case b_of => exact L2.Binds.all fun us hl => match us, hl with | [_, _], _ => rfl)
    (case b_lrel => exact L2.Binds.all fun us hl => match us, hl with | [_], _ => rfl)
    (case b_turned => exact L2.Binds.all fun us hl => match us, hl with | [_, _, _, _], _ => rfl)
    (case b_tests => exact L2.Binds.all fun us hl => match us, hl with | [_, _, _, _], _ => rfl)
    (case b_fails => exact L2.Binds.all fun us hl => match us, hl with | [_, _, _, _], _ => rfl)
    (case b_still => exact L2.Binds.all fun us hl => match us, hl with | [_, _, _, _], _ => rfl)
    (case b_edInit => exact L2.Binds.all fun us hl => match us, hl with | [_], _ => rfl)
    (case b_pkInit => exact L2.Binds.all fun us hl => match us, hl with | [_], _ => rfl)
    (case b_edn => exact L2.Binds.all fun us hl => match us, hl with | [_, _], _ => rfl)
    (case b_nds => exact L2.Binds.all fun us hl => match us, hl with | [_], _ => rfl)
    (case b_drInit => exact L2.Binds.all fun us hl => match us, hl with | [_, _], _ => rfl)
    (case b_line => exact L2.Binds.all fun us hl => match us, hl with | [_, _], _ => rfl)
    (case b_take => exact L2.Binds.all fun us hl => match us, hl with | [_, _, _], _ => rfl)
    (case b_reInit => exact L2.Binds.all fun us hl => match us, hl with | [_, _], _ => rfl)
    (case hB => exact fun s u => .of_eq rfl)
    (case tE => exact hT8 _ (by decide))
    (case tP => exact hT8 _ (by decide))
    (case nE => first | k_is | kernel_rfl)
    (case nPP => first | k_is | kernel_rfl)
    (case cdE => first | k_is | kernel_rfl)
    (case cdP => first | k_is | kernel_rfl)
