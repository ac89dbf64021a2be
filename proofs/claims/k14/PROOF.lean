import PyProof.Rows.All
import Wide.All
import OpenK.AllK
import Wide.FinOn
import HandS.ForMost
import HandS.Codes
import HandS.Exc
import HandS.ExcOwn
import HandS.TryOnly
import HandS.WordsExc
import HandS.IsInst
import HandS.RaiseMore
import HandS.Small
import HandS.FStr
import HandS.Star
import HandS.TupAny
import HandS.Deep
import HandS.Zip
import HandS.Conv
import HandS.HotCalls
import HandS.StrMore
import HandS.Flow
import KE.KUnpackStar
import HandS.ExcIs
import HandS.SetFor
import HandS.Replace
import PyProof.RulesMatch
import PyProof.RulesMatchSeq
import PyProof.Rows.MatchSeqLen
import HandS.Strs
import KE.DataMinKey
import HandS.Lambda
import HandS.Nested
import HandS.EndTab
import PyProof.DictWalks
import PyProof.Rows.CallKwBuiltin
import HandS.RevRange
import HandS.Rev
import PySem.Challenge.RW_nearlines_k14_whole_no_plan_misses_fewer
set_option Elab.async false
set_option linter.all false
set_option maxRecDepth 100000
/-! the layer of our own over the hand layer -/
namespace Nl
open PySem PySem.Spec PyProof.Rows L2

/-! ### a def of the top, as it stands -/
def DefAt (K : PySem.W.Frag) (x : Str) (st : Stmt) : Prop :=
  ∃ (f : Addr) (oc : Value) (od an : Option Addr) (osl : Array (Option Value)) (kV doc pm cdv ct : Value),
    PySem.W.nsIn K mainGlobals x = some (some (.ref f)) ∧
    K.lookup f = some ⟨oc, od, .func (PySem.W.fnOf x x (defArgs st) (defBody st) (defScope st) .none kV doc pm an cdv ct), osl⟩ ∧
    PySem.W.codeIn K cdv x = true ∧ PySem.W.keepIn K (.ref f) = true
theorem def_mk {K : PySem.W.Frag} {x : Str} {st : Stmt} {f : Addr} {oc : Value} {od an : Option Addr} {osl : Array (Option Value)} {kV doc pm cdv ct : Value} (a : PySem.W.nsIn K mainGlobals x = some (some (.ref f)))
    (l : K.lookup f = some ⟨oc, od, .func (PySem.W.fnOf x x (defArgs st) (defBody st) (defScope st) .none kV doc pm an cdv ct), osl⟩) (c : PySem.W.codeIn K cdv x = true) (k : PySem.W.keepIn K (.ref f) = true) : DefAt K x st :=
  ⟨f, oc, od, an, osl, kV, doc, pm, cdv, ct, a, l, c, k⟩
/-- the module's names, as the top leaves them -/
structure Top (K : PySem.W.Frag) (mg : Str → Option Value) : Prop where
  ex : ∃ (h : Heap), K.In h ∧ h.Ns mainGlobals mg
theorem Top.of {K : PySem.W.Frag} {mg : Str → Option Value} (T : Top K mg) {x : Str} {v : Value} (a : PySem.W.nsIn K mainGlobals x = some (some v)) : mg x = some v := by
  obtain ⟨h, X, G⟩ := T.ex
  exact PySem.W.mg_of X G a
theorem Top.none {K : PySem.W.Frag} {mg : Str → Option Value} (T : Top K mg) {x : Str} (a : PySem.W.nsIn K mainGlobals x = some Option.none) : mg x = Option.none := by
  obtain ⟨h, X, G⟩ := T.ex
  exact PySem.W.mg_none_of X G a

section
variable {P : Program} {w : World} {K : PySem.W.Frag} {mg : Str → Option Value} {base : Heap}
abbrev BindOk (x : Str) (st : Stmt) (ps : List Str) : Prop := ∀ (kV doc pm : Value) (an : Option Addr) (cdv ct : Value) (us : List Value), us.length = ps.length →
  bindArgs (PySem.W.fnOf x x (defArgs st) (defBody st) (defScope st) .none kV doc pm an cdv ct) ⟨us, []⟩ = pure (ps.zip us)
/-- a def called by its name keeps sp -/
structure Cal (P : Program) (w : World) (K : PySem.W.Frag) (mg : Str → Option Value) (base : Heap) (CX : CXT) (k : Nat) (x : Str) (sp : Sp) : Prop where
  ex : ∃ (f : Addr) (fd : FuncData) (ps : List Str), FnOk P w K mg base CX k f fd ps sp ∧ mg x = some (.ref f) ∧ PySem.W.keepIn K (.ref f) = true ∧ Binds K fd ps []
theorem Cal.mono {CX : CXT} {j k : Nat} {x : Str} {sp : Sp} (c : Cal P w K mg base CX j x sp) (h : j ≤ k) : Cal P w K mg base CX k x sp := by
  obtain ⟨f, fd, ps, F, r⟩ := c.ex
  exact ⟨f, fd, ps, F.mono h, r⟩
/-- a def that lets no error out -/
theorem cal_of {x : Str} {st : Stmt} {N ps : List Str} {k : Nat} {sp : Sp} (T : Top K mg) (D : DefAt K x st) (S : FnScope N ps (defScope st)) (b : BindOk x st ps) (len : ∀ vs H Q E, sp vs H Q E → vs.length = ps.length)
    (hbody : ∀ (f : Addr) (cdv : Value) (A : Around) (outer : List Env) (s : Shared) (H : Hp) (vs : List V) (Q : VK) (E : XK), Room k (A.deeper (envOfC x (defScope st) s.heap.objs.size f cdv)) → sp vs H Q E →
      ∃ t, PSs (cxOf CX0 P w K mg base N x (defScope st) f cdv A outer s H E).nox (defBody st) t ∧ t { nx := fun _ H' => Q .non H', rt := Q } (start N vs) H) : Cal P w K mg base CX0 (k + 1) x sp := by
  obtain ⟨f, oc, od, an, osl, kV, doc, pm, cdv, ct, a, l, c, kp⟩ := D
  have F := fun_mk (st := st) l c kp
  exact ⟨f, _, ps, F.ok S len (fun cdv A outer s H vs Q E hr h => hbody f cdv A outer s H vs Q E hr h), T.of a, kp, F.binds b⟩
/-- .. that may raise -/
theorem cal_ofX {x : Str} {st : Stmt} {N ps : List Str} {k : Nat} {sp : Sp} (T : Top K mg) (D : DefAt K x st) (S : FnScope N ps (defScope st)) (b : BindOk x st ps) (len : ∀ vs H Q E, sp vs H Q E → vs.length = ps.length)
    (hbody : ∀ (f : Addr) (cdv : Value) (A : Around) (outer : List Env) (s : Shared) (H : Hp) (vs : List V) (Q : VK) (E : XK), Room k (A.deeper (envOfC x (defScope st) s.heap.objs.size f cdv)) → sp vs H Q E →
      ∃ t, PSs (cxOf (L2.CX P w) P w K mg base N x (defScope st) f cdv A outer s H E) (defBody st) t ∧ t { nx := fun _ H' => Q .non H', rt := Q } (start N vs) H) : Cal P w K mg base (L2.CX P w) (k + 1) x sp := by
  obtain ⟨f, oc, od, an, osl, kV, doc, pm, cdv, ct, a, l, c, kp⟩ := D
  have F := fun_mk (st := st) l c kp
  exact ⟨f, _, ps, F.okX S len (fun cdv A outer s H vs Q E hr h => hbody f cdv A outer s H vs Q E hr h), T.of a, kp, F.binds b⟩
end
section
variable {X : Cx} {k j : Nat} {x : Str} {sp : Sp} {p pos : Pos} {e : Expr} {es : List Expr} {t : TA}
/-- f(..), f lets no error out -/
theorem pe_c (c : Cal X.prog X.w X.K X.mg X.base CX0 k x sp) (hr : Room j X.A) (hk : k ≤ j) (hg : Gl X x) (ha : PA X (e :: es) t)
    (hdb : (x == ("__debug__" : Str)) = false := by decide) (he : starEach (e :: es) X.env = (false, eval e X.env) :: starEach es X.env := by rfl) (hpl : (backTo pos (starEach es X.env)).any (·.1) = false := by rfl) :
    PE X (.Call (.Name x p) (e :: es) [] pos) (tCall sp [] E0 t) := by
  obtain ⟨f, fd, ps, F, hm, kp, b⟩ := c.ex
  exact pe_call F (hr.mono hk) hg hm kp b .nil pass0 ha hdb he hpl
/-- f(..), f may raise: what is raised is wished for by W -/
theorem pe_cx {W : WX} (c : Cal X.prog X.w X.K X.mg X.base (L2.CX X.prog X.w) k x sp) (tk : Takes X W) (hr : Room j X.A) (hk : k ≤ j) (hg : Gl X x) (ha : PA X (e :: es) t)
    (hdb : (x == ("__debug__" : Str)) = false := by decide) (he : starEach (e :: es) X.env = (false, eval e X.env) :: starEach es X.env := by rfl) (hpl : (backTo pos (starEach es X.env)).any (·.1) = false := by rfl) :
    PE X (.Call (.Name x p) (e :: es) [] pos) (tCallS sp (WE W) t) := by
  obtain ⟨f, fd, ps, F, hm, kp, b⟩ := c.ex
  exact pe_callS F (hr.mono hk) hg hm kp b (fun σ => passAt tk σ) ha hdb he hpl
/-- .. where it does not raise -/
theorem pe_c0 (c : Cal X.prog X.w X.K X.mg X.base (L2.CX X.prog X.w) k x sp) (hr : Room j X.A) (hk : k ≤ j) (hg : Gl X x) (ha : PA X (e :: es) t)
    (hdb : (x == ("__debug__" : Str)) = false := by decide) (he : starEach (e :: es) X.env = (false, eval e X.env) :: starEach es X.env := by rfl) (hpl : (backTo pos (starEach es X.env)).any (·.1) = false := by rfl) :
    PE X (.Call (.Name x p) (e :: es) [] pos) (tCall sp [] E0 t) := by
  obtain ⟨f, fd, ps, F, hm, kp, b⟩ := c.ex
  exact pe_call F (hr.mono hk) hg hm kp b .nil passL ha hdb he hpl
end

/-! ### places -/
theorem at_in {α : Type} {xs : List α} {i : Int} {v : α} (h0 : 0 ≤ i) (h : xs[i.toNat]? = some v) : atI xs i = some v := by
  have e : i = ((i.toNat : Nat) : Int) := (Int.toNat_of_nonneg h0).symm
  rw [e]
  exact atI_nat (by simpa using h)
theorem at_getD {α : Type} {xs : List α} {i : Int} {d : α} (h0 : 0 ≤ i) (h : i < xs.length) : atI xs i = some (xs.getD i.toNat d) := by
  refine at_in h0 ?_
  have : i.toNat < xs.length := by omega
  rw [List.getD_eq_getElem?_getD, List.getElem?_eq_getElem this]; rfl
theorem at_ints {ns : List Int} {i : Int} (h0 : 0 ≤ i) (h : i < ns.length) : atI (ns.map V.int) i = some (.int (ns.getD i.toNat 0)) := by
  refine at_in h0 ?_
  have : i.toNat < ns.length := by omega
  rw [List.getElem?_map, List.getD_eq_getElem?_getD, List.getElem?_eq_getElem this]; rfl
theorem at_strs {ns : List Str} {i : Int} (h0 : 0 ≤ i) (h : i < ns.length) : atI (ns.map V.str) i = some (.str (ns.getD i.toNat Str.empty)) := by
  refine at_in h0 ?_
  have : i.toNat < ns.length := by omega
  rw [List.getElem?_map, List.getD_eq_getElem?_getD, List.getElem?_eq_getElem this]; rfl
theorem mod_nn (c : Int) {n : Int} (h : 0 < n) : 0 ≤ c % n := Int.emod_nonneg c (by omega)
theorem mod_lt (c : Int) {n : Int} (h : 0 < n) : c % n < n := Int.emod_lt_of_pos c h
theorem at_ints_mod {ns : List Int} (c : Int) {n : Int} (h : 0 < n) (e : (ns.length : Int) = n) : atI (ns.map V.int) (c % n) = some (.int (ns.getD (c % n).toNat 0)) :=
  at_ints (mod_nn c h) (by rw [e]; exact mod_lt c h)
theorem at_strs_mod {ns : List Str} (c : Int) {n : Int} (h : 0 < n) (e : (ns.length : Int) = n) : atI (ns.map V.str) (c % n) = some (.str (ns.getD (c % n).toNat Str.empty)) :=
  at_strs (mod_nn c h) (by rw [e]; exact mod_lt c h)
theorem _root_.L2.Same.sqt {K : PySem.W.Frag} {H H' : Hp} {a : Addr} {xs : List V} (e : Same H H') (h : SqT K H a xs) : SqT K H' a xs := by
  rcases h with (h | ⟨o, h⟩) | h
  · exact .inl (.inl (e _ _ h))
  · exact .inl (.inr ⟨o, e _ _ h⟩)
  · exact .inr h
theorem _root_.L2.Same.new {H : Hp} {p : Addr} {o : HO} (h : H p = none) : Same H (upd H p o) := fun a u e => by
  rw [upd_ne (ne_of_none e h)]
  exact e
theorem _root_.L2.Same.more {H0 H : Hp} {p : Addr} {o : HO} (s : Same H0 H) (h : H p = none) : Same H0 (upd H p o) := s.trans (Same.new h)
/-- an object that H0 does not know changes -/
theorem _root_.L2.Same.mut {H0 H : Hp} {p : Addr} {o : HO} (s : Same H0 H) (h : H0 p = none) : Same H0 (upd H p o) := fun a u e => by
  rw [upd_ne (ne_of_none e h)]
  exact s a u e
/-! ### comprehensions whose elements leave the tracked things as they are -/
/-- the new list keeps: at its address D what is made so far -/
theorem lc_gen {J : It} {g : TG} {tt : TT} {te : TE} {vs : List Nat} {σ : L2.St} {H1 : Hp} {D : Addr} {Qd : Hp → Prop} (n : Nat) (R : Nat → V → Hp → Prop) (fs : Nat → Option V) (hD : H1 D = none) (hz : n < sizeLine)
    (go : ∀ i H, i < n → Same H1 H → J.go i H) (stop : ∀ H, Same H1 H → J.stop n H) (yld : ∀ i H x H', i < n → Same H1 H → J.yld i H x H' → Same H H' ∧ R i x H')
    (hs : ∀ i x H, i < n → Same H1 H → R i x H → ∀ (k1 : VK) (k0 : Hp → Prop), (∀ v H', fs i = some v → Same H H' → k1 v H') → (∀ H', fs i = none → Same H H' → k0 H') →
      g x (wipe σ vs) H fun σ2 H2 => wipe σ2 vs = wipe σ vs ∧ tt σ2 H2 fun b H3 => if b = true then te σ2 H3 k1 else k0 H3)
    (hd : ∀ H, Same H1 H → H D = some (.lst ((List.range n).filterMap fs)) → Qd H) :
    ∃ W : Nat → Nat → Hp → Prop, (∃ m, W 0 m (upd H1 D (.lst []))) ∧ ∀ i m H, W i m H →
      (J.stop i H ∧ Qd H) ∨ (J.go i H ∧ ∃ Nx : Hp → Prop, (∀ H', Nx H' → ∃ m', m' < m ∧ W (i + 1) m' H') ∧ ∀ x H', J.yld i H x H' → g x (wipe σ vs) H' fun σ2 H2 => wipe σ2 vs = wipe σ vs ∧ tt σ2 H2 fun b H3 =>
        if b = true then te σ2 H3 fun y H4 => ∃ acc, H4 D = some (.lst acc) ∧ acc.length < sizeLine ∧ Nx (upd H4 D (.lst (acc ++ [y]))) else Nx H3) := by
  refine ⟨fun i m H => m = n - i ∧ i ≤ n ∧ Same H1 H ∧ H D = some (.lst ((List.range i).filterMap fs)), ⟨n, by simp, Nat.zero_le _, Same.new hD, upd_same⟩, ?_⟩
  rintro i m H ⟨rfl, hi, s1, h1⟩
  by_cases hlt : i < n
  · refine .inr ⟨go i H hlt s1, fun H' => Same H1 H' ∧ H' D = some (.lst ((List.range (i + 1)).filterMap fs)), fun H' p' => ⟨n - (i + 1), by omega, rfl, hlt, p'⟩, fun x H' y => ?_⟩
    obtain ⟨s2, r⟩ := yld i H x H' hlt s1 y
    refine hs i x H' hlt (s1.trans s2) r _ _ (fun v H'' e s3 => ?_) (fun H'' e s3 => ?_)
    · refine ⟨_, s3 _ _ (s2 _ _ h1), ?_, ((s1.trans s2).trans s3).mut hD, ?_⟩
      · exact Nat.lt_of_le_of_lt (Nat.le_trans (List.length_filterMap_le _ _) (by rw [List.length_range]; omega)) hz
      · rw [upd_same, List.range_succ, List.filterMap_append]
        simp [e]
    · refine ⟨(s1.trans s2).trans s3, ?_⟩
      rw [s3 _ _ (s2 _ _ h1), List.range_succ, List.filterMap_append]
      simp [e]
  · have e : i = n := by omega
    subst e
    exact .inl ⟨stop H s1, hd H s1 h1⟩
theorem range_fm {α β : Type} (xs : List α) (f : α → Option β) : (List.range xs.length).filterMap (fun i => (xs[i]?).bind f) = xs.filterMap f := by
  induction xs with
  | nil => rfl
  | cons x xs ih =>
    rw [List.length_cons, List.range_succ_eq_map, List.filterMap_cons, List.filterMap_map, List.filterMap_cons]
    have e : (List.range xs.length).filterMap ((fun i => ((x :: xs)[i]?).bind f) ∘ Nat.succ) = xs.filterMap f := by
      rw [← ih]
      rfl
    rw [e]
    rfl
section
variable {K : PySem.W.Frag} {g : TG} {tt : TT} {te : TE} {vs : List Nat} {σ : L2.St} {H1 : Hp} {D a : Addr} {Qd : Hp → Prop} {xs : List V}
abbrev LcW (J : It) (g : TG) (tt : TT) (te : TE) (vs : List Nat) (σ : L2.St) (H1 : Hp) (D : Addr) (Qd : Hp → Prop) : Prop :=
  ∃ W : Nat → Nat → Hp → Prop, (∃ m, W 0 m (upd H1 D (.lst []))) ∧ ∀ i m H, W i m H →
      (J.stop i H ∧ Qd H) ∨ (J.go i H ∧ ∃ Nx : Hp → Prop, (∀ H', Nx H' → ∃ m', m' < m ∧ W (i + 1) m' H') ∧ ∀ x H', J.yld i H x H' → g x (wipe σ vs) H' fun σ2 H2 => wipe σ2 vs = wipe σ vs ∧ tt σ2 H2 fun b H3 =>
        if b = true then te σ2 H3 fun y H4 => ∃ acc, H4 D = some (.lst acc) ∧ acc.length < sizeLine ∧ Nx (upd H4 D (.lst (acc ++ [y]))) else Nx H3)
abbrev LcTurn (g : TG) (tt : TT) (te : TE) (vs : List Nat) (σ : L2.St) (x : V) (H : Hp) (fx : Option V) : Prop := ∀ (k1 : VK) (k0 : Hp → Prop), (∀ v H', fx = some v → Same H H' → k1 v H') → (∀ H', fx = none → Same H H' → k0 H') →
      g x (wipe σ vs) H fun σ2 H2 => wipe σ2 vs = wipe σ vs ∧ tt σ2 H2 fun b H3 => if b = true then te σ2 H3 k1 else k0 H3
/-- over a list: [f x for x in xs if ..] -/
theorem lc_fl (f : V → Option V) (hD : H1 D = none) (hq : SqL K H1 a xs) (hz : xs.length < sizeLine) (hs : ∀ (i : Nat) x H, xs[i]? = some x → Same H1 H → LcTurn g tt te vs σ x H (f x))
    (hd : ∀ H, Same H1 H → H D = some (.lst (xs.filterMap f)) → Qd H) : LcW (Itl K a) g tt te vs σ H1 D Qd :=
  lc_gen xs.length (fun i x _ => xs[i]? = some x) (fun i => (xs[i]?).bind f) hD hz
    (fun i H hi s => ⟨xs, xs[i], s.seq hq, by simp [hi]⟩) (fun H s => ⟨xs, s.seq hq, Nat.le_refl _⟩) (fun i H x H' hi s y => by
      obtain ⟨e, y⟩ := y
      subst e
      exact ⟨Same.refl _, y xs (s.seq hq)⟩)
    (fun i x H hi s r k1 k0 h1 h0 => hs i x H r s k1 k0 (fun v H' e => h1 v H' (by rw [r]; exact e)) (fun H' e => h0 H' (by rw [r]; exact e))) (fun H s h => hd H s (by rw [h, range_fm]))
/-- over a tuple -/
theorem lc_ft (f : V → Option V) (hD : H1 D = none) (hq : SqT K H1 a xs) (hz : xs.length < sizeLine) (hs : ∀ (i : Nat) x H, xs[i]? = some x → Same H1 H → LcTurn g tt te vs σ x H (f x))
    (hd : ∀ H, Same H1 H → H D = some (.lst (xs.filterMap f)) → Qd H) : LcW (Itt K a) g tt te vs σ H1 D Qd :=
  lc_gen xs.length (fun i x _ => xs[i]? = some x) (fun i => (xs[i]?).bind f) hD hz
    (fun i H hi s => ⟨xs, xs[i], s.sqt hq, by simp [hi]⟩) (fun H s => ⟨xs, s.sqt hq, Nat.le_refl _⟩) (fun i H x H' hi s y => by
      obtain ⟨e, y⟩ := y
      subst e
      exact ⟨Same.refl _, y xs (s.sqt hq)⟩)
    (fun i x H hi s r k1 k0 h1 h0 => hs i x H r s k1 k0 (fun v H' e => h1 v H' (by rw [r]; exact e)) (fun H' e => h0 H' (by rw [r]; exact e))) (fun H s h => hd H s (by rw [h, range_fm]))
/-- over range(lo, lo + n) -/
theorem lc_fr {lo : Int} {n : Nat} (f : Nat → Option V) (hD : H1 D = none) (hz : n < sizeLine) (hs : ∀ (i : Nat) H, i < n → Same H1 H → LcTurn g tt te vs σ (.int (lo + i)) H (f i))
    (hd : ∀ H, Same H1 H → H D = some (.lst ((List.range n).filterMap f)) → Qd H) : LcW (Itr lo n) g tt te vs σ H1 D Qd :=
  lc_gen n (fun i x _ => x = .int (lo + i)) f hD hz (fun i H hi s => hi) (fun H s => Nat.le_refl _) (fun i H x H' hi s y => by
      obtain ⟨e, y⟩ := y
      subst e
      exact ⟨Same.refl _, y⟩)
    (fun i x H hi s r k1 k0 h1 h0 => by subst r; exact hs i H hi s k1 k0 h1 h0) hd
end
/-! ### the law's own def, the end -/
def spLaw (K : PySem.W.Frag) : Sp := fun vs H Q _ => ∃ (a : Addr) (ns : List Int), vs = [.ref a] ∧ SqL K H a (ns.map V.int) ∧ ns.length ≤ 63 ∧ ∀ H', Q (.bl true) H'
abbrev LawOk (P : Program) (w : World) (K : PySem.W.Frag) (mg : Str → Option Value) (k : Nat) : Prop :=
  ∃ (f : Addr) (fd : FuncData), mg "law" = some (.ref f) ∧ (∀ (s : Shared) (v : Value), BindsTo s fd ⟨[v], []⟩ [("_law_script", v)]) ∧ ∀ base : Heap, FnOk P w K mg base CX0 k f fd ["_law_script"] (spLaw K)
theorem law_of {P : Program} {w : World} {K : PySem.W.Frag} {mg : Str → Option Value} {st : Stmt} {N : List Str} {k : Nat} (T : Top K mg) (D : DefAt K "law" st) (S : FnScope N ["_law_script"] (defScope st))
    (b : ∀ (kV doc pm : Value) (an : Option Addr) (cdv ct v : Value), bindArgs (PySem.W.fnOf "law" "law" (defArgs st) (defBody st) (defScope st) .none kV doc pm an cdv ct) ⟨[v], []⟩ = pure [(("_law_script" : Str), v)])
    (hbody : ∀ (base : Heap) (f : Addr) (cdv : Value) (A : Around) (outer : List Env) (s : Shared) (H : Hp) (a : Addr) (ns : List Int) (Q : VK) (E : XK), Room k (A.deeper (envOfC "law" (defScope st) s.heap.objs.size f cdv)) → SqL K H a (ns.map V.int) → ns.length ≤ 63 → (∀ H', Q (.bl true) H') →
      ∃ t, PSs (cxOf CX0 P w K mg base N "law" (defScope st) f cdv A outer s H E).nox (defBody st) t ∧ t { nx := fun _ H' => Q .non H', rt := Q } (start N [.ref a]) H) : LawOk P w K mg (k + 1) := by
  obtain ⟨f, oc, od, an, osl, kV, doc, pm, cdv, ct, a, l, c, kp⟩ := D
  have F := fun_mk (st := st) l c kp
  refine ⟨f, _, T.of a, fun s v => .of_eq (b kV doc pm an cdv ct v), fun base => F.ok S (fun vs H Q E h => ?_) fun cdv A outer s H vs Q E hr h => ?_⟩
  · obtain ⟨_, _, rfl, _⟩ := h
    rfl
  · obtain ⟨a, ns, rfl, h1, h2, h3⟩ := h
    exact hbody base f cdv A outer s H a ns Q E hr h1 h2 h3
theorem walk_end {l : PySem.W.OpenLaw} {q : Program} {loose : List Str} {XP : (Str → Option Value) → Heap → Prop} {YP : World → Heap → Prop} {d : DefRec} {K : Params → PySem.W.Frag} (k : Nat) (hn : l.most = some 63) (hdf : d.params.defaults = []) (hr : Room k callerA) (hd : d.name = "law")
    (hY : ∀ (w : World) (h : Heap), YP w h → (K w.params).In h)
    (F : ∀ (w : World) (mg : Str → Option Value), Top (K w.params) mg → LawOk l.prog w (K w.params) mg k) :
    PySem.W.WalkO q loose XP YP l.row.toRowW d [] (fun f vs => PySem.call f vs) :=
  L2.walk_of (n := 63) (k := k) (x := "_law_script") (CX := fun _ => CX0) (sp := fun w => spLaw (K w.params)) hn (by decide) hdf hr hY (fun w mg fa h X G hm => by
    obtain ⟨f, fd, e, b, ok⟩ := F w mg ⟨h, X, G⟩
    rw [hd, e] at hm
    cases hm
    exact ⟨fd, b, fun base _ _ => ok base⟩) (fun _ _ a ns hl _ hS => ⟨a, ns, rfl, hS, hl, fun _ => rfl⟩) fun _ _ _ _ _ z => z
/-! ### a block cut in two: P is what holds between -/
def tCut (D : Ends) (P : L2.St → Hp → Prop) : TS := fun D' σ H => D' = D ∧ P σ H
theorem pss_cut {X : Cx} {rest : List Stmt} {D : Ends} {P : L2.St → Hp → Prop} (h : ∃ u, PSs X rest u ∧ ∀ σ H, P σ H → u D σ H) : PSs X rest (tCut D P) := by
  obtain ⟨u, hu, hP⟩ := h
  refine ⟨fun pins s σ H D' I h => ?_⟩
  obtain ⟨e, h⟩ := h
  subst e
  exact hu.run pins s σ H D' I (hP σ H h)
/-! ### texts -/
/-- for c in a text -/
theorem for_its {x : Str} {g : TG} {tb : TS} {D : Ends} {σ : L2.St} {H : Hp} (Pv : Nat → L2.St → Hp → Prop) (h0 : Pv 0 σ H)
    (hs : ∀ i c σ H, x.cps[i]? = some c → Pv i σ H → g (.str ⟨#[c]⟩) σ H fun σ2 H2 => tb { D with nx := Pv (i + 1), ct := Pv (i + 1), bk := D.nx } σ2 H2) (hd : ∀ σ H, Pv x.cps.size σ H → D.nx σ H) :
    ∃ W : Nat → Nat → L2.St → Hp → Prop, (∃ m, W 0 m σ H) ∧ ∀ i m σ H, W i m σ H →
      ((Its x).stop i H ∧ D.nx σ H) ∨ ((Its x).go i H ∧ ∃ N : L2.St → Hp → Prop, (∀ σ' H', N σ' H' → ∃ m', m' < m ∧ W (i + 1) m' σ' H') ∧ ∀ y H', (Its x).yld i H y H' → g y σ H' fun σ2 H2 => tb { D with nx := N, ct := N, bk := D.nx } σ2 H2) := by
  refine ⟨fun i m σ H => m = x.cps.size - i ∧ i ≤ x.cps.size ∧ Pv i σ H, ⟨x.cps.size, by simp, Nat.zero_le _, h0⟩, ?_⟩
  rintro i m σ H ⟨rfl, hi, p⟩
  by_cases hlt : i < x.cps.size
  · refine .inr ⟨hlt, Pv (i + 1), fun σ' H' p' => ⟨x.cps.size - (i + 1), by omega, rfl, hlt, p'⟩, fun y H' q => ?_⟩
    obtain ⟨e, c, hc, ey⟩ := q
    subst e ey
    exact hs i c σ _ hc p
  · have e : i = x.cps.size := by omega
    subst e
    exact .inl ⟨Nat.le_refl _, hd σ H p⟩
theorem cutS_len (z : Str) (lo hi : Option Int) : (cutS z lo hi).length ≤ z.length := by
  show (((z.cps.toList.drop _).take _).toArray).size ≤ z.cps.size
  rw [List.size_toArray, List.length_take, List.length_drop, Array.length_toList]
  omega
theorem app_len (a b : Str) : (a ++ b).length = a.length + b.length := by
  show (a.cps ++ b.cps).size = a.cps.size + b.cps.size
  exact Array.size_append
/-- a text some times over -/
theorem op_repS {X : Cx} : OpR X (binaryOp .Mult) (fun x y H Q => ∃ (z : Str) (n : Int), x = .str z ∧ y = .int n ∧ PySem.MulOk z n ∧ Q (.str (Txt.mul z n)) H) := by
  intro pins s σ H x y v u Q I rx ry h
  obtain ⟨z, n, rfl, rfl, ok, q⟩ := h
  obtain ⟨t, rfl⟩ := rx
  obtain ⟨t', rfl⟩ := ry
  exact PySem.SB.mul ok fun t2 k => ⟨.str _, H, I.tok k, ⟨t2, rfl⟩, q⟩
theorem bl_of {b c : Bool} (h : b = c) : V.bl b = V.bl c := congrArg V.bl h
theorem fm_some {α β : Type} (xs : List α) (f : α → β) : xs.filterMap (fun x => some (f x)) = xs.map f := by
  induction xs with
  | nil => rfl
  | cons x xs ih => simp
/-! ### the helpers every law has -/
def cellAt (ns : List Int) (k : Int) : Int := ns.getD k.toNat 0
def mixed (c : Int) : Int := c * 48271 % 2147483647
def spCellAt (K : PySem.W.Frag) : Sp := fun vs H Q _ => ∃ (a : Addr) (ns : List Int) (k : Int), vs = [.ref a, .int k] ∧ SqL K H a (ns.map V.int) ∧ 0 ≤ k ∧ Q (.int (cellAt ns k)) H
def spMixed : Sp := fun vs H Q _ => ∃ c : Int, vs = [.int c] ∧ Q (.int (mixed c)) H
end Nl

set_option Elab.async false
set_option linter.all false
set_option maxRecDepth 100000
set_option maxHeartbeats 1000000
namespace Nl
open PySem PySem.Spec PySem.Calls PyProof.Rows PySem.W
/-- a, *rest = a list: the rest is a new list -/
theorem star_list {prog : Program} {w : World} {A : Around} {E : Value → Shared → Prop} {s : Shared} {l : Addr} {items : Array Value} {first rest : List Value} {Q : List Value → Shared → Prop}
    (hl : s.heap.IsList l items) (hh : A.handled = none) (hn : 1 ≤ items.size) (hz : items.size ≤ 16384) (h1 : items.toList = first ++ rest) (h2 : first.length = 1)
    (h : ∀ (h₂ : Heap) (tk : Nat), (∀ b o, s.heap.get? b = some o → h₂.get? b = some o) → Q (first ++ [.ref h₂.objs.size]) { s with heap := h₂.push { cls := .type "list", data := .seq rest.toArray 0 }, toks := tk }) :
    wpAny (model prog w) A (unpackItems (.ref l) 2 (some 1)) Q E s := by
  have hlt : l ≠ s.heap.objs.size := by obtain ⟨o, ho, _⟩ := hl; exact Nat.ne_of_lt (Heap.lt_size ho)
  have hsz : items.toList.length = items.size := Array.length_toList
  have ht : items.toList.take 1 = first := by rw [h1, List.take_append_of_le_length (by omega), List.take_of_length_le (by omega)]
  have hd : items.toList.drop 1 = rest := by rw [h1, List.drop_append_of_le_length (by omega), List.drop_of_length_le (by omega)]; rfl
  unfold unpackItems
  refine wpAny_bind ?_
  unfold notIterableAtAll
  refine wpAny_bind (wpAny_specialOf hl.typeIs slot_list_iter.lookup ?_)
  refine wpAny_pure ?_
  simp only [Bool.false_eq_true, if_false]
  refine wpAny_bind (wpAny_holding (wpAny_pyIter_list hl ?_))
  refine wpAny_bind (wpAny_holding (kun_draw hlt 1 0 _ _ ⟨_, Heap.get?_push_size _ rfl, rfl, rfl⟩ (hl.push _) (by omega) fun h₁ hit₁ hs₁ => ?_))
  have hl₁ : h₁.IsList l items := (hl.push _).extBut hs₁.extBut hlt
  rw [Nat.zero_add] at hit₁
  have hit₁' := hit₁
  obtain ⟨oi, hoi, _⟩ := hit₁'
  have hl₁' := hl₁
  obtain ⟨ol, hol, _⟩ := hl₁'
  rw [List.drop_zero, ht]
  rw [if_neg (show ¬ (first.length < 1) by omega)]
  refine wpAny_bind (wpAny_holding (kun_collect (s := { s with heap := h₁ }) (T := "list_iterator") (.inr (.inr (.inl rfl))) (Walks.list (A := A.in1) hh s.heap.objs.size l hlt items) (fun j u st => st.1.typeIs) (k := 1) (by omega) ⟨hit₁, hl₁⟩ (Heap.lt_size hoi) (Heap.lt_size hol) (fun h₂ tk hk => ?_) (by rw [sizeLine_eq]; omega)))
  rw [hd]
  show wpAny _ _ (if rest.length < 0 then _ else _) _ _ _
  rw [if_neg (Nat.not_lt_zero _)]
  show wpAny _ _ (newList (rest.take (rest.length - 0)) >>= fun d => pure (first ++ [d] ++ rest.drop (rest.length - 0))) _ _ _
  rw [Nat.sub_zero, List.take_length, List.drop_length]
  have hr : rest.length ≤ items.size := by rw [← hsz, h1, List.length_append]; omega
  have he : ∀ b o, s.heap.get? b = some o → h₂.get? b = some o := fun b o e =>
    hk b o (Nat.ne_of_lt (Heap.lt_size e)) ((hs₁.2 b (Nat.ne_of_lt (Heap.lt_size e))).trans (Heap.get?_push_of_some _ e))
  refine wpAny_bind (wpAny_newObj_type ?_ (by show rest.toArray.size ≤ sizeLine; rw [List.size_toArray, sizeLine_eq]; omega))
  refine wpAny_pure ?_
  rw [List.append_nil]
  exact h h₂ tk he
end Nl
namespace Nl
open PySem PySem.Spec PyProof.Rows L2
/-- a, *rest = xs, a list; both names in slots -/
def gStar (K : PySem.W.Frag) (i j : Nat) : TG := fun v σ H Q => ∃ a x xs, v = .ref a ∧ SqL K H a (x :: xs) ∧ xs.length < 16384 ∧ ∀ p, H p = none → Q ((σ.set i (some x)).set j (some (.ref p))) (upd H p (.lst xs))
theorem pg_star {X : Cx} {i j : Nat} {x y : Str} {px py pp pos : Pos} {k1 : Nat} (hc : X.calm = true) (hN : X.N.Nodup) (hi : X.N[i]? = some x) (hx : Loc X.env.scope x) (hj : X.N[j]? = some y) (hy : Loc X.env.scope y)
    (fx : X.fn x = true ∨ X.env.scope.names.lookup x = some .local := by first | exact .inl rfl | exact .inr rfl | assumption) (fy : X.fn y = true ∨ X.env.scope.names.lookup y = some .local := by first | exact .inl rfl | exact .inr rfl | assumption) :
    PG X (.Tuple [.Name x px, .Starred (.Name y py) pp] k1 pos) (gStar X.K i j) := by
  refine ⟨fun pins s σ H v u Q I r h => ?_⟩
  obtain ⟨a, x1, xs, rfl, hs, hz, q⟩ := h
  cases r
  obtain ⟨its, rv, pl, hl⟩ := I.list hs
  have el : (x1 :: xs).length = its.length := rv.length
  cases rv with
  | cons r1 rr =>
    rename_i u1 us
    rw [PyProof.Rows.assign_Tuple]
    refine wpAny_bind (wpAny_standAt ?_)
    unfold unpack
    have h1 : (assignEach [.Name x px, .Starred (.Name y py) pp] X.env).length = 2 := rfl
    have h2 : (assignEach [.Name x px, .Starred (.Name y py) pp] X.env).findIdx? (·.1) = some 1 := rfl
    rw [h1, h2]
    refine wpAny_bind (wpAny_holding (star_list (first := [u1]) (rest := us) pl.isList (I.ok.hd hc) (by simp) (by simp at el ⊢; omega) (by simp) rfl fun h₂ tk hk => ?_))
    have I2 : Inv X pins σ H { s with heap := h₂, toks := tk } := I.kept hk
    have I3 := I2.laid (a := h₂.objs.size) (o := .lst xs) (h' := h₂.push { cls := .type "list", data := .seq us.toArray 0 }) (t' := tk) (fun b o e => Heap.get?_push_of_some _ e) (Nat.le_refl _) ⟨(by simp at hl; omega), us, 0, rr, Heap.get?_push_size _ rfl⟩
    have hf : H h₂.objs.size = none := I2.hok.fresh (Nat.le_refl _)
    show wpAny _ _ (assignInOrder [assign (.Name x px) X.env, assign (.Name y py) X.env] [u1, .ref h₂.objs.size]) _ _ _
    refine assignInOrder_cons (wpAny_assign_Name (store_ok I3 hN hi hx r1 (fun s4 I4 => ?_) fx))
    refine assignInOrder_cons (wpAny_assign_Name (store_ok (v := V.ref h₂.objs.size) I4 hN hj hy rfl (fun s5 I5 => assignInOrder_nil ⟨_, _, I5, q _ hf⟩) fy))
end Nl

set_option Elab.async false
set_option linter.all false
set_option maxRecDepth 100000
set_option maxHeartbeats 1000000
namespace Nl
open PySem PySem.Spec PyProof.Rows L2 L2H
/-! ### a def that is called while an error of the class at D, that stands at p, is handled -/
structure FnS (P : Program) (w : World) (K : PySem.W.Frag) (mg : Str → Option Value) (base : Heap) (k : Nat) (f : Addr) (fd : FuncData) (ps : List Str) (sp : Addr → Addr → Sp) : Prop where
  len : ∀ D a vs H Q E, sp D a vs H Q E → vs.length = ps.length
  run : ∀ (A : Around) (outer : List Env) (s : Shared) (H : Hp) (args : Args) (us : List Value) (vs : List V) (Q : VK) (E : XK) (p : Addr × Obj) (D : Addr), RoomH k A → Zc (.ref D) none p.2 → (∃ fs, p.2.data = .fields fs) → PinOk outer H s p → Env0 P w K mg base A outer s H →
    BindsTo s fd args (ps.zip us) → Vals vs us → sp D p.1 vs H Q E → codeAny (model P w) A (.call (.ref f) args) (CR CX0 outer P w H s Q E) s
theorem fn_ofS {P : Program} {w : World} {K : PySem.W.Frag} {mg : Str → Option Value} {base : Heap} {k : Nat} {f : Addr} {name qual : Str} {params : Arguments} {body : List Stmt} {scope : Scope} {dV kV doc pm cdv ct oc : Value} {an od : Option Addr}
    {osl : Array (Option Value)} {N ps : List Str} {sp : Addr → Addr → Sp} (lk : K.lookup f = some ⟨oc, od, .func (PySem.W.fnOf name qual params body scope dV kV doc pm an cdv ct), osl⟩) (hcd : PySem.W.codeIn K cdv qual = true) (S : FnScope N ps scope)
    (len : ∀ D a vs H Q E, sp D a vs H Q E → vs.length = ps.length)
    (hbody : ∀ (A : Around) (outer : List Env) (s : Shared) (H : Hp) (vs : List V) (Q : VK) (E : XK) (p : Addr × Obj) (D : Addr), Zc (.ref D) none p.2 → (∃ fs, p.2.data = .fields fs) → RoomH k (A.deeper (envOfC qual scope s.heap.objs.size f cdv)) → sp D p.1 vs H Q E →
      ∃ t, PSs (cxH CX0 P w K mg base N qual scope f cdv A outer s H E p) body t ∧ t { nx := fun _ H' => Q .non H', rt := Q } (L2.start N vs) H) :
    FnS P w K mg base (k + 1) f (PySem.W.fnOf name qual params body scope dV kV doc pm an cdv ct) ps sp := by
  refine ⟨len, fun A outer s H args us vs Q E p D hr hz hf hpin e0 hb r hsp => ?_⟩
  have hl := len _ _ _ _ _ _ hsp
  have stay := fun b o e => (e0.bs b o e).1
  have hkind : ∀ y ∈ ps.zip us, scope.names.lookup y.1 = some .local ∨ (scope.names.lookup y.1 = some .cell ∧ ((cellsFrom (s.heap.objs.size + 1) scope.names []).lookup y.1).isSome = true) := fun ⟨n, v⟩ hy =>
    (S.par n (List.of_mem_zip hy).1).elim (fun q => .inl q) fun q => .inr ⟨q, PySem.W.cellsFrom_some _ _ _ (.inl q)⟩
  have KX : K.In s.heap := e0.mod.kin.keeps stay
  have lim : s.heap.NoLimit := e0.mod.nolimit.keeps stay
  refine codeAny_call_function hr.depth (KX _ _ lk) rfl S.co S.gen rfl (PySem.W.codeRec_of KX hcd) (hb _ _ _ _ ?_)
  refine wpAny_newFunctionEnv_cells S.kind hkind fun env he s1 x => ?_
  subst he
  refine ⟨lim.keeps x.toInCall.keep, codeAny_func ?_⟩
  obtain ⟨t, ht, hq⟩ := hbody A outer s H vs Q E p D hz hf (hr.deeper _) hsp
  refine wpAny_mono (ht.run [] s1 (L2.start N vs) H _ (inv_startH S hpin e0 hl r x) hq) (fun fl s' hs => ?_) fun e s' hs => hs
  cases fl with
  | ret u =>
    obtain ⟨v, σ', H', J, rv, q⟩ := hs
    exact ⟨v, H', J.os, J.bare, J.base, J.hok, rv, q⟩
  | next =>
    obtain ⟨σ', H', J, q⟩ := hs
    exact ⟨V.non, H', J.os, J.bare, J.base, J.hok, rfl, q⟩
  | brk =>
    obtain ⟨_, _, _, q⟩ := hs
    exact q.elim
  | cont =>
    obtain ⟨_, _, _, q⟩ := hs
    exact q.elim
structure CalS (P : Program) (w : World) (K : PySem.W.Frag) (mg : Str → Option Value) (base : Heap) (k : Nat) (x : Str) (sp : Addr → Addr → Sp) : Prop where
  ex : ∃ (f : Addr) (fd : FuncData) (ps : List Str), FnS P w K mg base k f fd ps sp ∧ mg x = some (.ref f) ∧ PySem.W.keepIn K (.ref f) = true ∧ Binds K fd ps []
theorem calS_of {P : Program} {w : World} {K : PySem.W.Frag} {mg : Str → Option Value} {base : Heap} {x : Str} {st : Stmt} {N ps : List Str} {k : Nat} {sp : Addr → Addr → Sp} (T : Top K mg) (D : DefAt K x st) (S : FnScope N ps (defScope st)) (b : BindOk x st ps)
    (len : ∀ D a vs H Q E, sp D a vs H Q E → vs.length = ps.length)
    (hbody : ∀ (f : Addr) (cdv : Value) (A : Around) (outer : List Env) (s : Shared) (H : Hp) (vs : List V) (Q : VK) (E : XK) (p : Addr × Obj) (D : Addr), Zc (.ref D) none p.2 → (∃ fs, p.2.data = .fields fs) → RoomH k (A.deeper (envOfC x (defScope st) s.heap.objs.size f cdv)) → sp D p.1 vs H Q E →
      ∃ t, PSs (cxH CX0 P w K mg base N x (defScope st) f cdv A outer s H E p) (defBody st) t ∧ t { nx := fun _ H' => Q .non H', rt := Q } (L2.start N vs) H) : CalS P w K mg base (k + 1) x sp := by
  obtain ⟨f, oc, od, an, osl, kV, doc, pm, cdv, ct, a, l, c, kp⟩ := D
  have F := fun_mk (st := st) l c kp
  exact ⟨f, _, ps, fn_ofS l c S len fun A outer s H vs Q E p D hz hf hr h => hbody f cdv A outer s H vs Q E p D hz hf hr h, T.of a, kp, F.binds b⟩
section
variable {X : Cx} {k j : Nat} {x : Str} {sp : Addr → Addr → Sp} {p pos : Pos} {e : Expr} {es : List Expr} {t : TA}
/-- f(..) within the suite of a clause; the error at a, of the class cls -/
def tCallSu (sp : Addr → Addr → Sp) (a : Addr) (cls : Value) (d : Option Addr) (t : TA) : TE := fun σ H Q => t σ H fun vs H1 => ∃ D, cls = .ref D ∧ d = none ∧ sp D a vs H1 Q E0
theorem pe_su {a : Addr} {oe : Obj} {cls : Value} {d : Option Addr} {pn : List (Addr × Obj)} (c : CalS X.prog X.w X.K X.mg X.base k x sp) (hz : Zc cls d oe) (hf : ∃ fs, oe.data = .fields fs) (hr : Room j X.A) (hk : k ≤ j) (hg : Gl X x) (ha : PA (X.suite a ((a, oe) :: pn)) (e :: es) t)
    (hdb : (x == ("__debug__" : Str)) = false := by decide) (he : starEach (e :: es) X.env = (false, eval e X.env) :: starEach es X.env := by rfl) (hpl : (backTo pos (starEach es X.env)).any (·.1) = false := by rfl) :
    PE (X.suite a ((a, oe) :: pn)) (.Call (.Name x p) (e :: es) [] pos) (tCallSu sp a cls d t) := by
  obtain ⟨f, fd, ps, F, hm, kp, hb⟩ := c.ex
  refine ⟨fun pins s σ H Q I h => ?_⟩
  refine wpAny_Call_Name_kw (ld_glob I hg hm ?_ hdb)
  refine PySem.W.callWith_K (h₀ := X.base) I.ok.mod.kin kp (thn (ha.run pos pins s σ H _ I h) fun us s1 ⟨vs, H1, I1, r, D, ec, ed, q⟩ => ⟨I1.kIn, ?_⟩) he hpl
  subst ec ed
  have hl : us.length = ps.length := by rw [← r.length]; exact F.len _ _ _ _ _ _ q
  have b := hb s1 us I1.kIn (by rw [List.append_nil]; exact hl)
  rw [List.append_nil] at b
  have P1 := I1.pin (a, oe) (List.mem_append_left _ List.mem_cons_self)
  have hpin : PinOk (X.suite a ((a, oe) :: pn)).stack H1 s1 (a, oe) := ⟨P1.1, P1.2.1, fun hm => (List.mem_cons.mp (I1.stkSub a hm)).elim P1.2.2.1 P1.2.2.2.1, P1.2.2.2.2⟩
  have hr2 : RoomH k (X.suite a ((a, oe) :: pn)).A := ⟨(hr.mono hk).dp, (hr.mono hk).un⟩
  refine wpAny_call (codeAny_mono (F.run _ _ s1 H1 ⟨us, []⟩ us vs Q E0 (a, oe) D hr2 hz hf hpin I1.env0 b r q) fun r s' hq => ?_)
  cases r with
  | error e => exact hq.elim
  | ok fl =>
    cases fl with
    | ret u => exact I1.after hq
    | next => exact hq.elim
    | brk => exact hq.elim
    | cont => exact hq.elim
/-- isinstance of an error that is pinned -/
theorem call_isP {q : Addr × Obj} {D : Addr} (hq : q ∈ X.pn) (C : ExcC X.K D) (hz : Zc (.ref D) none q.2) (hf : ∃ fs, q.2.data = .fields fs) : CallR X (.builtin "isinstance") (rIsE X.K D q.1) := by
  intro pins s σ H xs us Q I r h
  obtain ⟨c, cv, b, rfl, hcv, e, k⟩ := h
  cases r with
  | cons rx rr =>
    cases rr with
    | cons rt rr =>
      cases rr
      cases rx
      have ec := hcv _ rt
      subst ec
      have hget := (I.pin q (List.mem_append_left _ hq)).1
      have J : PySem.W.InstAt s.heap q.1 q.2 D none := by
        obtain ⟨fs, hv⟩ := hf
        obtain ⟨a, oc, od, oda, osl⟩ := q
        obtain ⟨h1, h2⟩ := hz
        dsimp only at h1 h2 hv
        subst h1 h2 hv
        exact ⟨hget, rfl, rfl, trivial⟩
      exact PySem.W.kia_one (PySem.W.handS_kitx_exc C.hg C.hk C.hs C.hd C.ha C.hn C.ht C.hm) I.kIn J e (fun z => nomatch z) fun tk => ⟨.bl b, H, I.kept (t' := tk) fun _ _ z => z, rfl, k⟩
/-- xs.count(x), all of them plain -/
def rCntV (K : PySem.W.Frag) : V → List V → Hp → VK → Prop := fun x xs H Q => ∃ (p : Addr) (ys : List V) (y : V), x = .ref p ∧ xs = [y] ∧ SqL K H p ys ∧ flatV y = true ∧ ys.all flatV = true ∧ Q (.int (ys.countP (fun z => eqV z y) : Nat)) H
theorem countU {x : V} : ∀ {ys : List V} {us : List Value}, Vals ys us → ys.all flatV = true → us.countP (eqU x) = ys.countP fun z => eqV z x
  | _, _, .nil, _ => rfl
  | _, _, .cons r t, f => by
    rw [List.all_cons, Bool.and_eq_true] at f
    rw [List.countP_cons, List.countP_cons, countU t f.2, eqU_of r f.1]
theorem mt_countV : MtR X "list.count" (rCntV X.K) := by
  intro pins s σ H x xs v us Q I rx rxs h
  obtain ⟨p, ys, y, rfl, rfl, hs, fy, fl, q⟩ := h
  cases rx
  obtain ⟨u, rfl, ru⟩ := rxs.one
  obtain ⟨its, rv, ⟨⟨cls, dd, data, sl⟩, n, ho, hc, hdn, hd⟩, hlen⟩ := I.list hs
  simp only at hc hd
  subst hc hd
  refine call_meets PySem.F.slot_list_count ⟨_, ho, rfl⟩ PySem.F.entry_list_count (PySem.F.args_list_count_2 _ _) (SeqAt.list_countAt p its.toArray n dd sl u (eqU y)) ⟨ho, fun z hz => mem_eqAt ru fy rv fl z (by simpa using hz), ?_⟩
  have ec : its.toArray.toList.countP (eqU y) = ys.countP (fun z => eqV z y) := by rw [List.toList_toArray]; exact countU rv fl
  rw [ec]
  exact ⟨.int _, H, I.tok _, ⟨s.toks, rfl⟩, q⟩
end
/-! ### isinstance of one of the five refusals -/
structure AloneAt (K : PySem.W.Frag) (cs : List Addr) (cL : Addr) (D : Addr) (own : Nat) : Prop where
  ex : ExcC K D
  k : ∀ j c, cs[j]? = some c → PySem.W.kitOne K (.ref D) (.ref c) = some (decide (j = own))
  line : PySem.W.kitOne K (.ref D) (.ref cL) = some true
  val : PySem.W.kitOne K (.ref D) (.type "ValueError") = some true
/-- an error of the class D is the own-th of the five and none else -/
def spAlone (K : PySem.W.Frag) (cs : List Addr) (cL : Addr) : Addr → Addr → Sp := fun D a vs H Q _ => ∃ own : Nat, vs = [.ref a, .int (own : Nat)] ∧ own < 5 ∧ AloneAt K cs cL D own ∧ ∀ H', Same H H' → Q (.bl true) H'
/-! ### plain values as data -/
def dOf : V → PyData
  | .bl b => .bool b
  | .int i => .int i
  | .str x => .str x
  | _ => .none
theorem dp_flat {K : PySem.W.Frag} {H : Hp} {v : V} (h : flatV v = true) : Dp K H v (dOf v) := by
  cases v with
  | non => exact .non
  | bl b => exact .bl b
  | int i => exact .int i
  | str x => exact .str x
  | _ => cases h
theorem dpAll_flat {K : PySem.W.Frag} {H : Hp} : ∀ {xs : List V}, xs.all flatV = true → DpAll K H xs (xs.map dOf)
  | [], _ => .nil
  | x :: xs, h => by
    rw [List.all_cons, Bool.and_eq_true] at h
    exact .cons (dp_flat h.1) (dpAll_flat h.2)
theorem dp_tup {K : PySem.W.Frag} {H : Hp} {p : Addr} {xs : List V} (h : SqT K H p xs) (f : xs.all flatV = true) : Dp K H (.ref p) (.tuple (xs.map dOf)) := .tup h (dpAll_flat f)
theorem dp_lst {K : PySem.W.Frag} {H : Hp} {p : Addr} {xs : List V} (h : SqL K H p xs) (f : xs.all flatV = true) : Dp K H (.ref p) (.list (xs.map dOf)) := .lst h (dpAll_flat f)
theorem depth_flat : ∀ xs : List V, PyData.depthAll (xs.map dOf) = 0
  | [] => rfl
  | x :: xs => by
    have e : (dOf x).depth = 0 := by cases x <;> rfl
    rw [List.map_cons, PyData.depthAll, e, depth_flat xs]
    rfl
theorem shaped_tup {xs : List V} (h : PyData.canLayAll0 (xs.map dOf) = true) : SeqAt.shaped (.tuple (xs.map dOf)) = true := by
  have e : PyData.depth (.tuple (xs.map dOf)) = 1 := by rw [PyData.depth, depth_flat]
  unfold SeqAt.shaped
  rw [e]
  show (PyData.canLayAll0 (xs.map dOf) && _) = true
  rw [h]
  rfl
theorem shaped_lst {xs : List V} (h : PyData.canLayAll0 (xs.map dOf) = true) : SeqAt.shaped (.list (xs.map dOf)) = true := by
  have e : PyData.depth (.list (xs.map dOf)) = 1 := by rw [PyData.depth, depth_flat]
  unfold SeqAt.shaped
  rw [e]
  show (PyData.canLayAll0 (xs.map dOf) && _) = true
  rw [h]
  rfl
theorem lay_ints : ∀ ns : List Int, PyData.canLayAll0 ((ns.map V.int).map dOf) = true
  | [] => rfl
  | n :: ns => by
    show (true && PyData.canLayAll0 ((ns.map V.int).map dOf)) = true
    rw [lay_ints ns]
    rfl
theorem eqv_same {d : PyData} (h : SeqAt.shaped d = true) : PyData.eqv d d = true := PySem.SeqAt.eqv_refl d (SeqAt.canLay_of_shaped h)
end Nl

set_option Elab.async false
set_option linter.all false
set_option maxRecDepth 100000
set_option maxHeartbeats 4000000
namespace Nl
open PySem PySem.Spec PyProof.Rows L2 L2H
/-! ### data at any depth -/
mutual
theorem dp_same {K : PySem.W.Frag} {H H' : Hp} (s : Same H H') : ∀ (d : PyData) (v : V), Dp K H v d → Dp K H' v d
  | .none, _, h => by cases h; exact .non
  | .bool _, _, h => by cases h; exact .bl _
  | .int _, _, h => by cases h; exact .int _
  | .str _, _, h => by cases h; exact .str _
  | .list ds, _, h => by
    cases h with
    | lst q a => exact .lst (s.seq q) (dpAll_same s ds _ a)
  | .tuple ds, _, h => by
    cases h with
    | tup q a => exact .tup (s.sqt q) (dpAll_same s ds _ a)
  | .dict _, _, h => by cases h
theorem dpAll_same {K : PySem.W.Frag} {H H' : Hp} (s : Same H H') : ∀ (ds : List PyData) (vs : List V), DpAll K H vs ds → DpAll K H' vs ds
  | [], _, h => by cases h; exact .nil
  | d :: ds, _, h => by
    cases h with
    | cons a b => exact .cons (dp_same s d _ a) (dpAll_same s ds _ b)
end
theorem dpA_len {K : PySem.W.Frag} {H : Hp} : ∀ {vs : List V} {ds : List PyData}, DpAll K H vs ds → vs.length = ds.length
  | _, _, .nil => rfl
  | _, _, .cons _ h => by simp only [List.length_cons, dpA_len h]
theorem dpA_get {K : PySem.W.Frag} {H : Hp} : ∀ {vs : List V} {ds : List PyData} {i : Nat} {v : V}, DpAll K H vs ds → vs[i]? = some v → ∃ d, ds[i]? = some d ∧ Dp K H v d
  | _, _, i, v, .nil, e => by simp at e
  | _, _, 0, v, .cons (d := d) a h, e => by
    rw [List.getElem?_cons_zero] at e
    cases e
    exact ⟨d, rfl, a⟩
  | _, _, i + 1, v, .cons a h, e => by
    rw [List.getElem?_cons_succ] at e
    obtain ⟨d, e2, q⟩ := dpA_get h e
    exact ⟨d, by rw [List.getElem?_cons_succ]; exact e2, q⟩
theorem dpA_set {K : PySem.W.Frag} {H : Hp} {v : V} {d : PyData} (q : Dp K H v d) : ∀ {vs : List V} {ds : List PyData} {i : Nat}, DpAll K H vs ds → DpAll K H (vs.set i v) (ds.set i d)
  | _, _, _, .nil => .nil
  | _, _, 0, .cons a h => .cons q h
  | _, _, i + 1, .cons a h => .cons a (dpA_set q h)
theorem dpA_app {K : PySem.W.Frag} {H : Hp} {v : V} {d : PyData} (q : Dp K H v d) : ∀ {vs : List V} {ds : List PyData}, DpAll K H vs ds → DpAll K H (vs ++ [v]) (ds ++ [d])
  | _, _, .nil => .cons q .nil
  | _, _, .cons a h => .cons a (dpA_app q h)
theorem dpAll_flat2 {K : PySem.W.Frag} {H : Hp} : ∀ {xs : List V}, xs.all flatV = true → DpAll K H xs (xs.map dOf)
  | [], _ => .nil
  | x :: xs, h => by
    rw [List.all_cons, Bool.and_eq_true] at h
    exact .cons (dp_flat h.1) (dpAll_flat2 h.2)
def tyN : PyData → String
  | .none => "NoneType" | .bool _ => "bool" | .int _ => "int" | .str _ => "str" | .list _ => "list" | .tuple _ => "tuple" | .dict _ => "dict"
theorem ty_l {K : PySem.W.Frag} {H : Hp} {a : Addr} {xs : List V} (h : SqL K H a xs) : TyX K H (.ref a) (.type "list") := by
  rcases h with (h | ⟨_, h⟩) | ⟨_, _, _, h, c, _⟩
  · exact .base (.lst h)
  · exact .base (.frz h)
  · exact .kList h c
theorem ty_t {K : PySem.W.Frag} {H : Hp} {a : Addr} {xs : List V} (h : SqT K H a xs) : TyX K H (.ref a) (.type "tuple") := by
  rcases h with (h | ⟨_, h⟩) | ⟨_, _, _, h, c, _⟩
  · exact .base (.tup h)
  · exact .fTuple h
  · exact .kTuple h c
theorem dp_ty {K : PySem.W.Frag} {H : Hp} {v : V} {d : PyData} (h : Dp K H v d) : TyX K H v (.type (tyN d)) := by
  cases h with
  | non => exact .base .non
  | bl b => exact .base (.bl b)
  | int i => exact .base (.int i)
  | str x => exact .base (.str x)
  | lst h _ => exact ty_l h
  | tup h _ => exact ty_t h
theorem tyN_in (d : PyData) : tyN d ∈ ["NoneType", "bool", "int", "str", "list", "tuple", "dict"] := by
  cases d <;> simp [tyN]
theorem kit_d {n : String} (h : ∀ a ∈ ["NoneType", "bool", "int", "str", "list", "tuple", "dict"], kitB a n = some (decide (a = n))) (d : PyData) : kitB (tyN d) n = some (decide (tyN d = n)) := h _ (tyN_in d)
theorem kit_int (d : PyData) : kitB (tyN d) "int" = some (decide (tyN d = "int" ∨ tyN d = "bool")) :=
  (by decide +kernel : ∀ a ∈ ["NoneType", "bool", "int", "str", "list", "tuple", "dict"], kitB a "int" = some (decide (a = "int" ∨ a = "bool"))) _ (tyN_in d)
theorem kit_bool (d : PyData) : kitB (tyN d) "bool" = some (decide (tyN d = "bool")) := kit_d (by decide +kernel) d
theorem kit_tup (d : PyData) : kitB (tyN d) "tuple" = some (decide (tyN d = "tuple")) := kit_d (by decide +kernel) d
theorem kit_str (d : PyData) : kitB (tyN d) "str" = some (decide (tyN d = "str")) := kit_d (by decide +kernel) d
/-- for x in an iterator -/
theorem for_gen {J : It} {g : TG} {tb : TS} {D : Ends} {σ : L2.St} {H : Hp} (n : Nat) (Pv : Nat → L2.St → Hp → Prop) (h0 : Pv 0 σ H) (go : ∀ i σ H, i < n → Pv i σ H → J.go i H) (stop : ∀ σ H, Pv n σ H → J.stop n H)
    (hs : ∀ i σ H y H', i < n → Pv i σ H → J.yld i H y H' → g y σ H' fun σ2 H2 => tb { D with nx := Pv (i + 1), ct := Pv (i + 1), bk := D.nx } σ2 H2) (hd : ∀ σ H, Pv n σ H → D.nx σ H) :
    ∃ W : Nat → Nat → L2.St → Hp → Prop, (∃ m, W 0 m σ H) ∧ ∀ i m σ H, W i m σ H →
      (J.stop i H ∧ D.nx σ H) ∨ (J.go i H ∧ ∃ N : L2.St → Hp → Prop, (∀ σ' H', N σ' H' → ∃ m', m' < m ∧ W (i + 1) m' σ' H') ∧ ∀ y H', J.yld i H y H' → g y σ H' fun σ2 H2 => tb { D with nx := N, ct := N, bk := D.nx } σ2 H2) := by
  refine ⟨fun i m σ H => m = n - i ∧ i ≤ n ∧ Pv i σ H, ⟨n, by simp, Nat.zero_le _, h0⟩, ?_⟩
  rintro i m σ H ⟨rfl, hi, p⟩
  by_cases hlt : i < n
  · exact .inr ⟨go i σ H hlt p, Pv (i + 1), fun σ' H' p' => ⟨n - (i + 1), by omega, rfl, hlt, p'⟩, fun y H' q => hs i σ H y H' hlt p q⟩
  · have e : i = n := by omega
    subst e
    exact .inl ⟨stop σ H p, hd σ H p⟩
/-- a whole number within the bounds, True and False are none -/
def wholeIn (d : PyData) (lo hi : Int) : Bool := match d with
  | .int i => decide (lo ≤ i) && decide (i ≤ hi)
  | _ => false
def lastOf (size count : Int) (k : Str) : Int := if k = "box" then size - 1 else if k = "number" then 999999 else count
def fitK (size count : Int) (l : List Str) (ps : List PyData) : Bool := (List.range l.length).all fun k => wholeIn (ps.getD k .none) 0 (lastOf size count (l.getD k Str.empty))
theorem cutV_1 (x : V) (xs : List V) : cutV (x :: xs) (some 1) none = xs := by
  unfold cutV
  have h1 : HT.sIx (x :: xs).length 0 (some 1) = 1 := by
    have := HT.sIx_nat (x :: xs).length 0 1
    simp only [List.length_cons] at this ⊢
    rw [show ((1 : Nat) : Int) = 1 from rfl] at this
    rw [this]
    omega
  rw [h1, HT.sIx_none]
  simp
theorem dpA_by {K : PySem.W.Frag} {H : Hp} : ∀ {vs : List V} {ds : List PyData}, vs.length = ds.length → (∀ (j : Nat) (v : V), vs[j]? = some v → ∃ d, ds[j]? = some d ∧ Dp K H v d) → DpAll K H vs ds
  | [], [], _, _ => .nil
  | v :: vs, d :: ds, hl, h => by
    refine .cons ?_ (dpA_by (Nat.succ.inj hl) fun j v' e => ?_)
    · obtain ⟨d', e, q⟩ := h 0 v rfl
      cases e
      exact q
    · obtain ⟨d', e', q⟩ := h (j + 1) v' (by rw [List.getElem?_cons_succ]; exact e)
      exact ⟨d', by rw [List.getElem?_cons_succ] at e'; exact e', q⟩
  | [], _ :: _, hl, _ => by cases hl
  | _ :: _, [], hl, _ => by cases hl
/-- [a new tuple for k in range(..)] -/
theorem lc_tr {g : TG} {tt : TT} {te : TE} {vs : List Nat} {σ : L2.St} {H1 : Hp} {D : Addr} {Qd : Hp → Prop} {lo : Int} {n : Nat} (fx : Nat → List V) (hD : H1 D = none) (hz : n < sizeLine)
    (hs : ∀ i H, i < n → Same H1 H → ∀ (k1 : VK) (k0 : Hp → Prop), (∀ p H', H' p = some (.tup (fx i)) → Same H H' → k1 (.ref p) H') →
      g (.int (lo + (i : Nat))) (wipe σ vs) H fun σ2 H2 => wipe σ2 vs = wipe σ vs ∧ tt σ2 H2 fun b H3 => if b = true then te σ2 H3 k1 else k0 H3)
    (hd : ∀ H acc, Same H1 H → H D = some (.lst acc) → acc.length = n → (∀ j, j < n → ∃ p, acc[j]? = some (.ref p) ∧ H p = some (.tup (fx j))) → Qd H) : LcW (Itr lo n) g tt te vs σ H1 D Qd := by
  refine ⟨fun i m H => m = n - i ∧ i ≤ n ∧ Same H1 H ∧ ∃ acc, H D = some (.lst acc) ∧ acc.length = i ∧ ∀ j, j < i → ∃ p, acc[j]? = some (.ref p) ∧ H p = some (.tup (fx j)), ⟨n, by simp, Nat.zero_le _, Same.new hD, [], upd_same, rfl, fun j h => absurd h (Nat.not_lt_zero _)⟩, ?_⟩
  rintro i m H ⟨rfl, hi, s1, acc, h1, hl, ha⟩
  by_cases hlt : i < n
  · refine .inr ⟨hlt, fun H' => Same H1 H' ∧ ∃ acc, H' D = some (.lst acc) ∧ acc.length = i + 1 ∧ ∀ j, j < i + 1 → ∃ p, acc[j]? = some (.ref p) ∧ H' p = some (.tup (fx j)), fun H' p' => ⟨n - (i + 1), by omega, rfl, hlt, p'⟩, fun x H' y => ?_⟩
    obtain ⟨e, y⟩ := y
    subst e y
    refine hs i _ hlt s1 _ _ (fun p H'' hp s3 => ?_)
    refine ⟨acc, s3 _ _ h1, by omega, (s1.trans s3).mut hD, acc ++ [.ref p], upd_same, by rw [List.length_append, hl]; rfl, fun j hj => ?_⟩
    have hne : ∀ q u, H'' q = some (.tup u) → q ≠ D := fun q u e z => by
      rw [z, s3 _ _ h1] at e
      cases e
    by_cases h : j < i
    · obtain ⟨q, e1, e2⟩ := ha j h
      have e3 := s3 _ _ e2
      exact ⟨q, by rw [List.getElem?_append_left (by omega)]; exact e1, by rw [upd_ne (hne q _ e3)]; exact e3⟩
    · have : j = i := by omega
      subst this
      exact ⟨p, by rw [List.getElem?_append_right (by omega), hl, Nat.sub_self]; rfl, by rw [upd_ne (hne p _ hp)]; exact hp⟩
  · have e : i = n := by omega
    subst e
    exact .inl ⟨Nat.le_refl _, hd H acc s1 h1 hl ha⟩
end Nl

set_option Elab.async false
set_option linter.all false
set_option maxRecDepth 100000
set_option maxHeartbeats 4000000
namespace Nl
open PySem PySem.Spec PyProof.Rows L2 L2H
/-! ### match over a tuple whose first item is a text -/
/-- the cases of a match, by the subject -/
structure PMs (X : Cx) (cs : List MatchCase) (t : V → TS) : Prop where
  run : ∀ (pins : List (Addr × Obj)) (s : Shared) (σ : L2.St) (H : Hp) (D : Ends) (v : V) (u : Value) (first : Bool), Inv X pins σ H s → RelV v u → t v D σ H → wpAny (model X.prog X.w) X.A (matchCases cs X.env u first) (SP X pins D) X.xe s
def mNil : V → TS := fun _ D σ H => D.nx σ H
theorem pm_nil {X : Cx} : PMs X [] mNil := ⟨fun pins s σ H D v u first I r h => wpAny_matchCases_nil ⟨σ, H, I, h⟩⟩
/-- the names of the other items go to their slots -/
def setAll : List Nat → List V → L2.St → L2.St
  | i :: is, y :: ys, σ => setAll is ys (σ.set i (some y))
  | _, _, σ => σ
inductive Caps (X : Cx) : List Pattern → List Nat → Prop
  | nil : Caps X [] []
  | cons {x : Str} {p : Pos} {ps : List Pattern} {i : Nat} {is : List Nat} (hi : X.N[i]? = some x) (hx : Loc X.env.scope x) (hf : X.fn x = true ∨ X.env.scope.names.lookup x = some .local) (h : Caps X ps is) : Caps X (.MatchAs none (some x) p :: ps) (i :: is)
def capB : List Pattern → List Value → List (Str × Value)
  | .MatchAs none (some x) _ :: ps, u :: us => (x, u) :: capB ps us
  | _, _ => []
theorem Caps.len {X : Cx} {ps : List Pattern} {is : List Nat} (c : Caps X ps is) : ps.length = is.length := by
  induction c with
  | nil => rfl
  | cons _ _ _ _ ih => rw [List.length_cons, List.length_cons, ih]
theorem caps_each {X : Cx} {M : Model} {A : Around} {E : Value → Shared → Prop} {env : Env} {ps : List Pattern} {is : List Nat} (c : Caps X ps is) : ∀ {us : List Value} {s : Shared} {Q : Option (List (Str × Value)) → Shared → Prop}, us.length = ps.length → Q (some (capB ps us)) s → wpAny M A (matchEach ps env us) Q E s := by
  induction c with
  | nil => exact fun _ h => wpAny_matchEach_nil h
  | cons hi hx hf c ih =>
    intro us s Q hl h
    cases us with
    | nil => cases hl
    | cons u us =>
      refine wpAny_matchEach_cons (wpAny_matchPattern_Capture ?_)
      exact ih (Nat.succ.inj hl) h
theorem caps_set {X : Cx} (hN : X.N.Nodup) {pins : List (Addr × Obj)} {H : Hp} {ps : List Pattern} {is : List Nat} (c : Caps X ps is) : ∀ {ys : List V} {us : List Value} {σ : L2.St} {s : Shared} {Q : Unit → Shared → Prop}, Vals ys us → us.length = ps.length → Inv X pins σ H s → (∀ s', Inv X pins (setAll is ys σ) H s' → Q () s') →
    wpAny (model X.prog X.w) X.A (assignInOrder ((capB ps us).map fun (n, _) => bindName X.env n) ((capB ps us).map (·.2))) Q X.xe s := by
  induction c with
  | nil => exact fun r hl I h => wpAny_assignInOrder_none (by
      cases r with
      | nil => exact h _ I
      | cons _ _ => cases hl)
  | cons hi hx hf c ih =>
    intro ys us σ s Q r hl I h
    cases r with
    | nil => cases hl
    | cons r rr =>
      refine wpAny_assignInOrder_more (wpAny_bindName (store_ok I hN hi hx r (fun s1 I1 => ?_) hf))
      exact ih rr (Nat.succ.inj hl) I1 h
def mSeq (K : PySem.W.Frag) (x : Str) (is : List Nat) (b : TS) (r : V → TS) : V → TS := fun v D σ H => ∃ (a : Addr) (z : Str) (ys : List V), v = .ref a ∧ SqT K H a (.str z :: ys) ∧ (ys.length = is.length ∧ z = x → b D (setAll is ys σ) H) ∧ (¬ (ys.length = is.length ∧ z = x) → r v D σ H)
theorem pm_seq {X : Cx} (hc : X.calm = true) (hN : X.N.Nodup) {x : Str} {j : Nat} {p1 p2 p3 : Pos} {ps : List Pattern} {is : List Nat} {body : List Stmt} {rest : List MatchCase} {b : TS} {r : V → TS} (hC : Caps X ps is) (hb : PSs X body b) (hr : PMs X rest r)
    (hs : (Pattern.MatchValue (.Constant (.str x) j p1) p2 :: ps).findIdx? (·.isStar) = none := by rfl) (hw : ((Pattern.MatchValue (.Constant (.str x) j p1) p2 :: ps).all fun p => p.isWildcard || (p.isStar && p.names.isEmpty)) = false := by rfl) :
    PMs X (⟨.MatchSequence (.MatchValue (.Constant (.str x) j p1) p2 :: ps) p3, none, body⟩ :: rest) (mSeq X.K x is b r) := by
  refine ⟨fun pins s σ H D v u first I rv h => ?_⟩
  obtain ⟨a, z, ys, rfl, hS, h1, h0⟩ := h
  cases (show u = Value.ref a from rv)
  obtain ⟨its, ri, ht, hz⟩ := I.tuple hS
  have hfit : ((its.toArray.size : Nat) : Int) < 2 ^ 63 := by
    have e := ri.length
    rw [List.size_toArray, ← e]
    have : sizeLine < 2 ^ 63 := by decide
    omega
  cases ri with
  | @cons _ v0 _ us r0 rr =>
    have hlen := rr.length
    refine wpAny_matchCases_cons ?_
    by_cases hn : ys.length = is.length
    · have hps : (v0 :: us).toArray.size = (Pattern.MatchValue (.Constant (.str x) j p1) p2 :: ps).length := by
        rw [List.size_toArray, List.length_cons, List.length_cons, hC.len]
        omega
      refine matchSeq_tuple_hit ht hfit hps ?_ hs hw
      rw [← hps]
      refine unpackItems_tuple (I.ok.hd hc) ht fun h' hx => ?_
      have I1 : Inv X pins σ H { s with heap := h', toks := s.toks + 1 + 1 } := I.kept (t' := s.toks + 1 + 1) fun b o e => hx b o (Nat.ne_of_lt (Heap.lt_size e)) e
      refine wpAny_matchEach_cons (wpAny_matchPattern_Value ?_)
      refine thn ((pe_str (x := x) (j := j) (pos := p1)).run pins _ σ H (fun y H1 => y = .str x ∧ H1 = H) I1 ⟨rfl, rfl⟩) fun u1 s1 ⟨y, H1, I2, ry, ey, eH⟩ => ?_
      subst ey eH
      refine thn (op_eq pins s1 σ _ (.str z) (.str x) v0 u1 (fun q H2 => q = .bl (decide (V.str z = V.str x)) ∧ H2 = H1) I2 r0 ry ⟨rfl, rfl, rfl⟩) fun c s2 ⟨q, H2, I3, rq, eq, eH⟩ => ?_
      subst eq eH
      cases rq
      refine wpAny_truthy_bool ?_
      by_cases hzx : z = x
      · rw [if_pos (decide_eq_true (congrArg V.str hzx))]
        refine caps_each hC (by rw [hC.len]; omega) ?_
        refine caps_set hN hC rr (by rw [hC.len]; omega) I3 fun s3 I4 => ?_
        exact hb.run pins s3 _ _ D I4 (h1 ⟨hn, hzx⟩)
      · rw [if_neg (fun e => hzx (V.str.inj (of_decide_eq_true e)))]
        exact hr.run pins s2 σ _ D (.ref a) _ _ I3 rfl (h0 fun e => hzx e.2)
    · have hps : (v0 :: us).toArray.size ≠ (Pattern.MatchValue (.Constant (.str x) j p1) p2 :: ps).length := by
        rw [List.size_toArray, List.length_cons, List.length_cons, hC.len]
        omega
      exact matchSeq_tuple_miss ht hfit hps (hr.run pins _ σ _ D (.ref a) _ _ (I.tok _) rfl (h0 fun e => hn e.1)) hs hw
/-- match e: .. -/
def tMatch (te : TE) (t : V → TS) : TS := fun D σ H => te σ H fun v H1 => t v D σ H1
theorem ps_match {X : Cx} {e : Expr} {cs : List MatchCase} {pos : Pos} {te : TE} {t : V → TS} (he : PE X e te) (hm : PMs X cs t) : PS X (.Match e cs pos) (tMatch te t) := by
  refine ⟨fun pins s σ H D I h => ?_⟩
  exact wpAny_Match (thn (he.run pins s σ H _ I h) fun u s1 ⟨v, H1, I1, r, q⟩ => hm.run pins s1 σ H1 D v u true I1 r q)
end Nl

set_option Elab.async false
set_option linter.all false
set_option maxRecDepth 100000
set_option maxHeartbeats 4000000
namespace Nl
open PySem PySem.Spec PyProof.Rows L2 L2H
/-! ### a method of a class of the top, as it stands -/
def MethAt (K : PySem.W.Frag) (C : Addr) (m qual : Str) (st : Stmt) : Prop :=
  ∃ (f : Addr) (oc : Value) (od an : Option Addr) (osl : Array (Option Value)) (kV doc pm cdv ct : Value),
    PySem.W.findIn K (.ref C) m = some (some (.ref f)) ∧ PySem.W.isFn K (.ref f) = true ∧
    K.lookup f = some ⟨oc, od, .func (PySem.W.fnOf m qual (defArgs st) (defBody st) (defScope st) .none kV doc pm an cdv ct), osl⟩ ∧
    PySem.W.codeIn K cdv qual = true ∧ PySem.W.keepIn K (.ref f) = true
theorem meth_mk {K : PySem.W.Frag} {C : Addr} {m qual : Str} {st : Stmt} {f : Addr} {oc : Value} {od an : Option Addr} {osl : Array (Option Value)} {kV doc pm cdv ct : Value} (a : PySem.W.findIn K (.ref C) m = some (some (.ref f))) (i : PySem.W.isFn K (.ref f) = true)
    (l : K.lookup f = some ⟨oc, od, .func (PySem.W.fnOf m qual (defArgs st) (defBody st) (defScope st) .none kV doc pm an cdv ct), osl⟩) (c : PySem.W.codeIn K cdv qual = true) (k : PySem.W.keepIn K (.ref f) = true) : MethAt K C m qual st :=
  ⟨f, oc, od, an, osl, kV, doc, pm, cdv, ct, a, i, l, c, k⟩
theorem cls_mk {K : PySem.W.Frag} {C : Addr} (pg : PySem.W.plainGet K C Str.empty = true) (hd : PySem.W.hasDictIn K C = true) (po : PySem.W.plainOver K C = true) (sa : PySem.W.findIn K (.ref C) "__setattr__" = some (some (.builtin "object.__setattr__"))) : Cls K C := ⟨pg, hd, po, sa⟩
section
variable {P : Program} {w : World} {K : PySem.W.Frag} {mg : Str → Option Value} {base : Heap}
abbrev BindM (m qual : Str) (st : Stmt) (ps : List Str) : Prop := ∀ (kV doc pm : Value) (an : Option Addr) (cdv ct : Value) (us : List Value), us.length = ps.length →
  bindArgs (PySem.W.fnOf m qual (defArgs st) (defBody st) (defScope st) .none kV doc pm an cdv ct) ⟨us, []⟩ = pure (ps.zip us)
theorem met_of {C : Addr} {m qual : Str} {st : Stmt} {N ps : List Str} {k : Nat} {sp : Sp} (c : Cls K C) (D : MethAt K C m qual st) (S : FnScope N ps (defScope st)) (b : BindM m qual st ps) (len : ∀ vs H Q E, sp vs H Q E → vs.length = ps.length)
    (hbody : ∀ (f : Addr) (cdv : Value) (A : Around) (outer : List Env) (s : Shared) (H : Hp) (vs : List V) (Q : VK) (E : XK), Room k (A.deeper (envOfC qual (defScope st) s.heap.objs.size f cdv)) → sp vs H Q E →
      ∃ t, PSs (cxOf CX0 P w K mg base N qual (defScope st) f cdv A outer s H E).nox (defBody st) t ∧ t { nx := fun _ H' => Q .non H', rt := Q } (start N vs) H) : C8.Met P w K mg base (k + 1) C m sp [] := by
  obtain ⟨f, oc, od, an, osl, kV, doc, pm, cdv, ct, a, i, l, cc, kp⟩ := D
  have F := fun_mk (st := st) l cc kp
  exact ⟨f, _, ps, [], c, ⟨a, i, kp⟩, F.ok S len (fun cdv A outer s H vs Q E hr h => hbody f cdv A outer s H vs Q E hr h), F.binds b, .nil⟩
theorem mak_of {C : Addr} {x qual : Str} {st : Stmt} {N ps : List Str} {k : Nat} {sp : Sp} (mk : PySem.W.makesIn K C = true) (kc : PySem.W.keepIn K (.ref C) = true) (hm : mg x = some (.ref C)) (D : MethAt K C "__init__" qual st) (S : FnScope N ps (defScope st)) (b : BindM "__init__" qual st ps) (len : ∀ vs H Q E, sp vs H Q E → vs.length = ps.length)
    (hbody : ∀ (f : Addr) (cdv : Value) (A : Around) (outer : List Env) (s : Shared) (H : Hp) (vs : List V) (Q : VK) (E : XK), Room k (A.deeper (envOfC qual (defScope st) s.heap.objs.size f cdv)) → sp vs H Q E →
      ∃ t, PSs (cxOf CX0 P w K mg base N qual (defScope st) f cdv A outer s H E).nox (defBody st) t ∧ t { nx := fun _ H' => Q .non H', rt := Q } (start N vs) H) : C8.Mak P w K mg base (k + 1) x C sp [] := by
  obtain ⟨f, oc, od, an, osl, kV, doc, pm, cdv, ct, a, i, l, cc, kp⟩ := D
  have F := fun_mk (st := st) l cc kp
  exact ⟨f, _, ps, [], ⟨mk, a, i, kc⟩, F.ok S len (fun cdv A outer s H vs Q E hr h => hbody f cdv A outer s H vs Q E hr h), hm, F.binds b, .nil⟩
end
/-- all but two objects stay -/
def Fr (H H' : Hp) (a b : Addr) : Prop := ∀ q o, H q = some o → q ≠ a → q ≠ b → H' q = some o
end Nl

set_option Elab.async false
set_option linter.all false
set_option maxRecDepth 100000
set_option maxHeartbeats 4000000
namespace Nl
open PySem PySem.Spec PyProof.Rows L2 L2H
structure ExcT (K : PySem.W.Frag) (mg : Str → Option Value) (x : Str) (C : Addr) : Prop where
  g : mg x = some (.ref C)
  x : PySem.W.excIn K C [.type "ValueError", .type "Exception", .type "BaseException", .type "object"] "ValueError.__new__" = true
  k : PySem.W.keepIn K (.ref C) = true
  b : PySem.W.subIn K (.ref C) (.type "BaseException") = some true
  t : PySem.W.typeIn K (.ref C) = some (.type "type")
theorem glob_mk {K : PySem.W.Frag} {x : Str} {v : V} {u : Value} (h : PySem.W.nsIn K mainGlobals x = some (some u)) (r : RelV v u) : ∃ u, PySem.W.nsIn K mainGlobals x = some (some u) ∧ RelV v u := ⟨u, h, r⟩
section
variable {P : Program} {w : World} {K : PySem.W.Frag} {mg : Str → Option Value} {base : Heap}
theorem Cal.imp {CX : CXT} {k : Nat} {x : Str} {sp sp2 : Sp} (c : Cal P w K mg base CX k x sp) (h : ∀ vs H Q E, sp2 vs H Q E → sp vs H Q E) : Cal P w K mg base CX k x sp2 := by
  obtain ⟨f, fd, ps, F, r⟩ := c.ex
  exact ⟨f, fd, ps, F.imp h, r⟩
end
/-- the type of a thing that is no object of the program's own -/
def spWhole (K : PySem.W.Frag) : Sp := fun vs H Q _ => ∃ (v : V) (n : String), vs = [v] ∧ TyX K H v (.type n) ∧ kitB n "int" = some (decide (n = "int" ∨ n = "bool")) ∧ kitB n "bool" = some (decide (n = "bool")) ∧ Q (.bl (decide (n = "int"))) H
/-- a whole number from lo to hi, any thing at all -/
def wholeV (v : V) (lo hi : Int) : Bool := match v with
  | .int i => decide (lo ≤ i) && decide (i ≤ hi)
  | _ => false
/-- what is asked of a thing of any type that is no object of the program's own -/
def AnyT (K : PySem.W.Frag) (H : Hp) (v : V) : Prop := ∃ n : String, TyX K H v (.type n) ∧ kitB n "int" = some (decide (n = "int" ∨ n = "bool")) ∧ kitB n "bool" = some (decide (n = "bool")) ∧ (n = "int" → ∃ i, v = .int i) ∧ ∀ i, v = .int i → n = "int"
def spIsWholeV (K : PySem.W.Frag) : Sp := fun vs H Q _ => ∃ (v : V) (lo hi : Int), vs = [v, .int lo, .int hi] ∧ AnyT K H v ∧ Q (.bl (wholeV v lo hi)) H
def spIsWhole (K : PySem.W.Frag) : Sp := fun vs H Q _ => ∃ (v : V) (d : PyData) (lo hi : Int), vs = [v, .int lo, .int hi] ∧ Dp K H v d ∧ Q (.bl (wholeIn d lo hi)) H
theorem any_dp {K : PySem.W.Frag} {H : Hp} {v : V} {d : PyData} (h : Dp K H v d) : AnyT K H v := by
  refine ⟨tyN d, dp_ty h, kit_int d, kit_bool d, fun e => ?_, fun i e => ?_⟩
  · cases h with
    | int i => exact ⟨i, rfl⟩
    | _ => simp [tyN] at e
  · subst e
    cases h
    rfl
theorem any_int {K : PySem.W.Frag} {H : Hp} (i : Int) : AnyT K H (.int i) := any_dp (.int i)
theorem whole_dp {K : PySem.W.Frag} {H : Hp} {v : V} {d : PyData} (h : Dp K H v d) (lo hi : Int) : wholeV v lo hi = wholeIn d lo hi := by
  cases h <;> rfl
/-- readings by their names, for a comprehension -/
def rLen (K : PySem.W.Frag) : List V → Hp → VK → Prop := fun xs H Q => ∃ p ys, xs = [V.ref p] ∧ (SqL K H p ys ∨ SqT K H p ys) ∧ Q (V.int ys.length) H
def rListOf (K : PySem.W.Frag) : List V → Hp → VK → Prop := fun xs H Q => ∃ p ys, xs = [.ref p] ∧ (SqL K H p ys ∨ SqT K H p ys) ∧ ∀ l, H l = none → Q (.ref l) (upd H l (.lst ys))
/-! ### data that may be laid -/
theorem canAll {ds : List PyData} (h : ∀ d ∈ ds, PyData.canLay0 d = true) : PyData.canLayAll0 ds = true := by
  induction ds with
  | nil => rfl
  | cons d ds ih =>
    show (PyData.canLay0 d && PyData.canLayAll0 ds) = true
    rw [h d List.mem_cons_self, ih fun e he => h e (List.mem_cons_of_mem _ he)]
    rfl
theorem depAll {n : Nat} {ds : List PyData} (h : ∀ d ∈ ds, PyData.depth d ≤ n) : PyData.depthAll ds ≤ n := by
  induction ds with
  | nil => exact Nat.zero_le _
  | cons d ds ih =>
    rw [PyData.depthAll]
    exact Nat.max_le.mpr ⟨h d List.mem_cons_self, ih fun e he => h e (List.mem_cons_of_mem _ he)⟩
/-- texts that may be laid, not deeper than n -/
def okD (n : Nat) (d : PyData) : Prop := PyData.canLay0 d = true ∧ PyData.depth d ≤ n
theorem okD.mono {n m : Nat} {d : PyData} (h : okD n d) (e : n ≤ m) : okD m d := ⟨h.1, Nat.le_trans h.2 e⟩
theorem okD.tup {n : Nat} {ds : List PyData} (h : ∀ d ∈ ds, okD n d) : okD (n + 1) (.tuple ds) :=
  ⟨canAll fun d hd => (h d hd).1, by rw [PyData.depth]; exact Nat.succ_le_succ (depAll fun d hd => (h d hd).2)⟩
theorem okD.lst {n : Nat} {ds : List PyData} (h : ∀ d ∈ ds, okD n d) : okD (n + 1) (.list ds) :=
  ⟨canAll fun d hd => (h d hd).1, by rw [PyData.depth]; exact Nat.succ_le_succ (depAll fun d hd => (h d hd).2)⟩
theorem okD.shaped {n : Nat} {d : PyData} (h : okD n d) (e : n ≤ 64) : SeqAt.shaped d = true := by
  unfold SeqAt.shaped
  rw [h.1, decide_eq_true (Nat.le_trans h.2 e)]
  rfl
theorem okD.int (n : Nat) (i : Int) : okD n (.int i) := ⟨rfl, Nat.zero_le _⟩
theorem okD.bl (n : Nat) (i : Bool) : okD n (.bool i) := ⟨rfl, Nat.zero_le _⟩
theorem okD.non (n : Nat) : okD n .none := ⟨rfl, Nat.zero_le _⟩
theorem okD.str (n : Nat) {z : Str} (h : PyData.strOk z = true) : okD n (.str z) := ⟨h, Nat.zero_le _⟩
theorem okD.ints {n : Nat} (ns : List Int) : ∀ d ∈ (ns.map V.int).map dOf, okD n d := fun d hd => by
  rw [List.map_map] at hd
  obtain ⟨i, _, rfl⟩ := List.mem_map.mp hd
  exact .int _ _
theorem dpA_int {K : PySem.W.Frag} {H : Hp} (ns : List Int) : DpAll K H (ns.map V.int) ((ns.map V.int).map dOf) := dpAll_flat2 (by rw [List.all_map]; exact List.all_eq_true.mpr fun _ _ => rfl)
theorem bs_ok (ns : List Int) : SeqAt.shaped (.list ((ns.map V.int).map dOf)) = true := (okD.lst (okD.ints (n := 0) ns)).shaped (by decide)
/-- of each place one thing: a list of them -/
theorem choose_list {α : Type} (P : Nat → α → Prop) : ∀ n : Nat, (∀ j, j < n → ∃ x, P j x) → ∃ l : List α, l.length = n ∧ ∀ j x, l[j]? = some x → P j x
  | 0, _ => ⟨[], rfl, fun j x e => by simp at e⟩
  | n + 1, h => by
    obtain ⟨l, hl, hp⟩ := choose_list P n fun j hj => h j (Nat.lt_succ_of_lt hj)
    obtain ⟨y, hy⟩ := h n (Nat.lt_succ_self n)
    refine ⟨l ++ [y], by rw [List.length_append, hl]; rfl, fun j x e => ?_⟩
    by_cases hj : j < l.length
    · rw [List.getElem?_append_left hj] at e
      exact hp j x e
    · rw [List.getElem?_append_right (by omega)] at e
      have h0 : j - l.length = 0 := by
        have := (List.getElem?_eq_some_iff.mp e).1
        simp only [List.length_singleton] at this
        omega
      rw [h0] at e
      cases e
      rw [show j = n by omega]
      exact hy
/-- [a new tuple for x in a list]; of each tuple R is known -/
theorem lc_le {K : PySem.W.Frag} {g : TG} {tt : TT} {te : TE} {vs : List Nat} {σ : L2.St} {H1 : Hp} {D a : Addr} {Qd : Hp → Prop} {xs : List V} (R : Nat → List V → Prop) (hD : H1 D = none) (hq : SqL K H1 a xs) (hz : xs.length < sizeLine)
    (hs : ∀ i x H, xs[i]? = some x → Same H1 H → ∀ (k1 : VK) (k0 : Hp → Prop), (∀ p fx H', R i fx → H' p = some (.tup fx) → Same H H' → k1 (.ref p) H') →
      g x (wipe σ vs) H fun σ2 H2 => wipe σ2 vs = wipe σ vs ∧ tt σ2 H2 fun b H3 => if b = true then te σ2 H3 k1 else k0 H3)
    (hd : ∀ H acc, Same H1 H → H D = some (.lst acc) → acc.length = xs.length → (∀ j, j < xs.length → ∃ p fx, acc[j]? = some (.ref p) ∧ H p = some (.tup fx) ∧ R j fx) → Qd H) : LcW (Itl K a) g tt te vs σ H1 D Qd := by
  refine ⟨fun i m H => m = xs.length - i ∧ i ≤ xs.length ∧ Same H1 H ∧ ∃ acc, H D = some (.lst acc) ∧ acc.length = i ∧ ∀ j, j < i → ∃ p fx, acc[j]? = some (.ref p) ∧ H p = some (.tup fx) ∧ R j fx, ⟨xs.length, by simp, Nat.zero_le _, Same.new hD, [], upd_same, rfl, fun j h => absurd h (Nat.not_lt_zero _)⟩, ?_⟩
  rintro i m H ⟨rfl, hi, s1, acc, h1, hl, ha⟩
  by_cases hlt : i < xs.length
  · refine .inr ⟨⟨xs, xs[i], s1.seq hq, by simp [hlt]⟩, fun H' => Same H1 H' ∧ ∃ acc, H' D = some (.lst acc) ∧ acc.length = i + 1 ∧ ∀ j, j < i + 1 → ∃ p fx, acc[j]? = some (.ref p) ∧ H' p = some (.tup fx) ∧ R j fx, fun H' p' => ⟨xs.length - (i + 1), by omega, rfl, hlt, p'⟩, fun x H' y => ?_⟩
    obtain ⟨e, y⟩ := y
    subst e
    refine hs i x _ (y xs (s1.seq hq)) s1 _ _ (fun p fx H'' hR hp s3 => ?_)
    refine ⟨acc, s3 _ _ h1, by omega, (s1.trans s3).mut hD, acc ++ [.ref p], upd_same, by rw [List.length_append, hl]; rfl, fun j hj => ?_⟩
    have hne : ∀ q u, H'' q = some (.tup u) → q ≠ D := fun q u e z => by
      rw [z, s3 _ _ h1] at e
      cases e
    by_cases h : j < i
    · obtain ⟨q, fy, e1, e2, e4⟩ := ha j h
      have e3 := s3 _ _ e2
      exact ⟨q, fy, by rw [List.getElem?_append_left (by omega)]; exact e1, by rw [upd_ne (hne q _ e3)]; exact e3, e4⟩
    · have : j = i := by omega
      subst this
      exact ⟨p, fx, by rw [List.getElem?_append_right (by omega), hl, Nat.sub_self]; rfl, by rw [upd_ne (hne p _ hp)]; exact hp, hR⟩
  · have e : i = xs.length := by omega
    subst e
    exact .inl ⟨⟨xs, s1.seq hq, Nat.le_refl _⟩, hd H acc s1 h1 hl ha⟩
/-- a slice of a list of whole numbers -/
theorem cutV_int (ns : List Int) (lo hi : Option Int) : ∃ cs : List Int, cutV (ns.map V.int) lo hi = cs.map V.int ∧ cs.length ≤ ns.length := by
  unfold cutV
  rw [← List.map_drop, ← List.map_take]
  refine ⟨_, rfl, ?_⟩
  rw [List.length_take, List.length_drop]
  omega
end Nl

set_option linter.all false
namespace Nl
/-! ### some policy: at a touch that is missed while there is no room any line near goes -/
inductive Cost (room : Nat) : List Int → List Int → Nat → Prop
  | nil {S : List Int} : Cost room S [] 0
  | hit {S r : List Int} {x : Int} {n : Nat} : x ∈ S → Cost room S r n → Cost room S (x :: r) n
  | add {S r : List Int} {x : Int} {n : Nat} : x ∉ S → S.length < room → Cost room (x :: S) r n → Cost room S (x :: r) (n + 1)
  | evict {S r : List Int} {x w : Int} {n : Nat} : x ∉ S → S.length = room → w ∈ S → Cost room (x :: S.erase w) r n → Cost room S (x :: r) (n + 1)
theorem cost_perm {room : Nat} {S r : List Int} {n : Nat} (c : Cost room S r n) : ∀ {S' : List Int}, S.Perm S' → Cost room S' r n := by
  induction c with
  | nil => exact fun _ => .nil
  | hit hx c ih => exact fun p => .hit (p.mem_iff.mp hx) (ih p)
  | add hx hl c ih => exact fun p => .add (fun h => hx (p.mem_iff.mpr h)) (by rw [← p.length_eq]; exact hl) (ih (p.cons _))
  | evict hx hl hw c ih => exact fun p => .evict (fun h => hx (p.mem_iff.mpr h)) (by rw [← p.length_eq]; exact hl) (p.mem_iff.mp hw) (ih ((p.erase _).cons _))
theorem nd_swap {a b : Int} {U : List Int} (h : (a :: b :: U).Nodup) : (b :: a :: U).Nodup := (List.Perm.swap _ _ _).nodup_iff.mp h
theorem nd_cons {x : Int} {U : List Int} (h : x ∉ U) (hU : U.Nodup) : (x :: U).Nodup := List.nodup_cons.mpr ⟨h, hU⟩
theorem er_ne {a w : Int} {U : List Int} (h : a ≠ w) : (a :: U).erase w = a :: U.erase w := List.erase_cons_tail (by simpa using h)
theorem er_eq {a : Int} {U : List Int} : (a :: U).erase a = U := List.erase_cons_head _ _
theorem ni_er {x w : Int} {U : List Int} (h : x ∉ U) : x ∉ U.erase w := fun z => h (List.mem_of_mem_erase z)
/-- one line more is no harm -/
theorem cost_more {room : Nat} : ∀ (r U : List Int) (a : Int) (n : Nat), (a :: U).Nodup → (a :: U).length ≤ room → Cost room U r n → ∃ m, m ≤ n ∧ Cost room (a :: U) r m
  | [], U, a, n, _, _, c => ⟨0, Nat.zero_le _, .nil⟩
  | x :: r, U, a, n, ha, hl, c => by
    have haU := (List.nodup_cons.mp ha).1
    cases c with
    | hit hx c =>
      obtain ⟨m, hm, cm⟩ := cost_more r U a n ha hl c
      exact ⟨m, hm, .hit (List.mem_cons_of_mem _ hx) cm⟩
    | @add _ _ _ n hx hlt c =>
      by_cases hxa : x = a
      · subst hxa
        exact ⟨n, Nat.le_succ n, .hit List.mem_cons_self c⟩
      · have hxn : x ∉ a :: U := fun h => (List.mem_cons.mp h).elim hxa hx
        by_cases hf : (a :: U).length < room
        · obtain ⟨m, hm, cm⟩ := cost_more r (x :: U) a n (nd_swap (nd_cons hxn ha)) (by simp only [List.length_cons] at hf ⊢; omega) c
          exact ⟨m + 1, by omega, .add hxn hf (cost_perm cm (List.Perm.swap _ _ _))⟩
        · refine ⟨n + 1, Nat.le_refl _, .evict hxn (by omega) List.mem_cons_self ?_⟩
          rw [er_eq]
          exact c
    | evict hx he hw c =>
      simp only [List.length_cons] at hl
      omega
/-- one line other: at most one miss more -/
theorem cost_one {room : Nat} : ∀ (r U : List Int) (a b : Int) (n : Nat), (a :: U).Nodup → (b :: U).Nodup → (b :: U).length ≤ room → Cost room (b :: U) r n → ∃ m, m ≤ n + 1 ∧ Cost room (a :: U) r m
  | [], U, a, b, n, _, _, _, c => ⟨0, Nat.zero_le _, .nil⟩
  | x :: r, U, a, b, n, ha, hb, hl, c => by
    by_cases hab : a = b
    · subst hab
      exact ⟨n, Nat.le_succ n, c⟩
    have haU := (List.nodup_cons.mp ha).1
    have hbU := (List.nodup_cons.mp hb).1
    have hU := (List.nodup_cons.mp ha).2
    have hl' : (a :: U).length ≤ room := hl
    have habU : (a :: b :: U).Nodup := nd_cons (fun h => (List.mem_cons.mp h).elim hab haU) hb
    by_cases hxU : x ∈ U
    · cases c with
      | hit hx c =>
        obtain ⟨m, hm, cm⟩ := cost_one r U a b n ha hb hl c
        exact ⟨m, hm, .hit (List.mem_cons_of_mem _ hxU) cm⟩
      | add hx _ _ => exact absurd (List.mem_cons_of_mem _ hxU) hx
      | evict hx _ _ _ => exact absurd (List.mem_cons_of_mem _ hxU) hx
    by_cases hxb : x = b
    · subst hxb
      have hxa : x ∉ a :: U := fun h => (List.mem_cons.mp h).elim (fun e => hab e.symm) hxU
      cases c with
      | hit hx c =>
        by_cases hf : (a :: U).length < room
        · obtain ⟨m, hm, cm⟩ := cost_more r (x :: U) a n habU (by simp only [List.length_cons] at hf ⊢; omega) c
          exact ⟨m + 1, by omega, .add hxa hf (cost_perm cm (List.Perm.swap _ _ _))⟩
        · refine ⟨n + 1, Nat.le_refl _, .evict hxa (by omega) List.mem_cons_self ?_⟩
          rw [er_eq]
          exact c
      | add hx _ _ => exact absurd List.mem_cons_self hx
      | evict hx _ _ _ => exact absurd List.mem_cons_self hx
    have hxbU : x ∉ b :: U := fun h => (List.mem_cons.mp h).elim hxb hxU
    by_cases hxa : x = a
    · subst hxa
      cases c with
      | hit hx c => exact absurd hx hxbU
      | @add _ _ _ n hx hlt c =>
        -- a, b and U: a hit of the left
        obtain ⟨m, hm, cm⟩ := less r (x :: U) b n (nd_swap habU) (by simp only [List.length_cons] at hlt ⊢; omega) (cost_perm c (List.Perm.swap _ _ _))
        exact ⟨m, by omega, .hit List.mem_cons_self cm⟩
      | @evict _ _ _ w n hx he hw c =>
        by_cases hwb : w = b
        · subst hwb
          rw [er_eq] at c
          exact ⟨n, by omega, .hit List.mem_cons_self c⟩
        · have hwU : w ∈ U := (List.mem_cons.mp hw).elim (fun e => absurd e hwb) id
          rw [er_ne (Ne.symm hwb)] at c
          have p := List.perm_cons_erase hwU
          have hwx : w ≠ x := fun e => hxU (e ▸ hwU)
          have nU := hU.erase w
          have nw : w ∉ x :: U.erase w := fun h => (List.mem_cons.mp h).elim hwx (fun h => (hU.not_mem_erase) h)
          have nb : b ∉ x :: U.erase w := fun h => (List.mem_cons.mp h).elim (fun e => hxb e.symm) (ni_er hbU)
          have nx := nd_cons (ni_er hxU (w := w)) nU
          obtain ⟨m, hm, cm⟩ := cost_one r (x :: U.erase w) w b n (nd_cons nw nx) (nd_cons nb nx) (by
            have := p.length_eq
            simp only [List.length_cons] at this hl ⊢
            omega) (cost_perm c (List.Perm.swap _ _ _))
          exact ⟨m, by omega, .hit List.mem_cons_self (cost_perm cm ((List.Perm.swap _ _ _).trans (p.symm.cons _)))⟩
    have hxaU : x ∉ a :: U := fun h => (List.mem_cons.mp h).elim hxa hxU
    cases c with
    | hit hx c => exact absurd hx hxbU
    | @add _ _ _ n hx hlt c =>
      obtain ⟨m, hm, cm⟩ := cost_one r (x :: U) a b n (nd_swap (nd_cons hxaU ha)) (nd_swap (nd_cons hxbU hb)) (by simp only [List.length_cons] at hlt ⊢; omega) (cost_perm c (List.Perm.swap _ _ _))
      exact ⟨m + 1, by omega, .add hxaU hlt (cost_perm cm (List.Perm.swap _ _ _))⟩
    | @evict _ _ _ w n hx he hw c =>
      by_cases hwb : w = b
      · subst hwb
        rw [er_eq] at c
        refine ⟨n + 1, by omega, .evict hxaU he List.mem_cons_self ?_⟩
        rw [er_eq]
        exact c
      · have hwU : w ∈ U := (List.mem_cons.mp hw).elim (fun e => absurd e hwb) id
        rw [er_ne (Ne.symm hwb)] at c
        have p := List.perm_cons_erase hwU
        have hwa : a ≠ w := fun e => haU (e ▸ hwU)
        have nU := hU.erase w
        have na : a ∉ x :: U.erase w := fun h => (List.mem_cons.mp h).elim (fun e => hxa e.symm) (ni_er haU)
        have nb : b ∉ x :: U.erase w := fun h => (List.mem_cons.mp h).elim (fun e => hxb e.symm) (ni_er hbU)
        have nx := nd_cons (ni_er hxU (w := w)) nU
        obtain ⟨m, hm, cm⟩ := cost_one r (x :: U.erase w) a b n (nd_cons na nx) (nd_cons nb nx) (by
          have := p.length_eq
          simp only [List.length_cons] at this hl ⊢
          omega) (cost_perm c (List.Perm.swap _ _ _))
        refine ⟨m + 1, by omega, .evict hxaU he (List.mem_cons_of_mem _ hwU) ?_⟩
        rw [er_ne hwa]
        exact cost_perm cm (List.Perm.swap _ _ _)
where
  /-- one line less: at most one miss more -/
  less {room : Nat} : ∀ (r V : List Int) (z : Int) (n : Nat), (z :: V).Nodup → (z :: V).length ≤ room → Cost room (z :: V) r n → ∃ m, m ≤ n + 1 ∧ Cost room V r m
  | [], V, z, n, _, _, c => ⟨0, Nat.zero_le _, .nil⟩
  | x :: r, V, z, n, hz, hl, c => by
    have hzV := (List.nodup_cons.mp hz).1
    have hV := (List.nodup_cons.mp hz).2
    have hlV : V.length < room := by simp only [List.length_cons] at hl; omega
    by_cases hxV : x ∈ V
    · cases c with
      | hit hx c =>
        obtain ⟨m, hm, cm⟩ := less r V z n hz hl c
        exact ⟨m, hm, .hit hxV cm⟩
      | add hx _ _ => exact absurd (List.mem_cons_of_mem _ hxV) hx
      | evict hx _ _ _ => exact absurd (List.mem_cons_of_mem _ hxV) hx
    by_cases hxz : x = z
    · subst hxz
      cases c with
      | hit hx c => exact ⟨n + 1, Nat.le_refl _, .add hxV hlV c⟩
      | add hx _ _ => exact absurd List.mem_cons_self hx
      | evict hx _ _ _ => exact absurd List.mem_cons_self hx
    have hxzV : x ∉ z :: V := fun h => (List.mem_cons.mp h).elim hxz hxV
    cases c with
    | hit hx c => exact absurd hx hxzV
    | @add _ _ _ n hx hlt c =>
      obtain ⟨m, hm, cm⟩ := less r (x :: V) z n (nd_swap (nd_cons hxzV hz)) (by simp only [List.length_cons] at hlt ⊢; omega) (cost_perm c (List.Perm.swap _ _ _))
      exact ⟨m + 1, by omega, .add hxV hlV cm⟩
    | @evict _ _ _ w n hx he hw c =>
      by_cases hwz : w = z
      · subst hwz
        rw [er_eq] at c
        exact ⟨n + 1, by omega, .add hxV hlV c⟩
      · have hwV : w ∈ V := (List.mem_cons.mp hw).elim (fun e => absurd e hwz) id
        rw [er_ne (Ne.symm hwz)] at c
        have p := List.perm_cons_erase hwV
        have hwx : w ≠ x := fun e => hxV (e ▸ hwV)
        have nV := hV.erase w
        have nw : w ∉ x :: V.erase w := fun h => (List.mem_cons.mp h).elim hwx (fun h => (hV.not_mem_erase) h)
        have nz : z ∉ x :: V.erase w := fun h => (List.mem_cons.mp h).elim (fun e => hxz e.symm) (ni_er hzV)
        have nx := nd_cons (ni_er hxV (w := w)) nV
        obtain ⟨m, hm, cm⟩ := cost_one r (x :: V.erase w) w z n (nd_cons nw nx) (nd_cons nz nx) (by
          have := p.length_eq
          simp only [List.length_cons] at this hl ⊢
          omega) (cost_perm c (List.Perm.swap _ _ _))
        exact ⟨m + 1, by omega, .add hxV hlV (cost_perm cm ((List.Perm.swap _ _ _).trans (p.symm.cons _)))⟩
theorem cost_less {room : Nat} (r V : List Int) (z : Int) (n : Nat) (h : (z :: V).Nodup) (hl : (z :: V).length ≤ room) (c : Cost room (z :: V) r n) : ∃ m, m ≤ n + 1 ∧ Cost room V r m := @cost_one.less room [] 0 room r V z n h hl c
/-- of two lines the one that is touched sooner is the better one to have -/
theorem cost_swap {room : Nat} : ∀ (r U : List Int) (y z : Int) (n : Nat), (y :: U).Nodup → (z :: U).Nodup → (z :: U).length ≤ room → r.idxOf y ≤ r.idxOf z → Cost room (z :: U) r n → ∃ m, m ≤ n ∧ Cost room (y :: U) r m
  | [], U, y, z, n, _, _, _, _, c => ⟨0, Nat.zero_le _, .nil⟩
  | x :: r, U, y, z, n, hy, hz, hl, hi, c => by
    by_cases hyz : y = z
    · subst hyz
      exact ⟨n, Nat.le_refl _, c⟩
    have hyU := (List.nodup_cons.mp hy).1
    have hzU := (List.nodup_cons.mp hz).1
    have hU := (List.nodup_cons.mp hy).2
    have hyzU : (y :: z :: U).Nodup := nd_cons (fun h => (List.mem_cons.mp h).elim hyz hyU) hz
    by_cases hxy : x = y
    · subst hxy
      have hxz : x ∉ z :: U := fun h => (List.mem_cons.mp h).elim hyz hyU
      cases c with
      | hit hx c => exact absurd hx hxz
      | @add _ _ _ n hx hlt c =>
        obtain ⟨m, hm, cm⟩ := cost_less r (x :: U) z n (nd_swap hyzU) (by simp only [List.length_cons] at hlt ⊢; omega) (cost_perm c (List.Perm.swap _ _ _))
        exact ⟨m, hm, .hit List.mem_cons_self cm⟩
      | @evict _ _ _ w n hx he hw c =>
        by_cases hwz : w = z
        · subst hwz
          rw [er_eq] at c
          exact ⟨n, by omega, .hit List.mem_cons_self c⟩
        · have hwU : w ∈ U := (List.mem_cons.mp hw).elim (fun e => absurd e hwz) id
          rw [er_ne (Ne.symm hwz)] at c
          have p := List.perm_cons_erase hwU
          have hwx : w ≠ x := fun e => hyU (e ▸ hwU)
          have nU := hU.erase w
          have nw : w ∉ x :: U.erase w := fun h => (List.mem_cons.mp h).elim hwx (fun h => (hU.not_mem_erase) h)
          have nz : z ∉ x :: U.erase w := fun h => (List.mem_cons.mp h).elim (fun e => hyz e.symm) (ni_er hzU)
          have nx := nd_cons (ni_er hyU (w := w)) nU
          obtain ⟨m, hm, cm⟩ := cost_one r (x :: U.erase w) w z n (nd_cons nw nx) (nd_cons nz nx) (by
            have := p.length_eq
            simp only [List.length_cons] at this hl ⊢
            omega) (cost_perm c (List.Perm.swap _ _ _))
          exact ⟨m, hm, .hit List.mem_cons_self (cost_perm cm ((List.Perm.swap _ _ _).trans (p.symm.cons _)))⟩
    by_cases hxz : x = z
    · subst hxz
      have e0 : (x :: r).idxOf x = 0 := by simp
      have e1 : (x :: r).idxOf y = r.idxOf y + 1 := by
        rw [List.idxOf_cons, show (x == y) = false by simpa using hxy]
        rfl
      omega
    have ey : (x :: r).idxOf y = r.idxOf y + 1 := by
      rw [List.idxOf_cons, show (x == y) = false by simpa using hxy]
      rfl
    have ez : (x :: r).idxOf z = r.idxOf z + 1 := by
      rw [List.idxOf_cons, show (x == z) = false by simpa using hxz]
      rfl
    have hi' : r.idxOf y ≤ r.idxOf z := by omega
    by_cases hxU : x ∈ U
    · cases c with
      | hit hx c =>
        obtain ⟨m, hm, cm⟩ := cost_swap r U y z n hy hz hl hi' c
        exact ⟨m, hm, .hit (List.mem_cons_of_mem _ hxU) cm⟩
      | add hx _ _ => exact absurd (List.mem_cons_of_mem _ hxU) hx
      | evict hx _ _ _ => exact absurd (List.mem_cons_of_mem _ hxU) hx
    have hxyU : x ∉ y :: U := fun h => (List.mem_cons.mp h).elim hxy hxU
    have hxzU : x ∉ z :: U := fun h => (List.mem_cons.mp h).elim hxz hxU
    cases c with
    | hit hx c => exact absurd hx hxzU
    | @add _ _ _ n hx hlt c =>
      obtain ⟨m, hm, cm⟩ := cost_swap r (x :: U) y z n (nd_swap (nd_cons hxyU hy)) (nd_swap (nd_cons hxzU hz)) (by simp only [List.length_cons] at hlt ⊢; omega) hi' (cost_perm c (List.Perm.swap _ _ _))
      exact ⟨m + 1, by omega, .add hxyU hlt (cost_perm cm (List.Perm.swap _ _ _))⟩
    | @evict _ _ _ w n hx he hw c =>
      by_cases hwz : w = z
      · subst hwz
        rw [er_eq] at c
        refine ⟨n + 1, by omega, .evict hxyU he List.mem_cons_self ?_⟩
        rw [er_eq]
        exact c
      · have hwU : w ∈ U := (List.mem_cons.mp hw).elim (fun e => absurd e hwz) id
        rw [er_ne (Ne.symm hwz)] at c
        have p := List.perm_cons_erase hwU
        have hwy : y ≠ w := fun e => hyU (e ▸ hwU)
        have nU := hU.erase w
        have ny : y ∉ x :: U.erase w := fun h => (List.mem_cons.mp h).elim (fun e => hxy e.symm) (ni_er hyU)
        have nz : z ∉ x :: U.erase w := fun h => (List.mem_cons.mp h).elim (fun e => hxz e.symm) (ni_er hzU)
        have nx := nd_cons (ni_er hxU (w := w)) nU
        obtain ⟨m, hm, cm⟩ := cost_swap r (x :: U.erase w) y z n (nd_cons ny nx) (nd_cons nz nx) (by
          have := p.length_eq
          simp only [List.length_cons] at this hl ⊢
          omega) hi' (cost_perm c (List.Perm.swap _ _ _))
        refine ⟨m + 1, by omega, .evict hxyU he (List.mem_cons_of_mem _ hwU) ?_⟩
        rw [er_ne hwy]
        exact cost_perm cm (List.Perm.swap _ _ _)
/-- the line of S that goes ahead of r -/
def IsVic (S r : List Int) (z : Int) : Prop := z ∈ S ∧ ∀ y, y ∈ S → r.idxOf y < r.idxOf z ∨ (r.idxOf y = r.idxOf z ∧ z ≤ y)
theorem IsVic.unique {S r : List Int} {z z' : Int} (h : IsVic S r z) (h' : IsVic S r z') : z = z' := by
  have a := h.2 z' h'.1
  have b := h'.2 z h.1
  omega
/-- the best plan's misses -/
inductive Bel (room : Nat) : List Int → List Int → Nat → Prop
  | nil {S : List Int} : Bel room S [] 0
  | hit {S r : List Int} {x : Int} {n : Nat} : x ∈ S → Bel room S r n → Bel room S (x :: r) n
  | add {S r : List Int} {x : Int} {n : Nat} : x ∉ S → S.length < room → Bel room (S ++ [x]) r n → Bel room S (x :: r) (n + 1)
  | evict {S r : List Int} {x w : Int} {n : Nat} : x ∉ S → S.length = room → IsVic S r w → Bel room (S.erase w ++ [x]) r n → Bel room S (x :: r) (n + 1)
theorem perm_snoc (x : Int) (S : List Int) : (x :: S).Perm (S ++ [x]) := (List.perm_append_singleton x S).symm
theorem bel_le {room : Nat} {S r : List Int} {n : Nat} (c : Bel room S r n) : ∀ {m : Nat}, S.Nodup → S.length ≤ room → Cost room S r m → n ≤ m := by
  induction c with
  | nil => exact fun _ _ _ => Nat.zero_le _
  | hit hx c ih =>
    intro m hS hl k
    cases k with
    | hit _ k => exact ih hS hl k
    | add h _ _ => exact absurd hx h
    | evict h _ _ _ => exact absurd hx h
  | @add S r x n hx hlt c ih =>
    intro m hS hl k
    cases k with
    | hit h _ => exact absurd h hx
    | add _ _ k =>
      have := ih ((perm_snoc x S).nodup_iff.mp (nd_cons hx hS)) (by rw [List.length_append]; exact hlt) (cost_perm k (perm_snoc x S))
      omega
    | evict _ h _ _ => omega
  | @evict S r x w n hx he hv c ih =>
    intro m hS hl k
    cases k with
    | hit h _ => exact absurd h hx
    | add _ h _ => omega
    | @evict _ _ _ v m _ _ hw k =>
      have p := List.perm_cons_erase hv.1
      have hlen : (S.erase w ++ [x]).length ≤ room := by
        have := p.length_eq
        simp only [List.length_append, List.length_cons, List.length_nil] at this ⊢
        omega
      have hnd : (S.erase w ++ [x]).Nodup := (perm_snoc x _).nodup_iff.mp (nd_cons (ni_er hx) (hS.erase w))
      by_cases hwv : v = w
      · subst hwv
        have := ih hnd hlen (cost_perm k (perm_snoc x _))
        omega
      · -- S is w, v and V
        have hvw : v ∈ S.erase w := (List.mem_erase_of_ne hwv).mpr hw
        have hwv' : w ∈ S.erase v := (List.mem_erase_of_ne (Ne.symm hwv)).mpr hv.1
        have p1 := List.perm_cons_erase hvw
        have p2 := List.perm_cons_erase hwv'
        have e : (S.erase w).erase v = (S.erase v).erase w := List.erase_comm _ _
        have nS := hS.erase w
        have nx := ni_er (w := w) hx
        have xv : x ≠ v := fun z => hx (z ▸ hw)
        have xw : x ≠ w := fun z => hx (z ▸ hv.1)
        have nV := (hS.erase v).erase w
        have nxV : x ∉ (S.erase v).erase w := ni_er (ni_er hx)
        have n1 : v ∉ (S.erase v).erase w := ni_er hS.not_mem_erase
        have n2 : w ∉ (S.erase v).erase w := (hS.erase v).not_mem_erase
        have a1 : (v :: x :: (S.erase v).erase w).Nodup := nd_cons (fun h => (List.mem_cons.mp h).elim (fun z => xv z.symm) n1) (nd_cons nxV nV)
        have a2 : (w :: x :: (S.erase v).erase w).Nodup := nd_cons (fun h => (List.mem_cons.mp h).elim (fun z => xw z.symm) n2) (nd_cons nxV nV)
        have k' := cost_perm k ((p2.cons x).trans (List.Perm.swap _ _ _))
        have hidx : r.idxOf v ≤ r.idxOf w := by have := hv.2 v hw; omega
        have hl2 : (w :: x :: (S.erase v).erase w).length ≤ room := by
          have h1 := (List.perm_cons_erase hw).length_eq
          have h2 := p2.length_eq
          simp only [List.length_cons] at h1 h2 ⊢
          omega
        obtain ⟨m', hm', km⟩ := cost_swap r _ v w m a1 a2 hl2 hidx k'
        have q : (v :: x :: (S.erase v).erase w).Perm (S.erase w ++ [x]) := by
          rw [← e]
          exact ((List.Perm.swap _ _ _).trans (p1.symm.cons x)).trans (perm_snoc x _)
        have := ih hnd hlen (cost_perm km q)
        omega
end Nl

set_option linter.all false
namespace Nl
/-! ### lines by their last touch, the longest ago first -/
def ordS (o : List Int) (x : Int) : List Int := o.filter (fun y => y != x) ++ [x]
def ordL (ls : List Int) : List Int := ls.foldl ordS []
theorem ordL_snoc (ls : List Int) (x : Int) : ordL (ls ++ [x]) = ordS (ordL ls) x := by
  unfold ordL
  rw [List.foldl_append]
  rfl
theorem flt_id {o : List Int} {x : Int} (h : x ∉ o) : o.filter (fun y => y != x) = o := List.filter_eq_self.mpr fun a ha => by
  have : a ≠ x := fun e => h (e ▸ ha)
  simpa using this
theorem mem_ordS {o : List Int} {x y : Int} : y ∈ ordS o x ↔ y ∈ o ∨ y = x := by
  unfold ordS
  rw [List.mem_append, List.mem_filter, List.mem_singleton]
  by_cases h : y = x <;> simp [h]
theorem mem_ordF {y : Int} : ∀ {ls o : List Int}, y ∈ ls.foldl ordS o ↔ y ∈ o ∨ y ∈ ls
  | [], o => by simp
  | x :: ls, o => by
    rw [List.foldl_cons, mem_ordF, mem_ordS, List.mem_cons]
    exact or_assoc
theorem mem_ordL {y : Int} {ls : List Int} : y ∈ ordL ls ↔ y ∈ ls := by
  unfold ordL
  rw [mem_ordF]
  simp
theorem nd_ordS {o : List Int} {x : Int} (h : o.Nodup) : (ordS o x).Nodup := by
  unfold ordS
  rw [List.nodup_append]
  refine ⟨h.filter _, by simp, fun a ha b hb => ?_⟩
  rw [List.mem_singleton] at hb
  rw [hb]
  have := (List.mem_filter.mp ha).2
  simpa using this
theorem nd_ordF : ∀ {ls o : List Int}, o.Nodup → (ls.foldl ordS o).Nodup
  | [], o, h => h
  | x :: ls, o, h => nd_ordF (ls := ls) (nd_ordS h)
theorem nd_ordL (ls : List Int) : (ordL ls).Nodup := nd_ordF List.nodup_nil
theorem ordF_front {y : Int} : ∀ {seg o : List Int}, y ∉ o → seg.foldl ordS (y :: o) = if y ∈ seg then seg.foldl ordS o else y :: seg.foldl ordS o
  | [], o, h => by simp
  | z :: seg, o, h => by
    rw [List.foldl_cons, List.foldl_cons]
    by_cases e : y = z
    · subst e
      have : ordS (y :: o) y = ordS o y := by
        unfold ordS
        rw [List.filter_cons]
        simp
      rw [this, if_pos List.mem_cons_self]
    · have h1 : ordS (y :: o) z = y :: ordS o z := by
        unfold ordS
        rw [List.filter_cons]
        simp [e]
      have h2 : y ∉ ordS o z := fun hm => (mem_ordS.mp hm).elim h e
      rw [h1, ordF_front h2]
      simp [List.mem_cons, e]
theorem ordL_cons {y : Int} {seg : List Int} : ordL (y :: seg) = if y ∈ seg then ordL seg else y :: ordL seg := by
  have := ordF_front (y := y) (seg := seg) (o := []) (by simp)
  unfold ordL
  rw [List.foldl_cons]
  show seg.foldl ordS (ordS [] y) = _
  rw [show ordS [] y = [y] by rfl]
  exact this
theorem ordF_mid {x : Int} : ∀ {seg A B : List Int}, x ∉ seg → x ∉ A → x ∉ B → ∃ A', x ∉ A' ∧ seg.foldl ordS (A ++ x :: B) = A' ++ x :: seg.foldl ordS B
  | [], A, B, h, ha, hb => ⟨A, ha, rfl⟩
  | z :: seg, A, B, h, ha, hb => by
    have hz : x ≠ z := fun e => h (e ▸ List.mem_cons_self)
    have e1 : ordS (A ++ x :: B) z = A.filter (fun y => y != z) ++ x :: ordS B z := by
      unfold ordS
      rw [List.filter_append, List.filter_cons]
      simp [hz]
    rw [List.foldl_cons, e1, List.foldl_cons]
    exact ordF_mid (fun hm => h (List.mem_cons_of_mem _ hm)) (fun hm => ha (List.mem_filter.mp hm).1) (fun hm => (mem_ordS.mp hm).elim hb hz)
/-- the depth of a touch of x behind lines of which o tells the order -/
def depO (o : List Int) (x : Int) : Option Nat := if x ∈ o then some (o.length - 1 - o.idxOf x) else none
theorem idx_mid {x : Int} : ∀ {A B : List Int}, x ∉ A → (A ++ x :: B).idxOf x = A.length
  | [], B, h => by simp
  | a :: A, B, h => by
    have : a ≠ x := fun e => h (e ▸ List.mem_cons_self)
    rw [List.cons_append, List.idxOf_cons, show (a == x) = false by simpa using this, List.length_cons, ← idx_mid (A := A) (B := B) fun hm => h (List.mem_cons_of_mem _ hm)]
    rfl
theorem dep_mid {x : Int} {A B : List Int} (h : x ∉ A) : depO (A ++ x :: B) x = some B.length := by
  unfold depO
  rw [if_pos (by simp), idx_mid h]
  congr 1
  simp only [List.length_append, List.length_cons]
  omega
/-- by the lines between a touch and the last one of its own line -/
theorem dep_seg {x : Int} {pre seg : List Int} (h : x ∉ seg) : depO (ordL (pre ++ x :: seg)) x = some (ordL seg).length := by
  unfold ordL
  rw [List.foldl_append, List.foldl_cons]
  obtain ⟨A', h1, h2⟩ := ordF_mid (x := x) (seg := seg) (A := (pre.foldl ordS []).filter (fun y => y != x)) (B := []) h (fun hm => by simpa using (List.mem_filter.mp hm).2) (by simp)
  rw [show ordS (pre.foldl ordS []) x = (pre.foldl ordS []).filter (fun y => y != x) ++ x :: [] from rfl, h2, dep_mid h1]
theorem dep_none {x : Int} {ls : List Int} (h : x ∉ ls) : depO (ordL ls) x = none := by
  unfold depO
  rw [if_neg fun hm => h (mem_ordL.mp hm)]
/-! ### room for R lines by the rule least -/
def lastN (R : Nat) (o : List Int) : List Int := o.drop (o.length - R)
def nearS (R : Nat) (near : List Int) (x : Int) : List Int := if x ∈ near then near.filter (fun y => y != x) ++ [x] else (if near.length = R then near.drop 1 else near) ++ [x]
theorem lastN_of {R : Nat} {A B : List Int} (h : B.length = R ∨ (A = [] ∧ B.length ≤ R)) : lastN R (A ++ B) = B := by
  unfold lastN
  rcases h with h | ⟨h, h2⟩
  · rw [List.length_append, show A.length + B.length - R = A.length by omega]
    simp
  · subst h
    rw [List.nil_append, show B.length - R = 0 by omega]
    rfl
theorem lastN_split (R : Nat) (o : List Int) : ∃ A, o = A ++ lastN R o ∧ ((lastN R o).length = R ∨ (A = [] ∧ (lastN R o).length ≤ R)) := by
  refine ⟨o.take (o.length - R), (List.take_append_drop _ _).symm, ?_⟩
  unfold lastN
  rw [List.length_drop]
  by_cases h : R ≤ o.length
  · exact .inl (by omega)
  · refine .inr ⟨?_, by omega⟩
    rw [show o.length - R = 0 by omega]
    rfl
theorem near_last {R : Nat} (hR : 1 ≤ R) {o : List Int} (ho : o.Nodup) (x : Int) : nearS R (lastN R o) x = lastN R (ordS o x) := by
  obtain ⟨A, e, hs⟩ := lastN_split R o
  generalize lastN R o = B at e hs
  subst e
  have hAB := List.nodup_append.mp ho
  by_cases hB : x ∈ B
  · have hA : x ∉ A := fun h => hAB.2.2 x h x hB rfl
    have e1 : ordS (A ++ B) x = A ++ (B.filter (fun y => y != x) ++ [x]) := by
      unfold ordS
      rw [List.filter_append, flt_id hA, List.append_assoc]
    have hl : (B.filter (fun y => y != x) ++ [x]).length = B.length := by
      have e2 : B.filter (fun y => y != x) = B.erase x := by rw [hAB.2.1.erase_eq_filter]
      rw [e2, List.length_append, List.length_erase_of_mem hB]
      have := List.length_pos_of_mem hB
      simp only [List.length_singleton]
      omega
    rw [e1, lastN_of (by rw [hl]; exact hs)]
    unfold nearS
    rw [if_pos hB]
  · unfold nearS
    rw [if_neg hB]
    have e1 : ordS (A ++ B) x = A.filter (fun y => y != x) ++ (B ++ [x]) := by
      unfold ordS
      rw [List.filter_append, flt_id hB, List.append_assoc]
    rw [e1]
    by_cases hf : B.length = R
    · rw [if_pos hf]
      cases B with
      | nil => simp only [List.length_nil] at hf; omega
      | cons b B =>
        rw [show A.filter (fun y => y != x) ++ (b :: B ++ [x]) = (A.filter (fun y => y != x) ++ [b]) ++ (B ++ [x]) by simp]
        rw [lastN_of (.inl (by rw [List.length_append]; exact hf))]
        rfl
    · rw [if_neg hf]
      rcases hs with hs | ⟨hA, hs⟩
      · exact absurd hs hf
      · subst hA
        rw [show List.filter (fun y => y != x) ([] : List Int) = [] from rfl]
        exact (lastN_of (.inr ⟨rfl, by rw [List.length_append, List.length_singleton]; omega⟩)).symm
theorem mem_last {R : Nat} {o : List Int} (ho : o.Nodup) (x : Int) : x ∈ lastN R o ↔ ∃ d, depO o x = some d ∧ d < R := by
  obtain ⟨A, e, hs⟩ := lastN_split R o
  generalize lastN R o = B at e hs
  subst e
  have hAB := List.nodup_append.mp ho
  constructor
  · intro hB
    have hA : x ∉ A := fun h => hAB.2.2 x h x hB rfl
    obtain ⟨B1, B2, rfl⟩ := List.append_of_mem hB
    have h1 : x ∉ B1 := fun h => by
      have := (List.nodup_append.mp hAB.2.1).2.2 x h x List.mem_cons_self
      exact this rfl
    rw [← List.append_assoc]
    refine ⟨B2.length, dep_mid fun h => (List.mem_append.mp h).elim hA h1, ?_⟩
    simp only [List.length_append, List.length_cons] at hs
    rcases hs with hs | ⟨_, hs⟩ <;> omega
  · rintro ⟨d, hd, hlt⟩
    by_cases hB : x ∈ B
    · exact hB
    · by_cases hA : x ∈ A
      · obtain ⟨A1, A2, rfl⟩ := List.append_of_mem hA
        have h1 : x ∉ A1 := fun h => by
          have := (List.nodup_append.mp hAB.1).2.2 x h x List.mem_cons_self
          exact this rfl
        rw [List.append_assoc, List.cons_append, dep_mid h1] at hd
        cases hd
        rw [List.length_append] at hlt
        rcases hs with hs | ⟨hs, _⟩
        · omega
        · simp at hs
      · unfold depO at hd
        rw [if_neg fun h => (List.mem_append.mp h).elim hA hB] at hd
        cases hd
theorem last_sub {R : Nat} {o : List Int} {x : Int} (h : x ∈ lastN R o) : x ∈ lastN (R + 1) o := by
  unfold lastN at h ⊢
  obtain ⟨k, hk, e⟩ := List.mem_iff_getElem.mp h
  have hl : k < o.length - (o.length - R) := by rw [List.length_drop] at hk; exact hk
  refine List.mem_iff_getElem.mpr ⟨k + (o.length - R - (o.length - (R + 1))), by rw [List.length_drop]; omega, ?_⟩
  rw [List.getElem_drop] at e ⊢
  rw [← e]
  congr 1
  omega
end Nl

set_option Elab.async false
set_option linter.all false
set_option maxRecDepth 100000
set_option maxHeartbeats 4000000
namespace Nl
open PySem PySem.Spec PyProof.Rows L2 L2H
/-! ### rows of touches -/
/-- us are the touches ts -/
def TsAt (H : Hp) (us : List V) (ts : List (Str × Int)) : Prop := us.length = ts.length ∧ ∀ (j : Nat) (t : Str × Int), ts[j]? = some t → ∃ q, us[j]? = some (V.ref q) ∧ H q = some (.tup [.str t.1, .int t.2])
theorem TsAt.same {H H' : Hp} {us : List V} {ts : List (Str × Int)} (h : TsAt H us ts) (s : Same H H') : TsAt H' us ts := ⟨h.1, fun j t e => by
  obtain ⟨q, e1, e2⟩ := h.2 j t e
  exact ⟨q, e1, s _ _ e2⟩⟩
/-- while the list at a changes -/
theorem TsAt.mut {H H' : Hp} {us : List V} {ts : List (Str × Int)} {a : Addr} {ux : List V} (h : TsAt H us ts) (ha : H a = some (.lst ux)) (f : ∀ q o, H q = some o → q ≠ a → H' q = some o) : TsAt H' us ts := ⟨h.1, fun j t e => by
  obtain ⟨q, e1, e2⟩ := h.2 j t e
  exact ⟨q, e1, f _ _ e2 fun z => by rw [z, ha] at e2; cases e2⟩⟩
theorem TsAt.snoc {H : Hp} {us : List V} {ts : List (Str × Int)} {t : Str × Int} {q : Addr} (h : TsAt H us ts) (hq : H q = some (.tup [.str t.1, .int t.2])) : TsAt H (us ++ [.ref q]) (ts ++ [t]) := by
  refine ⟨by rw [List.length_append, List.length_append, h.1]; rfl, fun j t' e => ?_⟩
  have hl := h.1
  by_cases hj : j < ts.length
  · rw [List.getElem?_append_left hj] at e
    obtain ⟨q', e1, e2⟩ := h.2 j t' e
    exact ⟨q', by rw [List.getElem?_append_left (by omega)]; exact e1, e2⟩
  · rw [List.getElem?_append_right (by omega)] at e
    have hj0 : j - ts.length = 0 := by
      have := (List.getElem?_eq_some_iff.mp e).1
      simp only [List.length_singleton] at this
      omega
    rw [hj0] at e
    cases e
    exact ⟨q, by rw [List.getElem?_append_right (by omega), show j - us.length = 0 by omega]; rfl, hq⟩
def RW (t : Str × Int) : Prop := t.1 = "read" ∨ t.1 = "write"
def tsD (t : Str × Int) : PyData := .tuple [.str t.1, .int t.2]
theorem ts_ok {t : Str × Int} (h : RW t) : okD 1 (tsD t) := .tup fun d hd => by
  rcases List.mem_cons.mp hd with rfl | hd
  · exact .str _ (by rcases h with h | h <;> rw [h] <;> decide +kernel)
  · cases List.mem_singleton.mp hd
    exact .int _ _
theorem tsl_ok {ts : List (Str × Int)} (h : ∀ t ∈ ts, RW t) : okD 2 (.list (ts.map tsD)) := .lst fun d hd => by
  obtain ⟨t, ht, rfl⟩ := List.mem_map.mp hd
  exact ts_ok (h t ht)
theorem TsAt.dp {K : PySem.W.Frag} {H : Hp} {us : List V} {ts : List (Str × Int)} (h : TsAt H us ts) : DpAll K H us (ts.map tsD) := by
  refine dpA_by (by rw [List.length_map]; exact h.1) fun j v e => ?_
  have hj : j < ts.length := by
    obtain ⟨hj, _⟩ := List.getElem?_eq_some_iff.mp e
    have := h.1
    omega
  obtain ⟨q, e1, e2⟩ := h.2 j _ (List.getElem?_eq_getElem hj)
  rw [e] at e1
  cases e1
  exact ⟨tsD ts[j], by rw [List.getElem?_map, List.getElem?_eq_getElem hj]; rfl, .tup (SqT.of e2) (.cons (.str _) (.cons (.int _) .nil))⟩
theorem eqV_int {a b : Int} : eqV (.int a) (.int b) = true ↔ a = b := by
  show (a == b) = true ↔ a = b
  exact beq_iff_eq
theorem inV_int (y : Int) (os : List Int) : inV (.int y) (os.map V.int) = decide (y ∈ os) := by
  rw [Bool.eq_iff_iff, decide_eq_true_eq]
  unfold inV
  rw [List.any_map, List.any_eq_true]
  constructor
  · rintro ⟨z, hz, e⟩
    have := eqV_int.mp e
    first
    | (subst this; exact hz)
    | (rw [← this]; exact hz)
  · exact fun h => ⟨y, h, eqV_int.mpr rfl⟩
/-- the lines of touches -/
def linesOf (w : Int) (ts : List (Str × Int)) : List Int := ts.map fun t => t.2 / w
/-- over a list: what is made of item i is known by its place -/
theorem lc_fi {K : PySem.W.Frag} {g : TG} {tt : TT} {te : TE} {vs : List Nat} {σ : L2.St} {H1 : Hp} {D a : Addr} {Qd : Hp → Prop} {xs : List V} (fs : Nat → Option V) (hD : H1 D = none) (hq : SqL K H1 a xs) (hz : xs.length < sizeLine) (hs : ∀ (i : Nat) x H, xs[i]? = some x → Same H1 H → LcTurn g tt te vs σ x H (fs i))
    (hd : ∀ H, Same H1 H → H D = some (.lst ((List.range xs.length).filterMap fs)) → Qd H) : LcW (Itl K a) g tt te vs σ H1 D Qd :=
  lc_gen xs.length (fun i x _ => xs[i]? = some x) fs hD hz
    (fun i H hi s => ⟨xs, xs[i], s.seq hq, by simp [hi]⟩) (fun H s => ⟨xs, s.seq hq, Nat.le_refl _⟩) (fun i H x H' hi s y => by
      obtain ⟨e, y⟩ := y
      subst e
      exact ⟨Same.refl _, y xs (s.seq hq)⟩)
    (fun i x H hi s r k1 k0 h1 h0 => hs i x H r s k1 k0 h1 h0) hd
/-- what range_fm gives of whole numbers -/
theorem range_ints (ls : List Int) (n : Nat) (hn : n = ls.length) : (List.range n).filterMap (fun i => (ls[i]?).bind fun x => some (V.int x)) = ls.map V.int := by
  rw [hn, range_fm, fm_some]
/-- a whole number or None -/
def ovV : Option Nat → V
  | none => .non
  | some d => .int (d : Nat)
theorem flat_ov (o : Option Nat) : flatV (ovV o) = true := by cases o <;> rfl
def depsL (ls : List Int) : List (Option Nat) := (List.range ls.length).map fun k => depO (ordL (ls.take k)) (ls.getD k 0)
theorem depO_le {o : List Int} {x : Int} {d : Nat} (h : depO o x = some d) : d ≤ o.length := by
  unfold depO at h
  split at h
  · cases h
    omega
  · cases h
theorem ordL_len (ls : List Int) : (ordL ls).length ≤ ls.length := by
  have h : ∀ (ls o : List Int), (ls.foldl ordS o).length ≤ o.length + ls.length := by
    intro ls
    induction ls with
    | nil => intro o; simp
    | cons x ls ih =>
      intro o
      have h1 := ih (ordS o x)
      have h2 : (ordS o x).length ≤ o.length + 1 := by
        unfold ordS
        rw [List.length_append]
        have := List.length_filter_le (fun y => y != x) o
        simp only [List.length_singleton]
        omega
      rw [List.foldl_cons, List.length_cons]
      omega
  have := h ls []
  simpa [ordL] using this
end Nl

set_option Elab.async false
set_option linter.all false
set_option maxRecDepth 100000
set_option maxHeartbeats 4000000
namespace Nl
open PySem PySem.Spec PyProof.Rows L2 L2H
/-! ### dicts whose keys are whole numbers -/
section
variable {α : Type}
/-- the dict of the pairs ps, in their order -/
def dk (g : α → V) (ps : List (Int × α)) : List (Key × V) := ps.map fun p => (.inl p.1, g p.2)
def lkP (ps : List (Int × α)) (l : Int) : Option α := (ps.find? fun p => decide (p.1 = l)).map (·.2)
def putP (ps : List (Int × α)) (l : Int) (v : α) : List (Int × α) := if l ∈ ps.map (·.1) then ps.map (fun p => if p.1 = l then (p.1, v) else p) else ps ++ [(l, v)]
def dropP (ps : List (Int × α)) (l : Int) : List (Int × α) := ps.filter fun p => p.1 != l
theorem dk_len (g : α → V) (ps : List (Int × α)) : (dk g ps).length = ps.length := by
  unfold dk
  rw [List.length_map]
theorem dk_val (g : α → V) (l : Int) : ∀ ps : List (Int × α), valV (dk g ps) (.inl l) = (lkP ps l).map g
  | [] => rfl
  | p :: ps => by
    have h := dk_val g l ps
    by_cases e : p.1 = l
    · rw [show dk g (p :: ps) = (.inl p.1, g p.2) :: dk g ps from rfl, valV_pos (by rw [e])]
      unfold lkP
      rw [List.find?_cons_of_pos (by simpa using e)]
      rfl
    · rw [show dk g (p :: ps) = (.inl p.1, g p.2) :: dk g ps from rfl, valV_neg (fun z => e (Sum.inl.inj z)), h]
      unfold lkP
      rw [List.find?_cons_of_neg (by simpa using e)]
theorem dk_drop (g : α → V) (l : Int) : ∀ ps : List (Int × α), dropK (dk g ps) (.inl l) = dk g (dropP ps l)
  | [] => rfl
  | p :: ps => by
    have h := dk_drop g l ps
    unfold dropK dropP at h ⊢
    rw [show dk g (p :: ps) = (.inl p.1, g p.2) :: dk g ps from rfl, List.filter_cons, List.filter_cons, h]
    by_cases e : p.1 = l
    · rw [if_neg (by simp [e]), if_neg (by simp [e])]
    · rw [if_pos (by simpa using e), if_pos (by simpa using e)]
      rfl
theorem dk_any (g : α → V) (l : Int) (ps : List (Int × α)) : ((dk g ps).any fun kv => decide (kv.1 = Sum.inl l)) = decide (l ∈ ps.map (·.1)) := by
  rw [Bool.eq_iff_iff, decide_eq_true_eq, List.any_eq_true]
  unfold dk
  constructor
  · rintro ⟨kv, hm, e⟩
    obtain ⟨p, hp, rfl⟩ := List.mem_map.mp hm
    exact List.mem_map.mpr ⟨p, hp, Sum.inl.inj (of_decide_eq_true e)⟩
  · intro h
    obtain ⟨p, hp, rfl⟩ := List.mem_map.mp h
    exact ⟨_, List.mem_map.mpr ⟨p, hp, rfl⟩, decide_eq_true rfl⟩
theorem dk_put (g : α → V) (l : Int) (v : α) (ps : List (Int × α)) : putK (dk g ps) (.inl l) (g v) = dk g (putP ps l v) := by
  unfold putK putP
  rw [dk_any]
  by_cases h : l ∈ ps.map (·.1)
  · rw [if_pos (decide_eq_true h), if_pos h]
    unfold dk
    rw [List.map_map, List.map_map]
    refine List.map_congr_left fun p _ => ?_
    show (if Sum.inl p.1 = Sum.inl l then (Sum.inl p.1, g v) else (Sum.inl p.1, g p.2)) = _
    by_cases e : p.1 = l
    · rw [if_pos (by rw [e])]
      simp [e]
    · rw [if_neg (fun z => e (Sum.inl.inj z))]
      simp [e]
  · rw [if_neg (fun z => h (of_decide_eq_true z)), if_neg h]
    unfold dk
    rw [List.map_append]
    rfl
theorem lk_some {ps : List (Int × α)} {l : Int} : (lkP ps l).isSome = decide (l ∈ ps.map (·.1)) := by
  unfold lkP
  rw [Option.isSome_map, Bool.eq_iff_iff, decide_eq_true_eq, List.find?_isSome]
  constructor
  · rintro ⟨p, hp, e⟩
    exact List.mem_map.mpr ⟨p, hp, of_decide_eq_true e⟩
  · intro h
    obtain ⟨p, hp, rfl⟩ := List.mem_map.mp h
    exact ⟨p, hp, decide_eq_true rfl⟩
theorem lk_none {ps : List (Int × α)} {l : Int} (h : l ∉ ps.map (·.1)) : lkP ps l = none := by
  have := lk_some (ps := ps) (l := l)
  rw [decide_eq_false h] at this
  exact Option.isNone_iff_eq_none.mp (by simpa using this)
theorem lk_mem {ps : List (Int × α)} {l : Int} {v : α} (h : lkP ps l = some v) : (l, v) ∈ ps := by
  unfold lkP at h
  obtain ⟨p, hp, rfl⟩ := Option.map_eq_some_iff.mp h
  have h1 := List.mem_of_find?_eq_some hp
  have h2 := List.find?_some hp
  rw [← of_decide_eq_true h2]
  exact h1
theorem drop_keys (ps : List (Int × α)) (l : Int) : (dropP ps l).map (·.1) = (ps.map (·.1)).filter (fun y => y != l) := by
  unfold dropP
  rw [List.filter_map]
  rfl
theorem put_new {ps : List (Int × α)} {l : Int} {v : α} (h : l ∉ ps.map (·.1)) : putP ps l v = ps ++ [(l, v)] := if_neg h
theorem put_keys (ps : List (Int × α)) (l : Int) (v : α) : (putP ps l v).map (·.1) = if l ∈ ps.map (·.1) then ps.map (·.1) else ps.map (·.1) ++ [l] := by
  unfold putP
  split
  · rw [List.map_map]
    refine List.map_congr_left fun p _ => ?_
    show (if p.1 = l then (p.1, v) else p).1 = p.1
    split <;> rfl
  · rw [List.map_append]
    rfl
end
/-- the dict that tells of lines that they are there -/
def tkP (near : List Int) : List (Int × Unit) := near.map fun l => (l, ())
def gT : Unit → V := fun _ => .bl true
theorem tk_keys (near : List Int) : (tkP near).map (·.1) = near := by
  unfold tkP
  rw [List.map_map]
  exact List.map_id' near
theorem tk_len (near : List Int) : (tkP near).length = near.length := by
  unfold tkP
  rw [List.length_map]
theorem tk_drop (near : List Int) (l : Int) : dropP (tkP near) l = tkP (near.filter fun y => y != l) := by
  unfold dropP tkP
  rw [List.filter_map]
  rfl
theorem tk_put {near : List Int} {l : Int} : putP (tkP near) l () = tkP (if l ∈ near then near else near ++ [l]) := by
  unfold putP
  rw [tk_keys]
  split
  · unfold tkP
    rw [List.map_map]
    refine List.map_congr_left fun p _ => ?_
    show (if p = l then (p, ()) else (p, ())) = (p, ())
    split <;> rfl
  · unfold tkP
    rw [List.map_append]
    rfl
theorem at_mapmod {α : Type} (f : α → V) (d : α) {ns : List α} (c : Int) {n : Int} (h : 0 < n) (e : (ns.length : Int) = n) : atI (ns.map f) (c % n) = some (f (ns.getD (c % n).toNat d)) := by
  have h0 := mod_nn c h
  have h1 := mod_lt c h
  refine at_in h0 ?_
  have : (c % n).toNat < ns.length := by omega
  rw [List.getElem?_map, List.getD_eq_getElem?_getD, List.getElem?_eq_getElem this]
  rfl
theorem at_map {α : Type} (f : α → V) {ns : List α} {k : Nat} {x : α} (e : ns[k]? = some x) : atI (ns.map f) (k : Nat) = some (f x) := at_in (by omega) (by rw [show ((k : Nat) : Int).toNat = k by omega, List.getElem?_map, e]; rfl)
theorem at_map0 {α : Type} (f : α → V) {ns : List α} {k : Nat} {x : α} (e : ns[k]? = some x) : atI (ns.map f) (0 + (k : Int)) = some (f x) := by
  rw [Int.zero_add]
  exact at_map f e
/-- all but L -/
def neF (L : Int) : V → Option V := fun v => if v = V.int L then none else some v
theorem neV (L : Int) : ∀ ks : List Int, (ks.map V.int).filterMap (neF L) = (ks.filter (fun y => y != L)).map V.int
  | [] => rfl
  | x :: ks => by
    have h := neV L ks
    rw [List.map_cons]
    by_cases e : x = L
    · rw [List.filterMap_cons_none (f := neF L) (if_pos (congrArg V.int e)), h, List.filter_cons_of_neg (by simp [e])]
    · rw [List.filterMap_cons_some (f := neF L) (b := V.int x) (if_neg (fun z => e (V.int.inj z))), h, List.filter_cons_of_pos (by simpa using e)]
      rfl
/-- a whole number or None -/
def oiV : Option Int → V
  | none => .non
  | some i => .int i
def oiD : Option Int → PyData
  | none => .none
  | some i => .int i
theorem oi_dp {K : PySem.W.Frag} {H : Hp} (o : Option Int) : Dp K H (oiV o) (oiD o) := by
  cases o with
  | none => exact .non
  | some i => exact .int i
theorem oi_ok (o : Option Int) (n : Nat) : okD n (oiD o) := by
  cases o with
  | none => exact .non n
  | some i => exact .int n i
theorem flat_oi (o : Option Int) : flatV (oiV o) = true := by cases o <;> rfl
theorem ois_dp {K : PySem.W.Frag} {H : Hp} : ∀ os : List (Option Int), DpAll K H (os.map oiV) (os.map oiD)
  | [] => .nil
  | o :: os => .cons (oi_dp o) (ois_dp os)
theorem ois_ok (os : List (Option Int)) : okD 1 (.list (os.map oiD)) := .lst fun d hd => by
  obtain ⟨o, _, rfl⟩ := List.mem_map.mp hd
  exact oi_ok o 0
end Nl

set_option Elab.async false
set_option linter.all false
set_option maxRecDepth 100000
set_option maxHeartbeats 4000000
namespace Nl
open PySem PySem.Spec PyProof.Rows L2 LamX
/-! ### the order of pairs -/
def lt2 (x y : Int × Int) : Bool := if x.1 = y.1 then decide (x.2 < y.2) else decide (x.1 < y.1)
theorem dl2 (a b c d : Int) : PySem.W.dataLt (.tuple [.int a, .int b]) (.tuple [.int c, .int d]) = lt2 (a, b) (c, d) := by
  have h1 : ∀ a b : Int, PySem.W.keyToks (.tuple [.int a, .int b]) = [.inl 1, .inl a, .inl 1, .inl b, .inl 0] := fun a b => rfl
  unfold PySem.W.dataLt lt2
  rw [h1, h1, lex_self (O := itemOrd)]
  by_cases h : a = c
  · subst h
    rw [lex_self (O := itemOrd), lex_self (O := itemOrd), if_pos rfl]
    by_cases e : b = d
    · subst e
      rw [lex_self (O := itemOrd), lex_self (O := itemOrd)]
      simp [PyProof.Rows.lexLt]
    · rw [lex_diff (O := itemOrd) (fun z => e (Sum.inl.inj z))]
      rfl
  · rw [lex_diff (O := itemOrd) (fun z => h (Sum.inl.inj z)), if_neg h]
    rfl
theorem lt2_iff {x y : Int × Int} : lt2 x y = true ↔ x.1 < y.1 ∨ (x.1 = y.1 ∧ x.2 < y.2) := by
  unfold lt2
  by_cases h : x.1 = y.1
  · rw [if_pos h, decide_eq_true_eq]
    omega
  · rw [if_neg h, decide_eq_true_eq]
    omega
theorem argBest_le (bt : Nat → Nat → Bool) : ∀ k, argBest bt k ≤ k
  | 0 => Nat.le_refl _
  | k + 1 => by
    have := argBest_le bt k
    unfold argBest
    split <;> omega
theorem argBest_min {bt : Nat → Nat → Bool} {key : Nat → Int × Int} (hb : ∀ i j, bt i j = lt2 (key i) (key j)) : ∀ k j, j ≤ k → ¬ lt2 (key j) (key (argBest bt k)) = true
  | 0, j, h => by
    obtain rfl : j = 0 := Nat.le_zero.mp h
    rw [lt2_iff]
    show ¬ ((key 0).1 < (key 0).1 ∨ _)
    unfold argBest
    omega
  | k + 1, j, h => by
    have ih := argBest_min hb k
    unfold argBest
    by_cases e : bt (k + 1) (argBest bt k) = true
    · rw [if_pos e]
      rw [hb, lt2_iff] at e
      rcases Nat.lt_or_ge j (k + 1) with h' | h'
      · have := ih j (by omega)
        rw [lt2_iff] at this ⊢
        omega
      · obtain rfl : j = k + 1 := by omega
        rw [lt2_iff]
        omega
    · rw [if_neg e]
      rcases Nat.lt_or_ge j (k + 1) with h' | h'
      · exact ih j (by omega)
      · obtain rfl : j = k + 1 := by omega
        rw [← hb]
        exact e
/-- the line whose place is the last, of several the least -/
def Lst (ps : List (Int × Int)) (l : Int) : Prop := ∃ p, (l, p) ∈ ps ∧ ∀ q ∈ ps, q.2 < p ∨ (q.2 = p ∧ l ≤ q.1)
/-! ### the key of a line: (-near[line], line) -/
/-- a pair of whole numbers -/
def PairAt (h : Heap) (t : Addr) (a b : Int) : Prop := ∃ (o : Obj) (t1 t2 : Tok) (n : Nat), h.get? t = some o ∧ o.cls = .type "tuple" ∧ o.data = .seq #[.int a t1, .int b t2] n
theorem PairAt.reads {h : Heap} {t : Addr} {a b : Int} (p : PairAt h t a b) : Reads h (.ref t) (.tuple [.int a, .int b]) [] := by
  obtain ⟨o, t1, t2, n, h1, h2, h3⟩ := p
  exact .tuple h1 h2 h3 (.cons (.int a t1) (.cons (.int b t2) .nil))
theorem PairAt.keep {h h' : Heap} {t : Addr} {a b : Int} (p : PairAt h t a b) (k : ∀ o, h.get? t = some o → h'.get? t = some o) : PairAt h' t a b := by
  obtain ⟨o, t1, t2, n, h1, h2, h3⟩ := p
  exact ⟨o, t1, t2, n, k o h1, h2, h3⟩
abbrev noCX : CXT := fun _ _ _ _ _ _ => False
section
variable {X : Cx} {pins : List (Addr × Obj)} {σ : L2.St} {H : Hp} {s : Shared}
/-- the lambda is called: a new pair -/
theorem lam_turn {f c' d : Addr} {od : Obj} {pm ctv u : Value} {params : Arguments} {scope : Scope} {kvs : List (Key × V)} {l pl : Int} {i : Nat} {p1 p2 p3 p4 p5 p6 : Pos} {x1 : Nat} {Q : Value → Shared → Prop} {E : Value → Shared → Prop}
    (I : Inv X pins σ H s) (hr : Room 4 X.A) (S : NdefX.NScope ["line", "near"] ["line"] ["near"] scope) (hfree : ∀ y ∈ scope.names, y.2 = .free → X.env.scope.names.lookup y.1 = some .cell ∨ X.env.scope.names.lookup y.1 = some .free) (hfr : ∀ y ∈ (["near"] : List Str), (y, NameKind.free) ∈ scope.names)
    (hN : X.N[i]? = some ("near" : Str)) (hσ : σ[i]? = some (some (.ref d)))
    (hf : s.heap.get? f = some (PySem.W.kla_obj "<lambda>" (X.env.qual ++ "<lambda>") params (.Tuple [.UnaryOp .USub (.Subscript (.Name "near" p1) (.Name "line" p2) p3) p4, .Name "line" p5] x1 p6) scope (cloFrom X.env.cells scope.names []) pm c' ctv))
    (hc : H c' = some (CodeO c' (X.env.qual ++ "<lambda>")))
    (hbind : ∀ (q : Str) (body : Expr) (cl : List (Str × Addr)) (pm cv ctv u : Value), bindArgs (PySem.W.kla_fn "<lambda>" q params body scope cl pm cv ctv) ⟨[u], []⟩ = pure [(("line" : Str), u)])
    (hd : H d = some (.dK kvs)) (ho : s.heap.get? d = some od) (hl : valV kvs (.inl l) = some (.int pl)) (ru : RelV (.int l) u)
    (h : ∀ (t : Addr) (s' : Shared), Inv X pins σ H s' → s.heap.get? t = none → PairAt s'.heap t (-pl) l → (∀ b o, b ∉ frs X.stack → s.heap.get? b = some o → s'.heap.get? b = some o) → Q (.ref t) s') :
    wpAny (model X.prog X.w) X.A.in1 (call (.ref f) [u]) Q E s := by
  have ne : ∀ b, H b = none → b ≠ d := fun b e z => by rw [z, hd] at e; cases e
  let H0 : Hp := fun b => if b = d then some (.frz od (.dK kvs)) else none
  have h0d : H0 d = some (.frz od (.dK kvs)) := if_pos rfl
  have h0n : ∀ b, b ≠ d → H0 b = none := fun b e => if_neg e
  have E1 := I.env0
  have e0 : Env0 X.prog X.w X.K X.mg X.base X.A.in1 X.stack s H0 := by
    refine ⟨E1.in1.frames, E1.mod, fun b o e => ⟨(E1.bs b o e).1, h0n b (ne b (E1.bs b o e).2)⟩, E1.bsz, E1.funs, fun b hb => h0n b (ne b (E1.frf b hb)), fun b o e => ?_, E1.bare⟩
    by_cases z : b = d
    · rw [z, h0d] at e
      cases e
      rw [z]
      exact ⟨ho, I.hok d _ hd⟩
    · rw [h0n b z] at e
      cases e
  let F : NdefX.NF := ⟨"<lambda>", X.env.qual ++ "<lambda>", params, [], scope, cloFrom X.env.cells scope.names [], c'⟩
  have C0 := NdefX.cells_of (js := [i]) (fr := ["near"]) I (NdefX.Caps.made (scope := scope) I.ok hfree hfr (by rw [List.map_cons, hN]; rfl))
  have C : NdefX.CellsAt (cloFrom X.env.cells scope.names []) ["near"] [some (.ref d)] s.heap H0 := by
    rw [List.map_cons, NdefX.slotAt_of hσ] at C0
    exact ⟨C0.len, fun y c e => ⟨h0n c (ne c (C0.all y c e).1), (C0.all y c e).2⟩, C0.inj, C0.has⟩
  have rc : codeAny (model X.prog X.w) X.A.in1 (.call (.ref f) ⟨[u], []⟩) (CR noCX X.stack X.prog X.w H0 s (fun v H1 => ∃ t, v = .ref t ∧ H1 t = some (.tup [.int (-pl), .int l])) fun _ _ _ => False) s := by
    have hr1 : Room 3 X.A.in1 := hr.in1
    refine PySem.W.kla_callFunE hr1.depth hf rfl S.co S.gen rfl (NdefX.codeO_at I.hok hc) ?_
    rw [hbind]
    refine wpAny_pure (wpAny_newFunctionEnv S.nocell (fun ⟨n, _⟩ hy => S.par n (by cases hy with | head => exact List.mem_cons_self | tail _ z => cases z)) (fun h₁ hns hsb => ⟨I.nolimit.fresh _ hsb, ?_⟩) S.kind)
    show codeAny _ _ (.expr _ (NdefX.envF F f s.heap.objs.size)) _ _
    have kp : ∀ b o, s.heap.get? b = some o → h₁.get? b = some o := fun b o e => hsb.extBut b o (Nat.ne_of_lt (Heap.lt_size e)) (Heap.get?_push_of_some _ e)
    have J : Inv (NdefX.ncx noCX X.prog X.w X.K X.mg X.base ["line", "near"] F f X.A.in1 X.stack s H0 fun _ _ _ => False) [] (NdefX.startF ["line", "near"] [.int l] [some (.ref d)]) H0 { s with heap := h₁, toks := s.toks + 1 } :=
      NdefX.inv_startN (ps := ["line"]) (us := [u]) S hr1.hd e0 rfl (.cons ru .nil) C hns kp
    have hu : (NdefX.ncx noCX X.prog X.w X.K X.mg X.base ["line", "near"] F f X.A.in1 X.stack s H0 fun _ _ _ => False).A.units + 1 < cLine := by
      have := (hr1.deeper (NdefX.envF F f s.heap.objs.size)).units
      show (X.A.in1.deeper (NdefX.envF F f s.heap.objs.size)).units + 1 < cLine
      omega
    have vl : Vis (NdefX.ncx noCX X.prog X.w X.K X.mg X.base ["line", "near"] F f X.A.in1 X.stack s H0 fun _ _ _ => False).env.scope "line" := .inl (S.par "line" List.mem_cons_self)
    have vn : Vis (NdefX.ncx noCX X.prog X.w X.K X.mg X.base ["line", "near"] F f X.A.in1 X.stack s H0 fun _ _ _ => False).env.scope "near" := .inr (.inr (S.frk "near" List.mem_cons_self))
    have hp := pe_tup (x1 := x1) (pos := p6) (pa_cons (pe_un (pos := p4) un_neg (pe_dget (pos := p3) hu (pe_var (pos := p1) (i := 1) (x := "near") rfl vn) (pe_var (pos := p2) (i := 0) (x := "line") rfl vl) (fun _ _ => rfl))) (pa_cons (pe_var (pos := p5) (i := 0) (x := "line") rfl vl) pa_nil))
    refine PySem.W.kla_codeExpr (wpAny_mono (hp.run [] _ _ H0 (fun v H1 => ∃ t, v = .ref t ∧ H1 t = some (.tup [.int (-pl), .int l])) J ?_) (fun v s' hq => ?_) fun e s' hq => hq)
    · refine ⟨.ref d, rfl, .int l, rfl, d, .int pl, rfl, .inl ⟨_, _, .inr ⟨_, h0d⟩, rfl, hl.symm⟩, pl, rfl, .int l, rfl, (by show 2 ≤ sizeLine; decide), fun p np => ⟨p, rfl, upd_same⟩⟩
    · obtain ⟨w', H', J', rv, q⟩ := hq
      exact ⟨w', H', J'.os, J'.bare, J'.base, J'.hok, rv, q⟩
  refine wpAny_call (codeAny_mono rc fun r s' hq => ?_)
  cases r with
  | error e => exact (show False from hq).elim
  | ok fl =>
    cases fl with
    | next => exact False.elim hq
    | brk => exact False.elim hq
    | cont => exact False.elim hq
    | ret u =>
      obtain ⟨v, H2, os, bare, un, hok, rv, t, ev, ht⟩ := hq
      subst ev
      obtain rfl : u = Value.ref t := rv
      obtain ⟨_, its, rvs, ot, hot, ct, n, dt⟩ := hok t _ ht
      have dkeep : s'.heap.get? d = some od := (hok d _ (un.frzs d od _ h0d)).1
      have keep : ∀ b o, b ∉ frs X.stack → s.heap.get? b = some o → s'.heap.get? b = some o := fun b o nb e => by
        by_cases z : b = d
        · rw [z] at e ⊢
          rw [ho] at e
          rw [dkeep, e]
        · exact un.keep b o e (h0n b z) nb (by simp)
      have tn : s.heap.get? t = none := by
        cases eo : s.heap.get? t with
        | none => rfl
        | some oo =>
          by_cases zt : t = d
          · rw [zt, un.frzs d od _ h0d] at ht
            cases ht
          · have := un.free t oo eo (h0n t zt) (by simp)
            rw [this] at ht
            cases ht
      have I2 : Inv X pins σ H s' := by
        refine I.call' (ch := []) os ⟨fun b o e n nb _ => keep b o nb e, fun b o e n nb _ => un.slot b o e (h0n b (ne b n)) nb (by simp), fun _ _ _ n _ => n, fun b o e _ => un.there b o e (by simp), fun _ _ e => e, fun _ _ _ e => e, fun b ps e => ⟨#[], by rw [e]; simp⟩⟩ (fun b o e => ?_) bare (fun b z => absurd z (by simp))
        refine (I.hok b o e).stay (fun c v hc q => keep c v (fun z => ?_) q) (fun _ q => q) fun _ _ q => q
        have nn := I.stkFree c z
        rcases hc with z2 | z2
        · rw [z2, e] at nn
          cases nn
        · rw [z2] at nn
          cases nn
      refine h t s' I2 tn ?_ keep
      cases rvs with
      | cons r1 r2 => cases r2 with
        | cons r2 r3 => cases r3 with
          | nil =>
            obtain ⟨t1, rfl⟩ := r1
            obtain ⟨t2, rfl⟩ := r2
            exact ⟨ot, t1, t2, n, hot, ct, dt⟩
theorem kv_at : ∀ {ps : List (Int × Int)} {vs : List (Key × Value)} {m : Nat} {k : Key} {x : Value}, KV (dk V.int ps) vs → vs[m]? = some (k, x) → ∃ p, ps[m]? = some p ∧ k = .inl p.1
  | [], _, _, _, _, h, e => by
    have := Paired.length h
    cases h
    simp at e
  | p :: ps, _, 0, k, x, h, e => by
    cases h with
    | cons r t =>
      simp only [List.getElem?_cons_zero, Option.some.injEq] at e
      subst e
      exact ⟨p, rfl, r.1.symm⟩
  | p :: ps, _, m + 1, k, x, h, e => by
    cases h with
    | cons r t =>
      simp only [List.getElem?_cons_succ] at e ⊢
      exact kv_at t e
def keyAt (ps : List (Int × Int)) (i : Nat) : Int × Int := match ps[i]? with
  | some p => (-p.2, p.1)
  | none => (0, 0)
theorem keyAt_some {ps : List (Int × Int)} {i : Nat} {p : Int × Int} (h : ps[i]? = some p) : keyAt ps i = (-p.2, p.1) := by
  unfold keyAt
  rw [h]
theorem lst_best {ps : List (Int × Int)} {p : Int × Int} (h : ps[argBest (fun i j => lt2 (keyAt ps i) (keyAt ps j)) (ps.length - 1)]? = some p) : Lst ps p.1 := by
  refine ⟨p.2, List.mem_of_getElem? h, fun q hq => ?_⟩
  obtain ⟨j, hj⟩ := List.mem_iff_getElem?.mp hq
  have hlt : j < ps.length := (List.getElem?_eq_some_iff.mp hj).1
  have := argBest_min (bt := fun i j => lt2 (keyAt ps i) (keyAt ps j)) (key := keyAt ps) (fun _ _ => rfl) (ps.length - 1) j (by omega)
  rw [keyAt_some h, keyAt_some hj, lt2_iff] at this
  omega
theorem val_at {ps : List (Int × Int)} (nd : (ps.map (·.1)).Nodup) {p : Int × Int} (h : p ∈ ps) : valV (dk V.int ps) (.inl p.1) = some (.int p.2) := by
  rw [dk_val]
  have : lkP ps p.1 = some p.2 := by
    unfold lkP
    induction ps with
    | nil => cases h
    | cons q ps ih =>
      rw [List.map_cons, List.nodup_cons] at nd
      rcases List.mem_cons.mp h with e | e
      · rw [e, List.find?_cons_of_pos (by simp)]
        rfl
      · rw [List.find?_cons_of_neg (by
          simp only [decide_eq_true_eq]
          intro z
          exact nd.1 (z ▸ List.mem_map.mpr ⟨p, e, rfl⟩))]
        exact ih nd.2 e
  rw [this]
  rfl
/-- min(near, key=lambda line: (-near[line], line)) -/
def tMinKey (T : List (Addr × Str)) (i : Nat) : TE := fun σ H Q => ∃ d ps, σ[i]? = some (some (.ref d)) ∧ H d = some (.dK (dk V.int ps)) ∧ ps ≠ [] ∧ (ps.map (·.1)).Nodup ∧ Tabs T H ∧ ∀ (H1 : Hp) (l : Int), ExtN H H1 → Tabs T H1 → Lst ps l → Q (.int l) H1
theorem pe_minkey {T : List (Addr × Str)} {c P : Addr} {params : Arguments} {scope : Scope} {i : Nat} {p1 p2 p3 p4 p5 p6 p7 p8 p9 p10 pos : Pos} {x1 : Nat} (hr : Room 4 X.A) (S : NdefX.NScope ["line", "near"] ["line"] ["near"] scope)
    (hfree : ∀ y ∈ scope.names, y.2 = .free → X.env.scope.names.lookup y.1 = some .cell ∨ X.env.scope.names.lookup y.1 = some .free) (hfr : ∀ y ∈ (["near"] : List Str), (y, NameKind.free) ∈ scope.names)
    (hN : X.N[i]? = some ("near" : Str)) (hv : Vis X.env.scope "near") (hg : Gl X "min") (hm : X.mg "min" = none) (TB : TabB X.base X.mg c P) (hcode : X.env.code = .ref c) (hmT : (P, X.env.qual ++ "<lambda>") ∈ T) (hu : ∀ p ∈ T, p.1 = P → p.2 = X.env.qual ++ "<lambda>")
    (hdef : defaultsOf params X.env = ([], [])) (hbind : ∀ (q : Str) (body : Expr) (cl : List (Str × Addr)) (pm cv ctv u : Value), bindArgs (PySem.W.kla_fn "<lambda>" q params body scope cl pm cv ctv) ⟨[u], []⟩ = pure [(("line" : Str), u)]) :
    PE X (.Call (.Name "min" p7) [.Name "near" p8] [⟨some "key", .Lambda params (.Tuple [.UnaryOp .USub (.Subscript (.Name "near" p1) (.Name "line" p2) p3) p4, .Name "line" p5] x1 p6) scope p9, p10⟩] pos) (tMinKey T i) := by
  refine ⟨fun pins s σ H Q I h => ?_⟩
  obtain ⟨d, ps, hσ, hd, hne, hnd, hT, h⟩ := h
  have hfree' : ∀ y ∈ scope.names, y.2 = .free → ∃ c, X.env.cells.lookup y.1 = some c := fun y hy e => (hfree y hy e).elim (fun z => I.ok.has _ (.inl z)) fun z => I.ok.has _ (.inr z)
  refine wpAny_Call_Name_kw (ld_blt I hg hm rfl ?_)
  refine PyProof.Rows.callWith_kw ?_
  refine thn ((pa_cons (pe_var (pos := p8) (i := i) hN hv) pa_nil).run pos pins s σ H (fun xs H1 => xs = [.ref d] ∧ H1 = H) I ⟨.ref d, hσ, rfl, rfl⟩) fun us s1 ⟨xs, H1, I1, r, e1, e2⟩ => ?_
  subst e1
  rw [e2] at I1
  obtain ⟨u, eu, r0⟩ : ∃ u, us = [u] ∧ RelV (.ref d) u := by
    cases r with
    | cons r0 r1 =>
      cases r1
      exact ⟨_, rfl, r0⟩
  obtain rfl : u = Value.ref d := r0
  subst eu
  refine PyProof.Rows.kws_cons (lam_make2 I1 TB hcode hmT hu hT hdef hfree' fun f c' pm ctv H1 s2 I2 eN T1 hf hfn hfs hco => ?_)
  refine PyProof.Rows.kws_nil ?_
  show wpAny _ _ (call (.builtin "min") [.ref d] [(Str.ofString "key", .ref f)]) _ _ _
  have hd1 : H1 d = some (.dK (dk V.int ps)) := eN d _ hd (fun ps z => by cases z)
  obtain ⟨_, lo, vs, kv, dof⟩ := I2.hok d _ hd1
  obtain ⟨ep, hat⟩ := dof.dictAt
  obtain ⟨od, hod⟩ : ∃ od, s2.heap.get? d = some od := let ⟨o, _, ho, _⟩ := hat; ⟨o, ho⟩
  have dlt := Heap.lt_size hod
  have flt := Heap.lt_size hf
  have nfr : ∀ b, s2.heap.objs.size ≤ b → b ∉ frs X.stack := fun b hb z => by
    rcases List.mem_cons.mp (I2.stkSub _ z) with e | e
    · have h1 := I2.lt
      rw [← e] at h1
      exact Nat.lt_irrefl _ (Nat.lt_of_lt_of_le h1 hb)
    · exact I2.nofs hb e
  have dfr : d ∉ frs X.stack := fun z => by
    have := I2.stkFree d z
    rw [hd1] at this
    cases this
  have lenv : ps.length = vs.length := by rw [← dk_len V.int ps]; exact Paired.length kv
  have fI := I2.fpOk (Nat.le_refl _) (I2.hok.fresh (Nat.le_refl _))
  have fS := I2.fpOk (b := s2.heap.objs.size + 1) (Nat.le_succ _) (I2.hok.fresh (Nat.le_succ _))
  refine call_min_walkK (wpAny_pyIter_dict (knd := mixKind X.prog X.w) lo hat ?_)
  have sz : (s2.heap.push { cls := .type "dict_keyiterator", data := .fields #[.ref d, .int 0 0, .int vs.length 0, .int ep 0] }).objs.size = s2.heap.objs.size + 1 := Heap.size_push ..
  refine ⟨s2.heap.objs.size, _, _, _, vs.length, _, _, (fun s => Inv X pins σ H1 s ∧ s.heap.get? d = some od ∧ s.heap.get? f = s2.heap.get? f),
    (fun i k s => ∃ t p, ps[i]? = some p ∧ k = .ref t ∧ t ≠ s2.heap.objs.size + 1 ∧ t ≠ s2.heap.objs.size ∧ t ∉ frs X.stack ∧ PairAt s.heap t (-p.2) p.1), (fun i j => lt2 (keyAt ps i) (keyAt ps j)), rfl, (Walks.dictKeys (knd := mixKind X.prog X.w) (A := X.A.in1) hr.hd s2.heap.objs.size d (Nat.ne_of_lt dlt) vs ep).toS,
    ⟨⟨_, Heap.get?_push_size _ rfl, rfl, rfl⟩, hat.keep fun b o e => Heap.get?_push_of_some _ e⟩, fun b hb => ?_, ?_, ?_, ⟨I2.kept (t' := s2.toks) fun b o e => Heap.get?_push_of_some _ e, Heap.get?_push_of_some _ hod, by show _ = _; rw [hf]; exact Heap.get?_push_of_some _ hf⟩, fun v s' hP hJ => ?_⟩
  · rw [sz]
    rcases List.mem_cons.mp hb with e | hb
    · rw [e]
      exact Nat.lt_succ_self _
    · rw [List.mem_singleton.mp hb]
      exact Nat.lt_succ_of_lt dlt
  · rw [← lenv]
    exact List.length_pos_iff.mpr hne
  · rw [sz]
    have ff : ∃ fo, s2.heap.get? f = some fo := ⟨_, hf⟩
    refine ⟨fun s s' hJ hm => ?_, fun i k s s' hV hm => ?_, fun i v s o Q E hi hP hJ hst hS hQ => ?_, fun i j ki kj s Q E hJ h1 h2 hQ => ?_⟩
    · obtain ⟨J1, J2, J3⟩ := hJ
      have nch : ∀ b, b < s2.heap.objs.size → b ∉ [s2.heap.objs.size + 1, s2.heap.objs.size] := fun b hb z => by
        rcases List.mem_cons.mp z with e | z
        · rw [e] at hb
          exact absurd hb (by omega)
        · rw [List.mem_singleton.mp z] at hb
          exact absurd hb (Nat.lt_irrefl _)
      refine ⟨?_, hm.heap d _ (nch d dlt) J2, ?_⟩
      · obtain ⟨hh, g, dr, tk, os⟩ := s'
        have e1 : g = s.gens := hm.gens
        have e2 : dr = s.drawn := hm.drawn
        have e3 : os = s.os := hm.os
        subst e1 e2 e3
        exact J1.turnedL (ch := [s2.heap.objs.size + 1, s2.heap.objs.size]) (fun b o hb e => hm.heap b o hb e) fun b hb => by
          rcases List.mem_cons.mp hb with e | hb
          · rw [e]
            exact fS
          · rw [List.mem_singleton.mp hb]
            exact fI
      · obtain ⟨fo, hfo⟩ := ff
        rw [hfo] at J3 ⊢
        exact hm.heap f _ (nch f flt) J3
    · obtain ⟨t, p, h1, h2, h3, h4, h5, h6⟩ := hV
      exact ⟨t, p, h1, h2, h3, h4, h5, h6.keep fun o e => hm.heap t o (fun z => (List.mem_cons.mp z).elim h3 fun z => h4 (List.mem_singleton.mp z)) e⟩
    · obtain ⟨J1, J2, J3⟩ := hJ
      obtain ⟨k, x, hvs, hk⟩ := hP
      obtain ⟨p, hp, ek⟩ := kv_at kv hvs
      subst ek
      have hf1 := J3.trans hf
      refine lam_turn J1 hr S hfree hfr hN hσ hf1 hco hbind hd1 J2 (val_at hnd (List.mem_of_getElem? hp)) ((relV_key (k := .inl p.1) (show keyIs (.inl p.1) v = true from hk))) fun t s' I3 ht pt kp => ?_
      have nlt : ∀ b o, s.heap.get? b = some o → t ≠ b := fun b o e z => by rw [z, e] at ht; cases ht
      have nI : s2.heap.objs.size ∉ frs X.stack := nfr _ (Nat.le_refl _)
      obtain ⟨⟨oi, gi, ci⟩, hdat⟩ := hst
      refine hQ (.ref t) s' ⟨I3, kp d _ dfr J2, ?_⟩ ⟨⟨oi, kp _ _ nI gi, ci⟩, hdat.at' fun o e => kp d o dfr e⟩ (kp _ _ (nfr _ (Nat.le_succ _)) hS) ⟨t, p, hp, rfl, nlt _ _ hS, nlt _ _ gi, fun z => ?_, pt⟩ fun j k' hV => ?_
      · rw [hf]
        exact kp f _ hfs hf1
      · obtain ⟨_, oz, hz, _⟩ := J1.stack.mem z
        exact nlt _ _ hz rfl
      · obtain ⟨t', p', h1, h2, h3, h4, h5, h6⟩ := hV
        exact ⟨t', p', h1, h2, h3, h4, h5, h6.keep fun o e => kp t' o h5 e⟩
    · obtain ⟨t, p, hp, e1, _, _, _, q1⟩ := h1
      obtain ⟨t', p', hp', e1', _, _, _, q1'⟩ := h2
      subst e1 e1'
      have rr := PySem.W.rcLt_alike (.tuple [.int (-p.2), .int p.1]) (.tuple [.int (-p'.2), .int p'.1]) X.A.in1 s (.ref t) (.ref t') [] [] q1.reads q1'.reads rfl (by simp) (by
        have := (hr.in1 (k := 3)).units
        have hd : (PyData.tuple [.int (-p.2), .int p.1]).depth ≤ 10 := by simp [PyData.depth, PyData.depthAll]
        omega)
      refine rr _ _ _ _ ?_
      rw [dl2]
      simp only [keyAt_some hp, keyAt_some hp'] at hQ
      exact hQ
  · obtain ⟨J1, _, _⟩ := hJ
    obtain ⟨k, x, hvs, hk⟩ := hP
    obtain ⟨p, hp, ek⟩ := kv_at kv hvs
    subst ek
    rw [← lenv] at hp
    exact ⟨.int p.1, H1, J1, (relV_key (k := .inl p.1) (show keyIs (.inl p.1) v = true from hk)), h H1 p.1 eN T1 (lst_best hp)⟩
end
/-! ### a def whose code object is known, and its table -/
def DefC (K : PySem.W.Frag) (x : Str) (st : Stmt) (c : Addr) : Prop :=
  ∃ (f : Addr) (oc : Value) (od an : Option Addr) (osl : Array (Option Value)) (kV doc pm ct : Value),
    PySem.W.nsIn K mainGlobals x = some (some (.ref f)) ∧
    K.lookup f = some ⟨oc, od, .func (PySem.W.fnOf x x (defArgs st) (defBody st) (defScope st) .none kV doc pm an (.ref c) ct), osl⟩ ∧
    PySem.W.codeIn K (.ref c) x = true ∧ PySem.W.keepIn K (.ref f) = true
theorem defC_mk {K : PySem.W.Frag} {x : Str} {st : Stmt} {f c : Addr} {oc : Value} {od an : Option Addr} {osl : Array (Option Value)} {kV doc pm ct : Value} (a : PySem.W.nsIn K mainGlobals x = some (some (.ref f)))
    (l : K.lookup f = some ⟨oc, od, .func (PySem.W.fnOf x x (defArgs st) (defBody st) (defScope st) .none kV doc pm an (.ref c) ct), osl⟩) (e : PySem.W.codeIn K (.ref c) x = true) (k : PySem.W.keepIn K (.ref f) = true) : DefC K x st c :=
  ⟨f, oc, od, an, osl, kV, doc, pm, ct, a, l, e, k⟩
/-- the table of that code object -/
def TabAt (K : PySem.W.Frag) (c P : Addr) : Prop := ∃ (e : Value) (dd : Option Addr) (vs : Array Value) (sl : Array (Option Value)), K.lookup c = some ⟨e, dd, .fields vs, sl⟩ ∧ vs[11]? = some (.ref P) ∧ K.lookup P = none
theorem tabAt_mk {K : PySem.W.Frag} {c P : Addr} {e : Value} {dd : Option Addr} {vs : Array Value} {sl : Array (Option Value)} (a : K.lookup c = some ⟨e, dd, .fields vs, sl⟩) (b : vs[11]? = some (.ref P)) (n : K.lookup P = none) : TabAt K c P := ⟨e, dd, vs, sl, a, b, n⟩
theorem tabIn_of {K : PySem.W.Frag} {x : Str} {st : Stmt} {c P : Addr} (D : DefC K x st c) (t : TabAt K c P) : PySem.W.tabIn K x = some (c, P) := by
  obtain ⟨f, oc, od, an, osl, kV, doc, pm, ct, a, l, _, _⟩ := D
  obtain ⟨e, dd, vs, sl, b1, b2, _⟩ := t
  unfold PySem.W.tabIn
  rw [a]
  simp only [l, b1, b2]
theorem cal_ofC {P : Program} {w : World} {K : PySem.W.Frag} {mg : Str → Option Value} {base : Heap} {x : Str} {st : Stmt} {N ps : List Str} {k : Nat} {sp : Sp} {c : Addr} (T : Top K mg) (D : DefC K x st c) (S : FnScope N ps (defScope st)) (b : BindOk x st ps) (len : ∀ vs H Q E, sp vs H Q E → vs.length = ps.length)
    (hbody : ∀ (f : Addr) (A : Around) (outer : List Env) (s : Shared) (H : Hp) (vs : List V) (Q : VK) (E : XK), Room k (A.deeper (envOfC x (defScope st) s.heap.objs.size f (.ref c))) → sp vs H Q E →
      ∃ t, PSs (cxOf CX0 P w K mg base N x (defScope st) f (.ref c) A outer s H E).nox (defBody st) t ∧ t { nx := fun _ H' => Q .non H', rt := Q } (start N vs) H) : Cal P w K mg base CX0 (k + 1) x sp := by
  obtain ⟨f, oc, od, an, osl, kV, doc, pm, ct, a, l, e, kp⟩ := D
  have F := fun_mk (st := st) l e kp
  exact ⟨f, _, ps, fn_of l e S len fun A outer s H vs Q E hr hsp => by
    obtain ⟨t, h, q⟩ := hbody f A outer s H vs Q E hr hsp
    exact ⟨t, h.nox, q⟩, T.of a, kp, F.binds b⟩
/-! ### the law where a def's table may grow -/
def spLawT (K : PySem.W.Frag) (P : Addr) : Sp := fun vs H Q _ => ∃ (a : Addr) (ns : List Int), vs = [.ref a] ∧ SqL K H a (ns.map V.int) ∧ ns.length ≤ 63 ∧ H P = some (.tbl #[]) ∧ ∀ H', Q (.bl true) H'
abbrev LawOkT (Pr : Program) (w : World) (K : PySem.W.Frag) (mg : Str → Option Value) (c P : Addr) (k : Nat) : Prop :=
  ∃ (f : Addr) (fd : FuncData), mg "law" = some (.ref f) ∧ (∀ (s : Shared) (v : Value), BindsTo s fd ⟨[v], []⟩ [("_law_script", v)]) ∧ ∀ base : Heap, TabB base mg c P → FnOk Pr w K mg base CX0 k f fd ["_law_script"] (spLawT K P)
theorem law_ofT {Pr : Program} {w : World} {K : PySem.W.Frag} {mg : Str → Option Value} {st : Stmt} {N : List Str} {c P : Addr} {k : Nat} (T : Top K mg) (D : DefAt K "law" st) (S : FnScope N ["_law_script"] (defScope st))
    (b : ∀ (kV doc pm : Value) (an : Option Addr) (cdv ct v : Value), bindArgs (PySem.W.fnOf "law" "law" (defArgs st) (defBody st) (defScope st) .none kV doc pm an cdv ct) ⟨[v], []⟩ = pure [(("_law_script" : Str), v)])
    (hbody : ∀ (base : Heap), TabB base mg c P → ∀ (f : Addr) (cdv : Value) (A : Around) (outer : List Env) (s : Shared) (H : Hp) (a : Addr) (ns : List Int) (Q : VK) (E : XK), Room k (A.deeper (envOfC "law" (defScope st) s.heap.objs.size f cdv)) → SqL K H a (ns.map V.int) → ns.length ≤ 63 → H P = some (.tbl #[]) → (∀ H', Q (.bl true) H') →
      ∃ t, PSs (cxOf CX0 Pr w K mg base N "law" (defScope st) f cdv A outer s H E).nox (defBody st) t ∧ t { nx := fun _ H' => Q .non H', rt := Q } (start N [.ref a]) H) : LawOkT Pr w K mg c P (k + 1) := by
  obtain ⟨f, oc, od, an, osl, kV, doc, pm, cdv, ct, a, l, e, kp⟩ := D
  have F := fun_mk (st := st) l e kp
  refine ⟨f, _, T.of a, fun s v => .of_eq (b kV doc pm an cdv ct v), fun base tb => F.ok S (fun vs H Q E h => ?_) fun cdv A outer s H vs Q E hr h => ?_⟩
  · obtain ⟨_, _, rfl, _⟩ := h
    rfl
  · obtain ⟨a, ns, rfl, h1, h2, h3, h4⟩ := h
    exact hbody base tb f cdv A outer s H a ns Q E hr h1 h2 h3 h4
theorem walk_endT {l : PySem.W.OpenLaw} {q : Program} {loose : List Str} {XP : (Str → Option Value) → Heap → Prop} {YP : World → Heap → Prop} {d : DefRec} {K : Params → PySem.W.Frag} (k : Nat) (x : Str) (hn : l.most = some 63) (hdf : d.params.defaults = []) (hr : Room k callerA) (hd : d.name = "law")
    (hrec : ((recsOf q).any fun e => e.name == x) = true) (hY : ∀ (w : World) (h : Heap), YP w h → (K w.params).In h)
    (F : ∀ (w : World) (mg : Str → Option Value), Top (K w.params) mg → ∃ c P, PySem.W.tabIn (K w.params) x = some (c, P) ∧ (K w.params).lookup P = none ∧ LawOkT l.prog w (K w.params) mg c P k) :
    PySem.W.WalkO q loose XP YP l.row.toRowW d [] (fun f vs => PySem.call f vs) := by
  refine Att.attach_callB hn hdf fun w s₀ s₁ mg mb fa o pm cd doc a vs ns G Y ho hd2 hcd hmg hobj hints hlen hbits hg => ?_
  have KX := hY w _ Y
  obtain ⟨c, P, ht, nP, f, fd, e, b, ok⟩ := F w mg ⟨_, KX, G.T.g⟩
  rw [hd, e] at hmg
  cases hmg
  obtain ⟨d', hf⟩ : ∃ d', (recsOf q).find? (fun e => e.name == x) = some d' := by
    cases hf : (recsOf q).find? (fun e => e.name == x) with
    | some d' => exact ⟨d', rfl⟩
    | none =>
      rw [List.find?_eq_none] at hf
      obtain ⟨d', hm, hb⟩ := List.any_eq_true.mp hrec
      exact absurd hb (hf d' hm)
  obtain ⟨tc, tp⟩ := PySem.W.tab_of G.T KX hf ht
  refine law_callTs (cs := [(c, P)]) (CX := CX0) (k := k) KX G.T.g G.T.b G.T.builtins G.T.nolimit hg (fun p hp => ?_) (fun p hp => ?_) (fun p hp => ?_) G.T.bmain hobj hints (Nat.le_trans hlen (by decide)) hr (fun base _ _ TB => ok base (TB (c, P) List.mem_cons_self)) b (fun H hH hS => ⟨a, ns, rfl, hS, hlen, hH (c, P) List.mem_cons_self, fun _ => rfl⟩) fun _ _ _ z => z
  · rw [List.mem_singleton.mp hp]
    exact tp
  · rw [List.mem_singleton.mp hp]
    exact nP
  · rw [List.mem_singleton.mp hp]
    exact tc
/-! ### heaps in which only tables may grow -/
theorem extN_seq {K : PySem.W.Frag} {H H' : Hp} {a : Addr} {xs : List V} (e : ExtN H H') (h : SqL K H a xs) : SqL K H' a xs := by
  rcases h with (h | ⟨o, h⟩) | h
  · exact .inl (.inl (e _ _ h (fun ps z => by cases z)))
  · exact .inl (.inr ⟨o, e _ _ h (fun ps z => by cases z)⟩)
  · exact .inr h
theorem extN_sqt {K : PySem.W.Frag} {H H' : Hp} {a : Addr} {xs : List V} (e : ExtN H H') (h : SqT K H a xs) : SqT K H' a xs := by
  rcases h with (h | ⟨o, h⟩) | h
  · exact .inl (.inl (e _ _ h (fun ps z => by cases z)))
  · exact .inl (.inr ⟨o, e _ _ h (fun ps z => by cases z)⟩)
  · exact .inr h
theorem extN_of {H H' : Hp} (s : Same H H') : ExtN H H' := .of s
theorem extN_mut {H0 H : Hp} {p : Addr} {o : HO} (s : ExtN H0 H) (h : H0 p = none) : ExtN H0 (upd H p o) := fun a u e n => by
  rw [upd_ne (ne_of_none e h)]
  exact s a u e n
theorem tabs_upd {T : List (Addr × Str)} {H : Hp} {p : Addr} {o : HO} (t : Tabs T H) (h : ∀ ps, H p ≠ some (.tbl ps)) (hc : ∀ c q, H p ≠ some (CodeO c q)) : Tabs T (upd H p o) := fun q hq => by
  obtain ⟨ps, h1, h2, h3⟩ := t q hq
  have ne : q.1 ≠ p := fun z => by
    rw [z] at h1
    exact h ps h1
  refine ⟨ps, by rw [upd_ne ne]; exact h1, h2, fun pos cv e => ?_⟩
  obtain ⟨c, e1, e2⟩ := h3 pos cv e
  exact ⟨c, e1, by rw [upd_ne (fun z => hc _ _ (z ▸ e2))]; exact e2⟩
theorem tabs_lst {T : List (Addr × Str)} {H : Hp} {p : Addr} {xs : List V} {o : HO} (t : Tabs T H) (h : H p = some (.lst xs)) : Tabs T (upd H p o) :=
  tabs_upd t (fun ps z => by rw [h] at z; cases z) fun c q z => by
    rw [h] at z
    unfold CodeO at z
    cases z
theorem tabs_dk {T : List (Addr × Str)} {H : Hp} {p : Addr} {xs : List (Key × V)} {o : HO} (t : Tabs T H) (h : H p = some (.dK xs)) : Tabs T (upd H p o) :=
  tabs_upd t (fun ps z => by rw [h] at z; cases z) fun c q z => by
    rw [h] at z
    unfold CodeO at z
    cases z
theorem extN_lst {H H' : Hp} {p : Addr} {xs : List V} (e : ExtN H H') (h : H p = some (.lst xs)) : H' p = some (.lst xs) := e _ _ h (fun ps z => by cases z)
theorem extN_dk {H H' : Hp} {p : Addr} {xs : List (Key × V)} (e : ExtN H H') (h : H p = some (.dK xs)) : H' p = some (.dK xs) := e _ _ h (fun ps z => by cases z)
end Nl

set_option Elab.async false
set_option linter.all false
set_option maxRecDepth 100000
set_option maxHeartbeats 4000000
namespace Nl
open PySem PySem.Spec PyProof.Rows L2
/-! ### the best plan, with what goes at each touch -/
def rmv (S : List Int) (w : Int) : List Int := S.filter fun z => z != w
inductive BelG (room : Nat) : List Int → List Int → List (Option Int) → Nat → Prop
  | nil {S : List Int} : BelG room S [] [] 0
  | hit {S r : List Int} {gs : List (Option Int)} {x : Int} {n : Nat} : x ∈ S → BelG room S r gs n → BelG room S (x :: r) (none :: gs) n
  | add {S r : List Int} {gs : List (Option Int)} {x : Int} {n : Nat} : x ∉ S → S.length < room → BelG room (S ++ [x]) r gs n → BelG room S (x :: r) (none :: gs) (n + 1)
  | evict {S r : List Int} {gs : List (Option Int)} {x w : Int} {n : Nat} : x ∉ S → S.length = room → IsVic S r w → BelG room (rmv S w ++ [x]) r gs n → BelG room S (x :: r) (some w :: gs) (n + 1)
theorem nd_snoc {x : Int} {S : List Int} (h : x ∉ S) (hS : S.Nodup) : (S ++ [x]).Nodup := (perm_snoc x S).nodup_iff.mp (nd_cons h hS)
theorem rmv_nd {S : List Int} {w : Int} (h : S.Nodup) : (rmv S w).Nodup := h.sublist List.filter_sublist
theorem rmv_mem {S : List Int} {w x : Int} : x ∈ rmv S w ↔ x ∈ S ∧ x ≠ w := by
  unfold rmv
  rw [List.mem_filter]
  simp
theorem rmv_erase {S : List Int} {w : Int} (h : S.Nodup) : rmv S w = S.erase w := (h.erase_eq_filter w).symm
theorem rmv_len {S : List Int} {w : Int} (h : S.Nodup) (hw : w ∈ S) : (rmv S w).length + 1 = S.length := by
  rw [rmv_erase h]
  have := (List.perm_cons_erase hw).length_eq
  simp only [List.length_cons] at this
  omega
theorem BelG.bel {room : Nat} {S r : List Int} {gs : List (Option Int)} {n : Nat} (b : BelG room S r gs n) : S.Nodup → Bel room S r n := by
  induction b with
  | nil => exact fun _ => .nil
  | hit hx _ ih => exact fun h => .hit hx (ih h)
  | add hx hl _ ih => exact fun h => .add hx hl (ih (nd_snoc hx h))
  | evict hx hl hv _ ih => exact fun h => .evict hx hl hv (by rw [← rmv_erase h]; exact ih (nd_snoc (fun z => hx (rmv_mem.mp z).1) (rmv_nd h)))
theorem BelG.len {room : Nat} {S r : List Int} {gs : List (Option Int)} {n : Nat} (b : BelG room S r gs n) : gs.length = r.length := by
  induction b with
  | nil => rfl
  | hit _ _ ih => rw [List.length_cons, List.length_cons, ih]
  | add _ _ _ ih => rw [List.length_cons, List.length_cons, ih]
  | evict _ _ _ _ ih => rw [List.length_cons, List.length_cons, ih]
theorem BelG.bound {room : Nat} {S r : List Int} {gs : List (Option Int)} {n : Nat} (b : BelG room S r gs n) : n ≤ r.length := by
  induction b with
  | nil => exact Nat.le_refl _
  | hit _ _ ih => rw [List.length_cons]; omega
  | add _ _ _ ih => rw [List.length_cons]; omega
  | evict _ _ _ _ ih => rw [List.length_cons]; omega
/-- the step, told by what is near -/
theorem BelG.step {room : Nat} {S r : List Int} {x : Int} {gs : List (Option Int)} {n : Nat} (b : BelG room S (x :: r) gs n) : ∃ g gs', gs = g :: gs' ∧
    ((x ∈ S ∧ g = none ∧ BelG room S r gs' n) ∨ (x ∉ S ∧ S.length < room ∧ g = none ∧ ∃ m, n = m + 1 ∧ BelG room (S ++ [x]) r gs' m) ∨ (x ∉ S ∧ S.length = room ∧ ∃ w m, g = some w ∧ IsVic S r w ∧ n = m + 1 ∧ BelG room (rmv S w ++ [x]) r gs' m)) := by
  cases b with
  | hit h b => exact ⟨_, _, rfl, .inl ⟨h, rfl, b⟩⟩
  | add h hl b => exact ⟨_, _, rfl, .inr (.inl ⟨h, hl, rfl, _, rfl, b⟩)⟩
  | evict h hl hv b => exact ⟨_, _, rfl, .inr (.inr ⟨h, hl, _, _, rfl, hv, rfl, b⟩)⟩
/-! ### places -/
theorem idx_ne {x y : Int} {r : List Int} (h : x ≠ y) : (x :: r).idxOf y = r.idxOf y + 1 := by
  rw [List.idxOf_cons, show (x == y) = false by simpa using h]
  rfl
theorem idx_eq {x : Int} {r : List Int} : (x :: r).idxOf x = 0 := by simp
theorem drop_at {ls : List Int} {i : Nat} {x : Int} (h : ls[i]? = some x) : ls.drop i = x :: ls.drop (i + 1) := by
  obtain ⟨hi, e⟩ := List.getElem?_eq_some_iff.mp h
  rw [List.drop_eq_getElem_cons hi, e]
/-- where the line l is touched next, from i on -/
def nxt (ls : List Int) (i : Nat) (l : Int) : Int := ((i + (ls.drop i).idxOf l : Nat) : Int)
theorem nxt_ne {ls : List Int} {i : Nat} {x l : Int} (h : ls[i]? = some x) (n : x ≠ l) : nxt ls i l = nxt ls (i + 1) l := by
  unfold nxt
  rw [drop_at h, idx_ne n]
  omega
/-- the last of a dict of places is the one that goes -/
theorem vic_of {ps : List (Int × Int)} {ls : List Int} {i : Nat} {z : Int} (hp : ∀ p ∈ ps, p.2 = nxt ls i p.1) (h : Lst ps z) : IsVic (ps.map (·.1)) (ls.drop i) z := by
  obtain ⟨p, hm, hq⟩ := h
  refine ⟨List.mem_map.mpr ⟨_, hm, rfl⟩, fun y hy => ?_⟩
  obtain ⟨q, hqm, rfl⟩ := List.mem_map.mp hy
  have h1 := hq q hqm
  have h2 := hp q hqm
  have h3 := hp _ hm
  unfold nxt at h2 h3
  simp only at h3
  rw [h2, h3] at h1
  omega
/-! ### near as a dict of places -/
theorem keys_drop (ps : List (Int × Int)) (w : Int) : (dropP ps w).map (·.1) = rmv (ps.map (·.1)) w := by
  unfold dropP rmv
  rw [List.filter_map]
  rfl
theorem keys_put (ps : List (Int × Int)) (l v : Int) : (putP ps l v).map (·.1) = if l ∈ ps.map (·.1) then ps.map (·.1) else ps.map (·.1) ++ [l] := by
  unfold putP
  by_cases h : l ∈ ps.map (·.1)
  · rw [if_pos h, if_pos h, List.map_map]
    refine List.map_congr_left fun p _ => ?_
    show (if p.1 = l then (p.1, v) else p).1 = p.1
    split <;> rfl
  · rw [if_neg h, if_neg h, List.map_append]
    rfl
theorem mem_put {ps : List (Int × Int)} {l v : Int} {p : Int × Int} (h : p ∈ putP ps l v) : p = (l, v) ∨ (p ∈ ps ∧ p.1 ≠ l) := by
  unfold putP at h
  by_cases hl : l ∈ ps.map (·.1)
  · rw [if_pos hl] at h
    obtain ⟨q, hq, e⟩ := List.mem_map.mp h
    by_cases hk : q.1 = l
    · rw [if_pos hk, hk] at e
      exact .inl e.symm
    · rw [if_neg hk] at e
      subst e
      exact .inr ⟨hq, hk⟩
  · rw [if_neg hl] at h
    rcases List.mem_append.mp h with h | h
    · exact .inr ⟨h, fun z => hl (List.mem_map.mpr ⟨p, h, z⟩)⟩
    · exact .inl (List.mem_singleton.mp h)
theorem put_next {ps : List (Int × Int)} {ls : List Int} {i : Nat} {x : Int} (hx : ls[i]? = some x) (hp : ∀ p ∈ ps, p.2 = nxt ls i p.1) : ∀ p ∈ putP ps x (nxt ls (i + 1) x), p.2 = nxt ls (i + 1) p.1 := by
  intro p h
  rcases mem_put h with e | ⟨h, n⟩
  · rw [e]
  · rw [hp p h]
    exact nxt_ne hx (fun z => n z.symm)
theorem mem_drop {ps : List (Int × Int)} {w : Int} {p : Int × Int} (h : p ∈ dropP ps w) : p ∈ ps := (List.mem_filter.mp h).1
/-! ### what goes, found by striking out what comes -/
structure Lft (S r L : List Int) (i : Nat) : Prop where
  ne : L ≠ []
  sub : ∀ z ∈ L, z ∈ S
  nd : L.Nodup
  out : ∀ y ∈ S, y ∉ L → r.idxOf y < i ∧ ∀ z ∈ L, r.idxOf y < r.idxOf z
  far : 1 < L.length → ∀ z ∈ L, i ≤ r.idxOf z
theorem Lft.start {S r : List Int} (h : S ≠ []) (nd : S.Nodup) : Lft S r S 0 := ⟨h, fun _ z => z, nd, fun y h n => absurd h n, fun _ _ _ => Nat.zero_le _⟩
theorem idx_le : ∀ {r : List Int} {i : Nat} {x : Int}, r[i]? = some x → r.idxOf x ≤ i
  | [], _, _, h => by simp at h
  | y :: r, 0, x, h => by
    simp only [List.getElem?_cons_zero, Option.some.injEq] at h
    subst h
    rw [idx_eq]
    exact Nat.le_refl _
  | y :: r, i + 1, x, h => by
    by_cases e : y = x
    · subst e
      rw [idx_eq]
      exact Nat.zero_le _
    · rw [idx_ne e]
      have := idx_le (r := r) (i := i) (by simpa using h)
      omega
theorem idx_at {r : List Int} {i : Nat} {x z : Int} (h : r[i]? = some x) (e : r.idxOf z = i) : x = z := by
  obtain ⟨hi, e2⟩ := List.getElem?_eq_some_iff.mp h
  subst e
  rw [← e2]
  exact List.getElem_idxOf hi
theorem Lft.strike {S r L : List Int} {i : Nat} {x : Int} (h : Lft S r L i) (hx : r[i]? = some x) (h1 : 1 < L.length) (hm : x ∈ L) : Lft S r (rmv L x) (i + 1) := by
  have ex : r.idxOf x = i := Nat.le_antisymm (idx_le hx) (h.far h1 x hm)
  have up : ∀ z ∈ rmv L x, i < r.idxOf z := fun z hz => by
    obtain ⟨hz, ne⟩ := rmv_mem.mp hz
    have := h.far h1 z hz
    rcases Nat.lt_or_ge i (r.idxOf z) with q | q
    · exact q
    · exact absurd (idx_at hx (by omega)).symm ne
  have hl := rmv_len h.nd hm
  refine ⟨fun z => ?_, fun z hz => h.sub z (rmv_mem.mp hz).1, rmv_nd h.nd, fun y hy hn => ?_, fun _ z hz => up z hz⟩
  · rw [z] at hl
    simp at hl
    omega
  · by_cases e : y = x
    · subst e
      exact ⟨by omega, fun z hz => by rw [ex]; exact up z hz⟩
    · have := h.out y hy fun z => hn (rmv_mem.mpr ⟨z, e⟩)
      exact ⟨by omega, fun z hz => this.2 z (rmv_mem.mp hz).1⟩
theorem Lft.stay {S r L : List Int} {i : Nat} {x : Int} (h : Lft S r L i) (hx : r[i]? = some x) (hm : ¬ (1 < L.length ∧ x ∈ L)) : Lft S r L (i + 1) :=
  ⟨h.ne, h.sub, h.nd, fun y hy hn => ⟨Nat.lt_succ_of_lt (h.out y hy hn).1, (h.out y hy hn).2⟩, fun h1 z hz => by
    have := h.far h1 z hz
    rcases Nat.lt_or_ge i (r.idxOf z) with q | q
    · exact q
    · exact absurd ⟨h1, (idx_at hx (show r.idxOf z = i by omega)) ▸ hz⟩ hm⟩
theorem Lft.done {S r L : List Int} {z : Int} (h : Lft S r L r.length) (hz : z ∈ L) (hm : ∀ y ∈ L, z ≤ y) : IsVic S r z := by
  refine ⟨h.sub z hz, fun y hy => ?_⟩
  by_cases hl : y ∈ L
  · rcases Nat.lt_or_ge 1 L.length with q | q
    · have h1 := h.far q z hz
      have h2 := h.far q y hl
      have h3 := List.idxOf_le_length (a := z) (l := r)
      have h4 := List.idxOf_le_length (a := y) (l := r)
      exact .inr ⟨by omega, hm y hl⟩
    · have e : y = z := by
        match L, q, hl, hz with
        | [a], _, h1, h2 => rw [List.mem_singleton.mp h1, List.mem_singleton.mp h2]
      exact .inr ⟨by rw [e], hm y hl⟩
  · exact .inl ((h.out y hy hl).2 z hz)
/-! ### where each touch's line comes next -/
theorem rev_places (n : Nat) (f : Nat → Int) : ((List.range n).map fun t => f (n - 1 - t)).reverse = (List.range n).map f := by
  apply List.ext_getElem
  · simp
  · intro i h1 h2
    simp only [List.length_reverse, List.length_map, List.length_range] at h1
    rw [List.getElem_reverse]
    simp only [List.getElem_map, List.getElem_range, List.length_map, List.length_range]
    congr 1
    omega
/-! ### a dict read behind a writing -/
theorem lk_cons {α : Type} (q : Int × α) (ps : List (Int × α)) (k : Int) : lkP (q :: ps) k = if q.1 = k then some q.2 else lkP ps k := by
  unfold lkP
  by_cases e : q.1 = k
  · rw [List.find?_cons_of_pos (by simpa using e), if_pos e]
    rfl
  · rw [List.find?_cons_of_neg (by simpa using e), if_neg e]
theorem lk_map {α : Type} (l : Int) (v : α) (k : Int) : ∀ ps : List (Int × α), l ∈ ps.map (·.1) → lkP (ps.map (fun p => if p.1 = l then (p.1, v) else p)) k = if k = l then some v else lkP ps k
  | [], h => by cases h
  | q :: ps, h => by
    rw [List.map_cons, lk_cons, lk_cons]
    have e1 : (if q.1 = l then (q.1, v) else q).1 = q.1 := by split <;> rfl
    rw [e1]
    by_cases hk : q.1 = k
    · rw [if_pos hk, if_pos hk]
      by_cases hl : q.1 = l
      · rw [if_pos hl, if_pos (by rw [← hk, hl])]
      · rw [if_neg hl, if_neg (fun z => hl (by rw [hk, z]))]
    · rw [if_neg hk, if_neg hk]
      by_cases hm : l ∈ ps.map (·.1)
      · exact lk_map l v k ps hm
      · have hl : q.1 = l := by
          rcases List.mem_cons.mp h with e | e
          · exact e.symm
          · exact absurd e hm
        rw [if_neg (fun z => hk (by rw [hl, z]))]
        congr 1
        refine (List.map_congr_left (g := id) fun p hp => ?_).trans (List.map_id ps)
        exact if_neg fun z => hm (List.mem_map.mpr ⟨p, hp, z⟩)
theorem lk_put {α : Type} (ps : List (Int × α)) (l : Int) (v : α) (k : Int) : lkP (putP ps l v) k = if k = l then some v else lkP ps k := by
  unfold putP
  by_cases h : l ∈ ps.map (·.1)
  · rw [if_pos h]
    exact lk_map l v k ps h
  · rw [if_neg h]
    by_cases e : k = l
    · subst e
      rw [if_pos rfl]
      have := lk_none h
      unfold lkP at this ⊢
      rw [Option.map_eq_none_iff] at this
      rw [List.find?_append, this]
      simp
    · rw [if_neg e]
      unfold lkP
      rw [List.find?_append]
      cases ps.find? (fun p => decide (p.1 = k)) with
      | some q => rfl
      | none => simp [show ¬ l = k from fun z => e z.symm]
end Nl

set_option Elab.async false
set_option linter.all false
set_option maxRecDepth 100000
set_option maxHeartbeats 4000000
namespace Nl
open PySem PySem.Spec PyProof.Rows L2 L2H LamX
def top (i : Nat) : Stmt := PySem.Challenge.pw_nearlines_k14_whole_no_plan_misses_fewer.main.body.getD i (.Pass ⟨0, 0, 0, 0⟩)
def inClass (st : Stmt) (i : Nat) : Stmt := match st with
  | .ClassDef (body := b) .. => b.getD i (.Pass ⟨0, 0, 0, 0⟩)
  | _ => .Pass ⟨0, 0, 0, 0⟩
theorem sz_ok {n : Nat} (h : Nat.ble n 1000 = true) : n ≤ sizeLine := Nat.le_trans (Nat.le_of_ble_eq_true h) (by decide)
local macro_rules | `(tactic| walk_at "rd") => `(tactic| first
  | refine ⟨_, rfl, ?_⟩
  | refine ⟨_, _, rfl, rfl, ⟨by decide, by decide⟩, ?_⟩
  | refine ⟨_, _, rfl, rfl, (by show (0 : Int) < _; decide), ?_⟩
  | refine ⟨_, _, rfl, rfl, .inr ⟨by decide, by decide⟩, ?_⟩
  | refine ⟨_, _, rfl, rfl, ?_⟩
  | refine ⟨rfl, ?_⟩)
theorem hu64_of {k : Nat} {A : Around} (hr : Room k A) : A.units + 64 < cLine := by
  have := hr.un
  omega

local macro_rules | `(tactic| walk_at "hp") => `(tactic| first
  | exact upd_same
  | assumption
  | (refine (upd_ne ?_).trans ?_; (first | assumption | exact Ne.symm (by assumption)); walk_at "hp"))

structure Txt (K : PySem.W.Frag) (w : World) (mg : Str → Option Value) : Prop extends Top K mg where
  len : mg "len" = none
  range : mg "range" = none
  isinstance : mg "isinstance" = none
  int : mg "int" = none
  list : mg "list" = none
  bool : mg "bool" = none
  zip : mg "zip" = none
  min : mg "min" = none
  reversed : mg "reversed" = none
section
variable {P : Program} {w : World} {K : PySem.W.Frag} {mg : Str → Option Value} {base : Heap}
def spLineOf : Sp := fun vs H Q _ => ∃ b wd : Int, vs = [.int b, .int wd] ∧ 0 < wd ∧ wd < 1073741824 ∧ Q (.int (b / wd)) H
abbrev s_line_of : Stmt := top 4
abbrev N_line_of : List Str := ["box", "width"]
theorem S_line_of : FnScope N_line_of ["box", "width"] (defScope s_line_of) := ⟨rfl, rfl, rfl, by decide +kernel, rfl, by decide +kernel, by decide +kernel⟩

theorem c_line_of (T : Txt K w mg) (D : DefAt K "line_of" s_line_of) : Cal P w K mg base CX0 1 "line_of" spLineOf := by
  have S := S_line_of
  refine cal_of T.toTop D S (fun _ _ _ _ _ _ us hl => match us, hl with | [_, _], _ => rfl) (fun vs H Q E h => ?_) (fun f cdv A outer s H vs Q E hr h => ?_)
  · obtain ⟨b, wd, rfl, _⟩ := h
    rfl
  · obtain ⟨b, wd, rfl, h0, h1, q⟩ := h
    refine ⟨_, (pss_one (ps_ret (pe_op op_fdiv (pv 0) (pv 1)))), ?_⟩
    exact ⟨_, rfl, _, rfl, _, _, rfl, rfl, ⟨h0, h1⟩, q⟩

def spLinesOf (K : PySem.W.Frag) : Sp := fun vs H Q _ => ∃ (a : Addr) (us : List V) (ts : List (Str × Int)) (wd : Int), vs = [.ref a, .int wd] ∧ SqL K H a us ∧ TsAt H us ts ∧ 0 < wd ∧ wd < 1073741824 ∧ us.length ≤ 900 ∧
  ∀ H' p, Same H H' → H p = none → H' p = some (.lst ((linesOf wd ts).map V.int)) → Q (.ref p) H'
abbrev s_lines_of : Stmt := top 5
abbrev N_lines_of : List Str := ["touches", "width", "_", "box"]
theorem S_lines_of : FnScope N_lines_of ["touches", "width"] (defScope s_lines_of) := ⟨rfl, rfl, rfl, by decide +kernel, rfl, by decide +kernel, by decide +kernel⟩

theorem c_lines_of (T : Txt K w mg) (D : DefAt K "lines_of" s_lines_of) (C_line_of : Cal P w K mg base CX0 1 "line_of" spLineOf) : Cal P w K mg base CX0 2 "lines_of" (spLinesOf K) := by
  have S := S_lines_of
  refine cal_of T.toTop D S (fun _ _ _ _ _ _ us hl => match us, hl with | [_, _], _ => rfl) (fun vs H Q E h => ?_) (fun f cdv A outer s H vs Q E hr h => ?_)
  · obtain ⟨a, us, ts, wd, rfl, _⟩ := h
    rfl
  · obtain ⟨a, us, ts, wd, rfl, hS, hT, h0, h1, hl, q⟩ := h
    refine ⟨_, (pss_one (ps_ret (pe_lc (own := [("_", 2), ("box", 3)]) (g := gTup K 2 (gCons (gName 2) (gCons (gName 3) gNil))) (tt := tYes) rfl S.nd (pi_list (pv 0)) (blkOk_by (own := [("_", 2), ("box", 3)]) (N := N_lines_of) (sc := defScope s_lines_of) (by decide +kernel)) (fun _ _ _ _ _ => by exact pg_tup rfl (pgs_cons (pg_name (i := 2) S.nd rfl (Or.inl rfl)) (pgs_cons (pg_name (i := 3) S.nd rfl (Or.inl rfl)) pgs_nil))) (fun _ _ _ _ _ => pts_nil) (fun _ _ _ _ _ => (pe_c C_line_of hr (by decide) rfl (pa_cons (pv 3) (pa_cons (pv 1) pa_nil))))))), ?_⟩
    refine ⟨_, rfl, a, rfl, ⟨_, hS⟩, fun D nD => lc_fi (fun i => ((linesOf wd ts)[i]?).bind fun x => some (V.int x)) nD hS (Nat.lt_of_le_of_lt hl (by decide)) (fun i x H' ex s k1 k0 k h0' => ?_) (fun H' s g => ?_)⟩
    · have hi : i < ts.length := by
        obtain ⟨hi, _⟩ := List.getElem?_eq_some_iff.mp ex
        have := hT.1
        omega
      obtain ⟨q1, e1, e2⟩ := hT.2 i _ (List.getElem?_eq_getElem hi)
      rw [ex] at e1
      cases e1
      refine ⟨q1, _, rfl, SqT.of (s _ _ e2), rfl, _, _, rfl, _, _, rfl, rfl, rfl, _, rfl, _, rfl, _, wd, rfl, h0, h1, ?_⟩
      exact k _ _ (by unfold linesOf; rw [List.getElem?_map, List.getElem?_eq_getElem hi]; rfl) (Same.refl _)
    · rw [range_ints _ _ (by unfold linesOf; rw [List.length_map]; exact hT.1)] at g
      exact q _ _ s nD g

def goB (near : List Int) : Option Int → Bool
  | none => false
  | some y => decide (y ∈ near)
/-- what goes at a touch of l: as it must, or not -/
def okGo (near : List Int) (room : Int) (l : Int) (g : Option Int) : Bool :=
  if l ∉ near ∧ (near.length : Nat) = room then goB near g else g.isNone
/-- the lines near behind it -/
def nearGo (near : List Int) (l : Int) (g : Option Int) : List Int :=
  let m := match g with | none => near | some y => near.filter (fun z => z != y)
  if l ∈ m then m else m ++ [l]
def walkP (room : Int) : List Int → Nat → List (Int × Option Int) → Option Nat
  | _, n, [] => some n
  | near, n, (l, g) :: r => if okGo near room l g = true then walkP room (nearGo near l g) (if l ∈ near then n else n + 1) r else none
def dOk (ps : List (Int × V)) (room l : Int) (g : Option Int) : Bool := okGo (ps.map (·.1)) room l g
abbrev s_is_any_whole : Stmt := top 7
abbrev N_is_any_whole : List Str := ["thing"]
theorem S_is_any_whole : FnScope N_is_any_whole ["thing"] (defScope s_is_any_whole) := ⟨rfl, rfl, rfl, by decide +kernel, rfl, by decide +kernel, by decide +kernel⟩

theorem c_any_whole (T : Txt K w mg) (D : DefAt K "is_any_whole" s_is_any_whole) : Cal P w K mg base CX0 1 "is_any_whole" (spWhole K) := by
  have S := S_is_any_whole
  refine cal_of T.toTop D S (fun _ _ _ _ _ _ us hl => match us, hl with | [_], _ => rfl) (fun vs H Q E h => ?_) (fun f cdv A outer s H vs Q E hr h => ?_)
  · obtain ⟨v, n, rfl, _⟩ := h
    rfl
  · obtain ⟨v, n, rfl, ty, k1, k2, q⟩ := h
    refine ⟨_, (pss_one (ps_ret (pe_and (pe_callB call_isi (by rfl) T.isinstance (by decide +kernel) (pa_cons (pv 0) (pa_cons ((pe_bltn (v := .ty "int") (u := .type "int") rfl T.int (by decide +kernel) rfl)) pa_nil))) (pe_one (pe_not (pe_callB call_isi (by rfl) T.isinstance (by decide +kernel) (pa_cons (pv 0) (pa_cons ((pe_bltn (v := .ty "bool") (u := .type "bool") rfl T.bool (by decide +kernel) rfl)) pa_nil)))))))), ?_⟩
    refine ⟨_, rfl, _, _, _, _, _, rfl, .ty _, ty, kit_ty k1, _, rfl, ?_⟩
    refine ite2 (fun h => ?_) (fun h => ?_)
    · refine ⟨_, rfl, _, _, _, _, _, rfl, .ty _, ty, kit_ty k2, _, rfl, ?_⟩
      have h := of_decide_eq_true h
      have e : (!decide (n = "bool")) = decide (n = "int") := by
        rcases h with h | h <;> subst h <;> rfl
      show Q (V.bl (!decide (n = "bool"))) H
      rw [e]
      exact q
    · have e : decide (n = "int") = false := decide_eq_false fun z => h (decide_eq_true (.inl z))
      rw [e] at q
      exact q

def spOneMustGo (K : PySem.W.Frag) : Sp := fun vs H Q _ => ∃ (l room : Int) (d : Addr) (α : Type) (gv : α → V) (ps : List (Int × α)), vs = [.int l, .ref d, .int room] ∧ H d = some (.dK (dk gv ps)) ∧ Q (.bl (decide (l ∉ ps.map (·.1)) && decide ((ps.length : Nat) = room))) H
abbrev s__one_must_go : Stmt := top 11
abbrev N__one_must_go : List Str := ["line", "near", "room"]
theorem S__one_must_go : FnScope N__one_must_go ["line", "near", "room"] (defScope s__one_must_go) := ⟨rfl, rfl, rfl, by decide +kernel, rfl, by decide +kernel, by decide +kernel⟩

theorem c_one_must_go (T : Txt K w mg) (D : DefAt K "_one_must_go" s__one_must_go) : Cal P w K mg base CX0 1 "_one_must_go" (spOneMustGo K) := by
  have S := S__one_must_go
  refine cal_of T.toTop D S (fun _ _ _ _ _ _ us hl => match us, hl with | [_, _, _], _ => rfl) (fun vs H Q E h => ?_) (fun f cdv A outer s H vs Q E hr h => ?_)
  · obtain ⟨l, room, d, α, gv, ps, rfl, _⟩ := h
    rfl
  · obtain ⟨l, room, d, α, gv, ps, rfl, hd, q⟩ := h
    refine ⟨_, (pss_one (ps_ret (pe_and (pe_cmp (pc_dnotin (hu_of hr) (pv 0) (pv 1)) rfl) (pe_one (pe_cmpR op_eq (pe_callB call_lenD (by rfl) T.len PySem.boot_len (pa_cons (pv 1) pa_nil)) (pv 2) (nomark _)))))), ?_⟩
    refine ⟨_, rfl, _, rfl, d, _, rfl, DGet.k (k := Sum.inl l) hd, ?_⟩
    rw [dk_val, Option.isSome_map, lk_some]
    refine ⟨_, rfl, ?_⟩
    by_cases h1 : l ∈ ps.map (·.1)
    · refine (if_neg (by rw [decide_eq_true h1]; decide)).mpr ?_
      rw [decide_eq_false (not_not_intro h1), Bool.false_and] at q
      exact q
    · refine (if_pos (by rw [decide_eq_false h1]; rfl)).mpr ?_
      refine ⟨_, rfl, d, _, rfl, hd, _, rfl, rfl, ?_⟩
      rw [decide_eq_true h1, Bool.true_and] at q
      rw [dk_len]
      rw [show decide (V.int ((ps.length : Nat) : Int) = V.int room) = decide (((ps.length : Nat) : Int) = room) from decide_eq_decide.mpr ⟨V.int.inj, congrArg V.int⟩]
      exact q
def spCheckStep (K : PySem.W.Frag) (CB : Addr) : Sp := fun vs H Q E => ∃ (l room : Int) (g : Option Int) (d : Addr) (α : Type) (gv : α → V) (ps : List (Int × α)), vs = [.int l, oiV g, .ref d, .int room] ∧ H d = some (.dK (dk gv ps)) ∧
  (okGo (ps.map (·.1)) room l g = true → Q .non H) ∧ (okGo (ps.map (·.1)) room l g = false → E (.ref CB) none H)
abbrev s__check_step : Stmt := top 12
abbrev N__check_step : List Str := ["line", "gone", "near", "room"]
theorem S__check_step : FnScope N__check_step ["line", "gone", "near", "room"] (defScope s__check_step) := ⟨rfl, rfl, rfl, by decide +kernel, rfl, by decide +kernel, by decide +kernel⟩

theorem c_check_step {CB : Addr} (T : Txt K w mg) (X_BadPlan : ExcT K mg "BadPlan" CB) (D : DefAt K "_check_step" s__check_step) (C__one_must_go : Cal P w K mg base CX0 1 "_one_must_go" (spOneMustGo K)) (C_is_any_whole : Cal P w K mg base CX0 1 "is_any_whole" (spWhole K)) : Cal P w K mg base (L2.CX P w) 2 "_check_step" (spCheckStep K CB) := by
  have S := S__check_step
  refine cal_ofX T.toTop D S (fun _ _ _ _ _ _ us hl => match us, hl with | [_, _, _, _], _ => rfl) (fun vs H Q E h => ?_) (fun f cdv A outer s H vs Q E hr h => ?_)
  · obtain ⟨l, room, g, d, α, gv, ps, rfl, _⟩ := h
    rfl
  · obtain ⟨l, room, g, d, α, gv, ps, rfl, hd, hq, he⟩ := h
    refine ⟨_, (pss_one (ps_if (pt_val (pe_c C__one_must_go hr (by decide) rfl (pa_cons (pv 0) (pa_cons (pv 2) (pa_cons (pv 3) pa_nil))))) (pss_one (ps_if (PW.pt (pw_or (pt_not (pt_val (pe_c C_is_any_whole hr (by decide) rfl (pa_cons (pv 1) pa_nil)))) (pw_or1 (pt_cmp (pc_dnotin (hu_of hr) (pv 1) (pv 2)))))) (pss_one (ps_raise rfl (takes_of rfl rfl rfl rfl) (SkE.pmk_own1 PySem.F.excBase_ValueError X_BadPlan.x X_BadPlan.g X_BadPlan.k (raises_own X_BadPlan.b X_BadPlan.t) rfl pe_str))) pss_nil)) (pss_one (ps_if (pt_cmpR op_notN (pv 1) pe_non (nomark _)) (pss_one (ps_raise rfl (takes_of rfl rfl rfl rfl) (SkE.pmk_own1 PySem.F.excBase_ValueError X_BadPlan.x X_BadPlan.g X_BadPlan.k (raises_own X_BadPlan.b X_BadPlan.t) rfl pe_str))) pss_nil)))), ?_⟩
    refine ⟨_, rfl, _, rfl, _, rfl, l, room, d, α, gv, ps, rfl, hd, _, rfl, ?_⟩
    by_cases hm : l ∉ ps.map (·.1) ∧ (ps.length : Nat) = room
    · have ek : ((ps.map (·.1)).length : Nat) = room := by rw [List.length_map]; exact hm.2
      have eo : okGo (ps.map (·.1)) room l g = goB (ps.map (·.1)) g := if_pos ⟨hm.1, ek⟩
      refine (if_pos (by rw [decide_eq_true hm.1, decide_eq_true hm.2]; rfl)).mpr ?_
      cases g with
      | none =>
        refine ⟨_, rfl, .non, "NoneType", rfl, .base .non, by decide +kernel, by decide +kernel, _, rfl, ?_⟩
        exact he eo
      | some y =>
        refine ⟨_, rfl, .int y, "int", rfl, .base (.int _), by decide +kernel, by decide +kernel, _, rfl, ?_⟩
        refine ⟨_, rfl, _, rfl, d, _, rfl, DGet.k (k := Sum.inl y) hd, ?_⟩
        rw [dk_val, Option.isSome_map, lk_some]
        by_cases hy : y ∈ ps.map (·.1)
        · exact ⟨false, bl_of (by rw [decide_eq_true hy]; rfl), hq (eo.trans (decide_eq_true hy))⟩
        · exact ⟨true, bl_of (by rw [decide_eq_false hy]; rfl), he (eo.trans (decide_eq_false hy))⟩
    · have eo : okGo (ps.map (·.1)) room l g = g.isNone := if_neg fun h => hm ⟨h.1, by rw [← h.2, List.length_map]⟩
      refine (if_neg (fun z => hm ?_)).mpr ?_
      · simp only [Bool.and_eq_true, decide_eq_true_eq] at z
        exact z
      cases g with
      | none => exact ⟨_, rfl, rfl, false, rfl, hq eo⟩
      | some y => exact ⟨_, rfl, rfl, true, rfl, he eo⟩

def txtOf (n : Int) : Str := Str.ofString (toString n)
theorem txt_len {n : Int} (h0 : 0 ≤ n) (h1 : n < 1000000) : (txtOf n).length ≤ 6 := by
  have e : n = ((n.toNat : Nat) : Int) := (Int.toNat_of_nonneg h0).symm
  unfold txtOf
  rw [e]
  have q : (TL.tl (Str.ofString (toString ((n.toNat : Nat) : Int)))).length ≤ 6 := by
    rw [TL.tl_num]
    exact TL.numL_len (by decide) (by omega)
  exact q
theorem log_small {n : Int} (h0 : 0 ≤ n) (h1 : n < 1000000) : n.natAbs.log2 < 1920 := by
  have h : n.natAbs < 2 ^ 20 := by omega
  rcases Nat.eq_zero_or_pos n.natAbs with e | e
  · rw [e]; decide
  · have := (Nat.log2_lt (by omega)).mpr h
    omega

theorem app_sz {a b : Str} {n m k : Nat} (ha : a.length ≤ n) (hb : b.length ≤ m) (h : n + m ≤ k) : (a ++ b).length ≤ k := by
  have e : (a ++ b).length = a.length + b.length := by
    show (a.cps ++ b.cps).size = a.cps.size + b.cps.size
    exact Array.size_append
  omega

def resP (room : Int) (ls : List Int) (gs : List (Option Int)) : Option Nat := if gs.length = ls.length then walkP room [] 0 (ls.zip gs) else none
theorem nearGo_len (near : List Int) (l : Int) (g : Option Int) : (nearGo near l g).length ≤ near.length + 1 := by
  have h : ∀ m : List Int, m.length ≤ near.length → (if l ∈ m then m else m ++ [l]).length ≤ near.length + 1 := fun m hm => by
    split
    · omega
    · rw [List.length_append, List.length_singleton]
      omega
  unfold nearGo
  cases g with
  | none => exact h _ (Nat.le_refl _)
  | some y => exact h _ (List.length_filter_le _ _)
theorem go_mem {near : List Int} {room l : Int} {y : Int} (h : okGo near room l (some y) = true) : l ∉ near ∧ y ∈ near := by
  unfold okGo at h
  split at h
  · rename_i h1
    exact ⟨h1.1, of_decide_eq_true h⟩
  · cases h
theorem dk_tk_in (near : List Int) (l : Int) : (valV (dk gT (tkP near)) (.inl l)).isSome = decide (l ∈ near) := by
  rw [dk_val, Option.isSome_map, lk_some, tk_keys]
def spWalked (K : PySem.W.Frag) (CB : Addr) : Sp := fun vs H Q E => ∃ (a pl : Addr) (us : List V) (ts : List (Str × Int)) (wd room : Int) (gs : List (Option Int)), vs = [.ref a, .int room, .int wd, .ref pl] ∧ SqL K H a us ∧ TsAt H us ts ∧ 0 < wd ∧ wd < 1073741824 ∧ us.length ≤ 900 ∧ SqL K H pl (gs.map oiV) ∧ gs.length ≤ 900 ∧
  (∀ n, resP room (linesOf wd ts) gs = some n → ∀ H', Same H H' → Q (.int (n : Nat)) H') ∧ (resP room (linesOf wd ts) gs = none → ∀ H', Same H H' → E (.ref CB) none H')
abbrev s_walked : Stmt := top 9
abbrev N_walked : List Str := ["touches", "room", "width", "plan", "near", "missed", "line", "gone"]
theorem S_walked : FnScope N_walked ["touches", "room", "width", "plan"] (defScope s_walked) := ⟨rfl, rfl, rfl, by decide +kernel, rfl, by decide +kernel, by decide +kernel⟩

theorem c_walked {CB : Addr} (T : Txt K w mg) (X_BadPlan : ExcT K mg "BadPlan" CB) (D : DefAt K "walked" s_walked) (C_lines_of : Cal P w K mg base CX0 2 "lines_of" (spLinesOf K)) (C__check_step : Cal P w K mg base (L2.CX P w) 2 "_check_step" (spCheckStep K CB)) : Cal P w K mg base (L2.CX P w) 3 "walked" (spWalked K CB) := by
  have S := S_walked
  refine cal_ofX T.toTop D S (fun _ _ _ _ _ _ us hl => match us, hl with | [_, _, _, _], _ => rfl) (fun vs H Q E h => ?_) (fun f cdv A outer s H vs Q E hr h => ?_)
  · obtain ⟨a, pl, us, ts, wd, room, gs, rfl, _⟩ := h
    rfl
  · obtain ⟨a, pl, us, ts, wd, room, gs, rfl, hS, hT, h0, h1, hl, hG, hgl, hq, he⟩ := h
    refine ⟨_, (pss_cons (ps_if (pt_cmpR op_ne (pe_callB call_len_seq (by rfl) T.len PySem.boot_len (pa_cons (pv 3) pa_nil)) (pe_callB call_len_seq (by rfl) T.len PySem.boot_len (pa_cons (pv 0) pa_nil)) (nomark _)) (pss_one (ps_raise rfl (takes_of rfl rfl rfl rfl) (SkE.pmk_own1 PySem.F.excBase_ValueError X_BadPlan.x X_BadPlan.g X_BadPlan.k (raises_own X_BadPlan.b X_BadPlan.t) rfl (pe_joined (.cons pe_str (.cons (pe_fmt (pe_callB call_len_seq (by rfl) T.len PySem.boot_len (pa_cons (pv 0) pa_nil))) (.cons pe_str (.cons (pe_fmt (pe_callB call_len_seq (by rfl) T.len PySem.boot_len (pa_cons (pv 3) pa_nil))) .nil)))))))) pss_nil)
  (pss_cons (ps_set (i := 4) S.nd rfl (Or.inl rfl) pe_dnewK)
  (pss_cons (ps_set (i := 5) S.nd rfl (Or.inl rfl) pe_int)
  (pss_cons (ps_for (g := gTup K 2 (gCons (gName 6) (gCons (gName 7) gNil))) (passes_of rfl) rfl (RZ.pi_zipA (by rfl) T.zip (pa_cons (pe_c C_lines_of hr (by decide) rfl (pa_cons (pv 0) (pa_cons (pv 2) pa_nil))) (pa_cons (pv 3) pa_nil))) (by exact (pg_tup rfl (pgs_cons (pg_name (i := 6) S.nd rfl (Or.inl rfl)) (pgs_cons (pg_name (i := 7) S.nd rfl (Or.inl rfl)) pgs_nil))))
  (pss_cons (ps_expr (pe_cx C__check_step (takes_of rfl rfl rfl rfl) hr (by decide) rfl (pa_cons (pv 6) (pa_cons (pv 7) (pa_cons (pv 4) (pa_cons (pv 1) pa_nil))))))
  (pss_cons (ps_if (pt_cmpR op_notN (pv 7) pe_non (nomark _)) (pss_one (ps_ddel (pv 4) (pv 7))) pss_nil)
  (pss_one (ps_if (pt_cmp (pc_dnotin (hu_of hr) (pv 6) (pv 4))) (pss_cons (ps_aug (i := 5) S.nd rfl (Or.inl rfl) pe_int ip_add)
  (pss_one (ps_dput (hu_of hr) (pv 4) (pv 6) pe_bl rfl))) pss_nil)))))
  (pss_one (ps_ret (pv 5))))))), ?_⟩
    have hul := hT.1
    have hls : (linesOf wd ts).length = ts.length := by unfold linesOf; rw [List.length_map]
    refine ⟨_, rfl, pl, _, rfl, .inl hG, _, rfl, a, _, rfl, .inl hS, rfl, ?_⟩
    rw [List.length_map]
    by_cases hlen : gs.length = us.length
    case neg =>
      refine ⟨true, bl_of ?_, ?_⟩
      · rw [decide_eq_false (fun z => hlen (by have := V.int.inj z; omega))]
        rfl
      have hb : resP room (linesOf wd ts) gs = none := if_neg (by omega)
      refine ⟨_, rfl, by decide +kernel, ?_⟩
      refine ⟨_, rfl, a, _, rfl, .inl hS, .inr ⟨_, rfl, log_small (by omega) (by omega), _, rfl, ?_, ?_⟩⟩
      · exact app_sz (n := 20) (m := 6) (by decide +kernel) (txt_len (by omega) (by omega)) (by decide)
      refine ⟨_, rfl, app_sz (n := 30) (m := 50) (app_sz (n := 20) (m := 6) (by decide +kernel) (txt_len (by omega) (by omega)) (by decide)) (by decide +kernel) (by decide), ?_⟩
      refine ⟨_, rfl, pl, _, rfl, .inl hG, .inr ⟨_, rfl, log_small (by rw [List.length_map]; omega) (by rw [List.length_map]; omega), _, rfl, ?_, he hb _ (Same.refl _)⟩⟩
      exact app_sz (n := 100) (m := 6) (app_sz (n := 30) (m := 50) (app_sz (n := 20) (m := 6) (by decide +kernel) (txt_len (by omega) (by omega)) (by decide)) (by decide +kernel) (by decide)) (txt_len (by rw [List.length_map]; omega) (by rw [List.length_map]; omega)) (by decide)
    refine ⟨false, bl_of ?_, ?_⟩
    · rw [decide_eq_true (congrArg V.int (by omega))]
      rfl
    have eres : resP room (linesOf wd ts) gs = walkP room [] 0 ((linesOf wd ts).zip gs) := if_pos (by omega)
    rw [eres] at hq he
    generalize els : linesOf wd ts = ls at hq he hls
    refine fun dn nd => ?_
    refine ⟨_, rfl, _, rfl, a, us, ts, wd, rfl, (Same.new nd).seq hS, hT.same (Same.new nd), h0, h1, hl, fun H1 dl t1 nl g1 => ?_⟩
    rw [els] at g1
    have s1 := (Same.new nd).trans t1
    have gn1 : H1 dn = some (.dK (dk gT (tkP []))) := t1 _ _ upd_same
    have nld : dl ≠ dn := fun z => by rw [z, upd_same] at nl; cases nl
    refine ⟨_, rfl, dl, pl, _, _, rfl, .inl ⟨SqL.of g1, s1.seq hG, RZ.for_zipL (xs := ls.map V.int) (ys := gs.map oiV) (by rw [List.length_map, List.length_map]; omega) (fun i σ H' => ∃ (near : List Int) (n : Nat) (v6 v7 : Option V), σ = [some (.ref a), some (.int room), some (.int wd), some (.ref pl), some (.ref dn), some (.int (n : Nat)), v6, v7] ∧ Same H H' ∧ H' dl = some (.lst (ls.map V.int)) ∧ H' dn = some (.dK (dk gT (tkP near))) ∧
      walkP room near n ((ls.zip gs).drop i) = walkP room [] 0 (ls.zip gs) ∧ near.length ≤ i) ⟨[], 0, _, _, rfl, s1, g1, gn1, rfl, Nat.le_refl _⟩ (fun i σ H' h => ?_) (fun i x y T' σ H' ex ey h nT => ?_) (fun σ H' h => ?_)⟩⟩
    · obtain ⟨near, n, v6, v7, rfl, t, gl, _⟩ := h
      exact ⟨SqL.of gl, t.seq hG⟩
    · obtain ⟨near, n, v6, v7, rfl, t, gl, gn, hw, hnl⟩ := h
      obtain ⟨l, rfl, el⟩ : ∃ l, x = V.int l ∧ ls[i]? = some l := by
        rw [List.getElem?_map] at ex
        obtain ⟨y, e, e2⟩ := Option.map_eq_some_iff.mp ex
        exact ⟨y, e2.symm, e⟩
      obtain ⟨g, rfl, eg⟩ : ∃ g, y = oiV g ∧ gs[i]? = some g := by
        rw [List.getElem?_map] at ey
        obtain ⟨y, e, e2⟩ := Option.map_eq_some_iff.mp ey
        exact ⟨y, e2.symm, e⟩
      have hi : i < ls.length := (List.getElem?_eq_some_iff.mp el).1
      have hdr : (ls.zip gs).drop i = (l, g) :: (ls.zip gs).drop (i + 1) := by
        have hz : (ls.zip gs)[i]? = some (l, g) := by rw [List.getElem?_zip_eq_some]; exact ⟨el, eg⟩
        rw [List.drop_eq_getElem_cons (by rw [List.length_zip]; omega), (List.getElem?_eq_some_iff.mp hz).2]
      rw [hdr] at hw
      have tT : Same H' (upd H' T' (.tup [.int l, oiV g])) := Same.new nT
      have gT' : upd H' T' (.tup [.int l, oiV g]) T' = some (.tup [.int l, oiV g]) := upd_same
      generalize upd H' T' (.tup [.int l, oiV g]) = H2 at tT gT'
      have gl2 := tT _ _ gl
      have gn2 := tT _ _ gn
      have t2 := t.trans tT
      refine ⟨T', _, rfl, SqT.of gT', rfl, _, _, rfl, _, _, rfl, rfl, ?_⟩
      refine ⟨_, rfl, _, rfl, _, rfl, _, rfl, l, room, g, dn, Unit, gT, tkP near, rfl, gn2, fun hok => ?_, fun hok => ?_⟩
      · rw [tk_keys] at hok
        have hw2 : walkP room (nearGo near l g) (if l ∈ near then n else n + 1) ((ls.zip gs).drop (i + 1)) = walkP room [] 0 (ls.zip gs) := by
          rw [← hw]
          exact (if_pos hok).symm
        have hlen2 := nearGo_len near l g
        cases g with
        | none =>
          refine ⟨_, rfl, rfl, false, rfl, ?_⟩
          refine ⟨_, rfl, _, rfl, dn, _, rfl, DGet.k (k := Sum.inl l) gn2, ?_⟩
          rw [dk_tk_in]
          by_cases hm : l ∈ near
          · refine ⟨false, bl_of (by rw [decide_eq_true hm]; rfl), near, n, _, _, rfl, t2, gl2, gn2, ?_, by omega⟩
            rw [if_pos hm] at hw2
            rw [show nearGo near l none = near from if_pos hm] at hw2
            exact hw2
          · refine ⟨true, bl_of (by rw [decide_eq_false hm]; rfl), ?_⟩
            refine ⟨_, rfl, _, _, rfl, rfl, ?_⟩
            refine ⟨_, rfl, _, rfl, dn, _, rfl, DPut.k (k := Sum.inl l) gn2 (small1000 (by rw [dk_len, tk_len]; omega)), near ++ [l], n + 1, _, _, rfl, t2.mut nd, (by walk_at "hp"), ?_, ?_, by rw [List.length_append, List.length_singleton]; omega⟩
            · rw [show V.bl true = gT () from rfl, dk_put, tk_put, if_neg hm]
              exact upd_same
            · rw [if_neg hm] at hw2
              rw [show nearGo near l none = near ++ [l] from if_neg hm] at hw2
              exact hw2
        | some y =>
          obtain ⟨hm, hy⟩ := go_mem hok
          have hm2 : l ∉ near.filter (fun z => z != y) := fun h => hm (List.mem_filter.mp h).1
          refine ⟨_, rfl, rfl, true, rfl, ?_⟩
          refine ⟨_, rfl, _, rfl, dn, _, Sum.inl y, rfl, gn2, rfl, by rw [dk_tk_in, decide_eq_true hy], ?_⟩
          rw [dk_drop, tk_drop]
          have hfl := List.length_filter_le (fun z => z != y) near
          refine ⟨_, rfl, _, rfl, dn, _, rfl, DGet.k (k := Sum.inl l) upd_same, ?_⟩
          rw [dk_tk_in]
          refine ⟨true, bl_of (by rw [decide_eq_false hm2]; rfl), ?_⟩
          refine ⟨_, rfl, _, _, rfl, rfl, ?_⟩
          refine ⟨_, rfl, _, rfl, dn, _, rfl, DPut.k (k := Sum.inl l) upd_same (small1000 (by rw [dk_len, tk_len]; omega)), near.filter (fun z => z != y) ++ [l], n + 1, _, _, rfl, (t2.mut nd).mut nd, (by walk_at "hp"), ?_, ?_, by rw [List.length_append, List.length_singleton]; omega⟩
          · rw [show V.bl true = gT () from rfl, dk_put, tk_put, if_neg hm2]
            exact upd_same
          · rw [if_neg hm] at hw2
            rw [show nearGo near l (some y) = near.filter (fun z => z != y) ++ [l] from if_neg hm2] at hw2
            exact hw2
      · rw [tk_keys] at hok
        refine he ?_ _ t2
        rw [← hw]
        exact if_neg (by rw [hok]; decide)
    · obtain ⟨near, n, v6, v7, rfl, t, gl, gn, hw, hnl⟩ := h
      rw [List.length_map, List.drop_of_length_le (by rw [List.length_zip]; omega)] at hw
      exact ⟨_, rfl, hq n hw.symm _ t⟩

-- SPLIT
abbrev s__law_cell_at : Stmt := top 16
abbrev N__law_cell_at : List Str := ["_law_script", "_law_k"]
theorem S__law_cell_at : FnScope N__law_cell_at ["_law_script", "_law_k"] (defScope s__law_cell_at) := ⟨rfl, rfl, rfl, by decide +kernel, rfl, by decide +kernel, by decide +kernel⟩

theorem c_cell_at (T : Txt K w mg) (D : DefAt K "_law_cell_at" s__law_cell_at) : Cal P w K mg base CX0 1 "_law_cell_at" (spCellAt K) := by
  have S := S__law_cell_at
  refine cal_of T.toTop D S (fun _ _ _ _ _ _ us hl => match us, hl with | [_, _], _ => rfl) (fun vs H Q E h => ?_) (fun f cdv A outer s H vs Q E hr h => ?_)
  · obtain ⟨a, ns, k, rfl, _⟩ := h
    rfl
  · obtain ⟨a, ns, k, rfl, hS, hk, q⟩ := h
    refine ⟨_, (pss_cons (ps_if (pt_cmpR op_lt (pv 1) (pe_callB call_len_seq (by rfl) T.len PySem.boot_len (pa_cons (pv 0) pa_nil)) (nomark _)) (pss_one (ps_ret (pe_ix ix_list (pv 0) (pv 1) (fun _ _ => rfl)))) pss_nil)
  (pss_one (ps_ret pe_int))), ?_⟩
    refine ⟨_, rfl, _, rfl, a, _, rfl, .inl hS, _, _, rfl, rfl, _, rfl, ?_⟩
    rw [List.length_map]
    refine ite2 (fun h => ?_) (fun h => ?_)
    · have h := of_decide_eq_true h
      exact ⟨_, rfl, _, rfl, a, _, _, _, rfl, rfl, hS, at_ints hk h, q⟩
    · have h : ¬ k < (ns.length : Int) := fun z => h (decide_eq_true z)
      have e : cellAt ns k = 0 := by
        unfold cellAt
        rw [List.getD_eq_getElem?_getD, List.getElem?_eq_none (by omega)]; rfl
      rw [e] at q
      exact q

abbrev s__law_mixed : Stmt := top 18
abbrev N__law_mixed : List Str := ["_law_cell"]
theorem S__law_mixed : FnScope N__law_mixed ["_law_cell"] (defScope s__law_mixed) := ⟨rfl, rfl, rfl, by decide +kernel, rfl, by decide +kernel, by decide +kernel⟩

theorem c_mixed (T : Txt K w mg) (D : DefAt K "_law_mixed" s__law_mixed) : Cal P w K mg base CX0 1 "_law_mixed" spMixed := by
  have S := S__law_mixed
  refine cal_of T.toTop D S (fun _ _ _ _ _ _ us hl => match us, hl with | [_], _ => rfl) (fun vs H Q E h => ?_) (fun f cdv A outer s H vs Q E hr h => ?_)
  · obtain ⟨c, rfl, _⟩ := h
    rfl
  · obtain ⟨c, rfl, q⟩ := h
    refine ⟨_, (pss_one (ps_ret (pe_op op_mod (pe_op op_mul (pv 0) pe_int) pe_int))), ?_⟩
    repeat walk_at "rd"
    exact q

abbrev s__law_whole : Stmt := top 17
abbrev N__law_whole : List Str := ["_law_found"]
theorem S__law_whole : FnScope N__law_whole ["_law_found"] (defScope s__law_whole) := ⟨rfl, rfl, rfl, by decide +kernel, rfl, by decide +kernel, by decide +kernel⟩

theorem c_whole (T : Txt K w mg) (D : DefAt K "_law_whole" s__law_whole) : Cal P w K mg base CX0 1 "_law_whole" (spWhole K) := by
  have S := S__law_whole
  refine cal_of T.toTop D S (fun _ _ _ _ _ _ us hl => match us, hl with | [_], _ => rfl) (fun vs H Q E h => ?_) (fun f cdv A outer s H vs Q E hr h => ?_)
  · obtain ⟨v, n, rfl, _⟩ := h
    rfl
  · obtain ⟨v, n, rfl, ty, k1, k2, q⟩ := h
    refine ⟨_, (pss_one (ps_ret (pe_and (pe_callB call_isi (by rfl) T.isinstance (by decide +kernel) (pa_cons (pv 0) (pa_cons ((pe_bltn (v := .ty "int") (u := .type "int") rfl T.int (by decide +kernel) rfl)) pa_nil))) (pe_one (pe_not (pe_callB call_isi (by rfl) T.isinstance (by decide +kernel) (pa_cons (pv 0) (pa_cons ((pe_bltn (v := .ty "bool") (u := .type "bool") rfl T.bool (by decide +kernel) rfl)) pa_nil)))))))), ?_⟩
    refine ⟨_, rfl, _, _, _, _, _, rfl, .ty _, ty, kit_ty k1, _, rfl, ?_⟩
    refine ite2 (fun h => ?_) (fun h => ?_)
    · refine ⟨_, rfl, _, _, _, _, _, rfl, .ty _, ty, kit_ty k2, _, rfl, ?_⟩
      have h := of_decide_eq_true h
      have e : (!decide (n = "bool")) = decide (n = "int") := by
        rcases h with h | h <;> subst h <;> rfl
      show Q (V.bl (!decide (n = "bool"))) H
      rw [e]
      exact q
    · have e : decide (n = "int") = false := decide_eq_false fun z => h (decide_eq_true (.inl z))
      rw [e] at q
      exact q

def spTouchesBy (K : PySem.W.Frag) : Sp := fun vs H Q _ => ∃ (a : Addr) (cs : List Int), vs = [.ref a] ∧ SqL K H a (cs.map V.int) ∧ cs.length ≤ 63 ∧ ∀ H' p us ts, Same H H' → H' p = some (.lst us) → TsAt H' us ts → ts.length = cs.length → (∀ t ∈ ts, RW t ∧ 0 ≤ t.2 ∧ t.2 < 1000000) → Q (.ref p) H'
abbrev s__law_touches_by : Stmt := top 19
abbrev N__law_touches_by : List Str := ["_law_cells", "_law_touches", "_law_cell", "_law_box", "_law_back"]
theorem S__law_touches_by : FnScope N__law_touches_by ["_law_cells"] (defScope s__law_touches_by) := ⟨rfl, rfl, rfl, by decide +kernel, rfl, by decide +kernel, by decide +kernel⟩

theorem c_touches_by (T : Txt K w mg) (D : DefAt K "_law_touches_by" s__law_touches_by) (C__law_mixed : Cal P w K mg base CX0 1 "_law_mixed" spMixed) : Cal P w K mg base CX0 2 "_law_touches_by" (spTouchesBy K) := by
  have S := S__law_touches_by
  refine cal_of T.toTop D S (fun _ _ _ _ _ _ us hl => match us, hl with | [_], _ => rfl) (fun vs H Q E h => ?_) (fun f cdv A outer s H vs Q E hr h => ?_)
  · obtain ⟨a, cs, rfl, _⟩ := h
    rfl
  · obtain ⟨a, cs, rfl, hS, hl, q⟩ := h
    refine ⟨_, (pss_cons (ps_set (i := 1) S.nd rfl (Or.inl rfl) (pe_lst pa_nil))
  (pss_cons (ps_for PassesOwn.never rfl (pi_list (pv 0)) (pg_name (i := 2) S.nd rfl (Or.inl rfl))
  (pss_cons (ps_set (i := 3) S.nd rfl (Or.inl rfl) (pe_op op_mod (pe_c C__law_mixed hr (by decide) rfl (pa_cons (pv 2) pa_nil)) (pe_ix ix_list (pe_lst (pa_cons pe_int (pa_cons pe_int (pa_cons pe_int (pa_cons pe_int pa_nil))))) (pe_op op_mod (pe_op op_fdiv (pv 2) pe_int) pe_int) (fun _ _ => rfl))))
  (pss_cons (ps_set (i := 4) S.nd rfl (Or.inl rfl) (pe_op op_mod (pe_op op_fdiv (pv 2) pe_int) pe_int))
  (pss_cons (ps_if (PW.pt (pw_and (pt_chain op_lt op_lt pe_int (pv 4) pe_int) (pw_and1 (pt_cmpR op_le (pv 4) (pe_callB call_len_seq (by rfl) T.len PySem.boot_len (pa_cons (pv 1) pa_nil)) (nomark _))))) (pss_one (ps_set (i := 3) S.nd rfl (Or.inl rfl) (pe_ix ix_tup (pe_ix ix_list (pv 1) (pe_op op_sub (pe_callB call_len_seq (by rfl) T.len PySem.boot_len (pa_cons (pv 1) pa_nil)) (pv 4)) (fun _ _ => rfl)) pe_int (fun _ _ => rfl)))) pss_nil)
  (pss_one (ps_expr (pe_bm PySem.F.plainAttrs_list PySem.F.slot_list_append PySem.F.type_list_append mt_append (pv 1) (pa_cons (pe_tup (pa_cons (pe_ix ix_list (pe_lst (pa_cons pe_str (pa_cons pe_str pa_nil))) (pe_op op_mod (pv 2) pe_int) (fun _ _ => rfl)) (pa_cons (pv 3) pa_nil))) pa_nil))))))))
  (pss_one (ps_ret (pv 1))))), ?_⟩
    refine ⟨sz_ok rfl, fun p np => ?_⟩
    refine ⟨_, rfl, a, rfl, ⟨_, (Same.new np).seq hS⟩, for_list (xs := cs.map V.int) (fun i σ H' => (∃ v2 v3 v4, σ = [some (.ref a), some (.ref p), v2, v3, v4]) ∧ Same H H' ∧ ∃ us ts, H' p = some (.lst us) ∧ TsAt H' us ts ∧ ts.length = i ∧ ∀ t ∈ ts, RW t ∧ 0 ≤ t.2 ∧ t.2 < 1000000)
      ⟨⟨_, _, _, rfl⟩, Same.new np, [], [], upd_same, ⟨rfl, fun j t e => by simp at e⟩, rfl, fun t h => by cases h⟩ (fun i σ H' _ h => h.2.1.seq hS) (fun i y σ H' ey h => ?_) (fun σ H' h => ?_)⟩
    · obtain ⟨⟨v2, v3, v4, rfl⟩, t, us, ts, gp, hT, hts, hall⟩ := h
      obtain ⟨c, rfl⟩ : ∃ x, y = V.int x := by
        rw [List.getElem?_map] at ey
        obtain ⟨y, e, e2⟩ := Option.map_eq_some_iff.mp ey
        exact ⟨y, e2.symm⟩
      have hi : i < cs.length := by
        have := (List.getElem?_eq_some_iff.mp ey).1
        rw [List.length_map] at this
        exact this
      clear ey
      refine ⟨_, rfl, _, rfl, sz_ok rfl, fun p1 n1 => ?_⟩
      generalize e1 : upd H' p1 _ = H1
      have t1 : Same H' H1 := e1 ▸ Same.new n1
      have g1 : H1 p1 = some (.lst (([8, 30, 1000000, 8] : List Int).map V.int)) := e1 ▸ upd_same
      clear e1
      obtain ⟨m, hm, m0, m1⟩ : ∃ m : Int, ([8, 30, 1000000, 8] : List Int).getD (c / 2 % 4).toNat 0 = m ∧ 0 < m ∧ m ≤ 1000000 := by
        have h : (c / 2 % 4).toNat = 0 ∨ (c / 2 % 4).toNat = 1 ∨ (c / 2 % 4).toNat = 2 ∨ (c / 2 % 4).toNat = 3 := by omega
        rcases h with h | h | h | h <;> rw [h] <;> exact ⟨_, rfl, by decide, by decide⟩
      refine ⟨_, rfl, _, _, rfl, rfl, ⟨by decide, by decide⟩, _, _, rfl, rfl, (by show (0 : Int) < 4; decide), p1, _, _, _, rfl, rfl, SqL.of g1, at_ints_mod (ns := [8, 30, 1000000, 8]) (c / 2) (by decide) rfl, ?_⟩
      rw [hm]
      refine ⟨_, _, rfl, rfl, m0, _, rfl, _, _, rfl, rfl, ⟨by decide, by decide⟩, _, _, rfl, rfl, (by show (0 : Int) < 8; decide), ?_⟩
      have b0 := mod_nn (mixed c) m0
      have b1 : mixed c % m < 1000000 := by have := mod_lt (mixed c) m0; omega
      have k0 : 0 ≤ c / 8 % 8 := by omega
      have k1 : c / 8 % 8 < 8 := by omega
      obtain ⟨bx, hbx⟩ : ∃ bx, mixed c % m = bx := ⟨_, rfl⟩
      rw [hbx] at b0 b1
      have gp1 := t1 _ _ gp
      have hT1 := hT.same t1
      have hul := hT.1
      by_cases h1 : 0 < (c / 8 % 8)
      case' neg =>
        refine ⟨_, rfl, _, _, rfl, rfl, _, rfl, ?_⟩
        refine (if_neg (fun z => h1 (of_decide_eq_true z))).mpr ?_
        refine ⟨_, rfl, ?_⟩
      case' pos =>
        refine ⟨_, rfl, _, _, rfl, rfl, _, rfl, ?_⟩
        refine (if_pos (decide_eq_true h1)).mpr ?_
        refine ⟨_, _, rfl, rfl, ?_⟩
        by_cases h2 : (c / 8 % 8) < 5
        case' neg => refine ⟨false, bl_of (decide_eq_false h2), ?_⟩
        case' pos =>
          refine ⟨true, bl_of (decide_eq_true h2), _, rfl, _, rfl, p, _, rfl, .inl (SqL.of gp1), _, _, rfl, rfl, ?_⟩
          by_cases h3 : (c / 8 % 8) ≤ (us.length : Nat)
          case' neg => refine ⟨false, bl_of (decide_eq_false h3), ?_⟩
          case' pos =>
            refine ⟨true, bl_of (decide_eq_true h3), ?_⟩
            have hj : us.length - (c / 8 % 8).toNat < ts.length := by omega
            obtain ⟨q1, e1, e2⟩ := hT1.2 _ _ (List.getElem?_eq_getElem hj)
            have hbb := hall _ (List.getElem_mem hj)
            refine ⟨_, rfl, _, rfl, p, _, rfl, .inl (SqL.of gp1), _, rfl, _, _, rfl, rfl, p, us, _, .ref q1, rfl, rfl, SqL.of gp1, at_in (by omega) (by rw [show ((us.length : Nat) - (c / 8 % 8) : Int).toNat = us.length - (c / 8 % 8).toNat by omega]; exact e1), q1, _, _, _, rfl, rfl, SqT.of e2, at_in (by decide) rfl, ?_⟩
            replace b0 := hbb.2.1
            replace b1 := hbb.2.2
            clear hbx
            obtain ⟨bx, hbx⟩ : ∃ bx, ts[us.length - (c / 8 % 8).toNat].2 = bx := ⟨_, rfl⟩
            rw [hbx] at b0 b1
      all_goals
        refine ⟨_, rfl, .inl ⟨rfl, _, SqL.of gp1⟩, sz_ok rfl, fun p2 n2 => ?_⟩
        generalize e3 : upd H1 p2 _ = H2
        have t2 : Same H1 H2 := e3 ▸ Same.new n2
        have g2 : H2 p2 = some (.lst (([("read" : Str), "write"] : List Str).map V.str)) := e3 ▸ upd_same
        clear e3
        obtain ⟨k, hk, hrw⟩ : ∃ k : Str, ([("read" : Str), "write"] : List Str).getD (c % 2).toNat Str.empty = k ∧ (k = "read" ∨ k = "write") := by
          have h : (c % 2).toNat = 0 ∨ (c % 2).toNat = 1 := by omega
          rcases h with h | h <;> rw [h]
          · exact ⟨_, rfl, .inl rfl⟩
          · exact ⟨_, rfl, .inr rfl⟩
        refine ⟨_, rfl, _, _, rfl, rfl, (by show (0 : Int) < 2; decide), p2, _, _, _, rfl, rfl, SqL.of g2, at_strs_mod (ns := ["read", "write"]) c (by decide) rfl, ?_⟩
        rw [hk]
        refine ⟨_, rfl, sz_ok rfl, fun p3 n3 => ?_⟩
        generalize e4 : upd H2 p3 _ = H3
        have t3 : Same H2 H3 := e4 ▸ Same.new n3
        have g3 : H3 p3 = some (.tup [.str k, .int bx]) := by
          rw [← hbx]
          exact e4 ▸ upd_same
        clear e4
        have t13 := (t1.trans t2).trans t3
        have gp3 := t13 _ _ gp
        refine ⟨p, us, _, rfl, rfl, gp3, small1000 (by omega), ?_⟩
        refine ⟨⟨_, _, _, rfl⟩, (t.trans t13).mut np, us ++ [.ref p3], ts ++ [(k, bx)], upd_same, ?_, by rw [List.length_append, hts]; rfl, fun t ht => ?_⟩
        · exact ((hT.same t13).snoc (t := (k, bx)) g3).mut gp3 fun q o e n => (upd_ne n).trans e
        · rcases List.mem_append.mp ht with h | h
          · exact hall t h
          · cases List.mem_singleton.mp h
            exact ⟨hrw, b0, b1⟩
    · obtain ⟨⟨v2, v3, v4, rfl⟩, t, us, ts, gp, hT, hts, hall⟩ := h
      rw [List.length_map] at hts
      exact ⟨_, rfl, q _ _ us ts t gp hT hts hall⟩

-- SPLIT
/-- the table of _touched_last's code object, and the lambda's name -/
abbrev tabsT (P : Addr) : List (Addr × Str) := [(P, "_touched_last.<locals>.<lambda>")]
def spTouchedLast (Pt : Addr) : Sp := fun vs H Q _ => ∃ (d : Addr) (ps : List (Int × Int)), vs = [.ref d] ∧ H d = some (.dK (dk V.int ps)) ∧ ps ≠ [] ∧ (ps.map (·.1)).Nodup ∧ Tabs (tabsT Pt) H ∧ ∀ (H1 : Hp) (l : Int), ExtN H H1 → Tabs (tabsT Pt) H1 → Lst ps l → Q (.int l) H1
abbrev s__touched_last : Stmt := top 14
abbrev N__touched_last : List Str := ["near"]
theorem S__touched_last : FnScope N__touched_last ["near"] (defScope s__touched_last) := ⟨rfl, rfl, rfl, by decide +kernel, rfl, by decide +kernel, by decide +kernel⟩

theorem c_touched_last {c Pt : Addr} (T : Txt K w mg) (TB : TabB base mg c Pt) (D : DefC K "_touched_last" s__touched_last c) : Cal P w K mg base CX0 5 "_touched_last" (spTouchedLast Pt) := by
  have S := S__touched_last
  refine cal_ofC T.toTop D S (fun _ _ _ _ _ _ us hl => match us, hl with | [_], _ => rfl) (fun vs H Q E h => ?_) (fun f A outer s H vs Q E hr h => ?_)
  · obtain ⟨d, ps, rfl, _⟩ := h
    rfl
  · obtain ⟨d, ps, rfl, hd, hne, hnd, hT, q⟩ := h
    refine ⟨_, (pss_one (ps_ret (pe_minkey (T := tabsT Pt) (i := 0) hr ⟨rfl, rfl, rfl, by decide +kernel, rfl, by decide +kernel, by decide +kernel, by decide +kernel, by decide +kernel⟩ (fun y hy e => by
      cases hy with
      | head => exact absurd e (by decide)
      | tail _ hy => cases hy with
        | head => exact Or.inl rfl
        | tail _ hy => cases hy) (fun y hy => by
      rw [List.mem_singleton.mp hy]
      exact List.mem_cons_of_mem _ List.mem_cons_self) rfl (Or.inr (Or.inl rfl)) rfl T.min TB rfl List.mem_cons_self (fun p hp _ => by rw [List.mem_singleton.mp hp]; rfl) rfl (fun _ _ _ _ _ _ _ => rfl)))), ?_⟩
    exact ⟨d, ps, rfl, hd, hne, hnd, hT, q⟩

def spNextPlaces (K : PySem.W.Frag) : Sp := fun vs H Q _ => ∃ (a : Addr) (ls : List Int), vs = [.ref a] ∧ SqL K H a (ls.map V.int) ∧ ls.length ≤ 900 ∧
  ∀ (H' : Hp) (p : Addr), Same H H' → H p = none → H' p = some (.lst ((List.range ls.length).map fun i => V.int (nxt ls (i + 1) (ls.getD i 0)))) → Q (.ref p) H'
/-- the dict of the places that come -/
def Coming (ls : List Int) (m : Nat) (cm : List (Int × Int)) : Prop := ∀ l, lkP cm l = if l ∈ ls.drop m then some (nxt ls m l) else none
theorem coming_put {ls : List Int} {m : Nat} {cm : List (Int × Int)} {x : Int} (hx : ls[m]? = some x) (h : Coming ls (m + 1) cm) : Coming ls m (putP cm x (m : Nat)) := fun l => by
  rw [lk_put, drop_at hx]
  by_cases e : x = l
  · subst e
    rw [if_pos rfl, if_pos List.mem_cons_self]
    unfold nxt
    rw [drop_at hx, idx_eq]
    rfl
  · rw [if_neg (fun z => e z.symm), h l]
    by_cases hm : l ∈ ls.drop (m + 1)
    · rw [if_pos hm, if_pos (List.mem_cons_of_mem _ hm), nxt_ne hx e]
    · rw [if_neg hm, if_neg (fun z => (List.mem_cons.mp z).elim (fun z => e z.symm) hm)]
theorem coming_get {ls : List Int} {m : Nat} {cm : List (Int × Int)} (hm : m ≤ ls.length) (h : Coming ls m cm) (l : Int) : (lkP cm l).getD (ls.length : Nat) = nxt ls m l := by
  rw [h l]
  by_cases e : l ∈ ls.drop m
  · rw [if_pos e]
    rfl
  · rw [if_neg e]
    unfold nxt
    rw [List.idxOf_eq_length e, List.length_drop]
    show ((ls.length : Nat) : Int) = _
    congr 1
    omega
abbrev s__next_places : Stmt := top 13
abbrev N__next_places : List Str := ["lines", "end", "coming", "places", "place", "line"]
theorem S__next_places : FnScope N__next_places ["lines"] (defScope s__next_places) := ⟨rfl, rfl, rfl, by decide +kernel, rfl, by decide +kernel, by decide +kernel⟩

theorem c_next_places (T : Txt K w mg) (D : DefAt K "_next_places" s__next_places) : Cal P w K mg base CX0 1 "_next_places" (spNextPlaces K) := by
  have S := S__next_places
  refine cal_of T.toTop D S (fun _ _ _ _ _ _ us hl => match us, hl with | [_], _ => rfl) (fun vs H Q E h => ?_) (fun f cdv A outer s H vs Q E hr h => ?_)
  · obtain ⟨a, ls, rfl, _⟩ := h
    rfl
  · obtain ⟨a, ls, rfl, hA, hl, q⟩ := h
    refine ⟨_, (pss_cons (ps_set (i := 1) S.nd rfl (Or.inl rfl) (pe_callB call_len_seq (by rfl) T.len PySem.boot_len (pa_cons (pv 0) pa_nil)))
  (pss_cons (ps_set (i := 2) S.nd rfl (Or.inl rfl) pe_dnewK)
  (pss_cons (ps_set (i := 3) S.nd rfl (Or.inl rfl) (pe_lst pa_nil))
  (pss_cons (ps_for PassesOwn.never rfl (pi_revR (by rfl) T.reversed (prg_1 (by rfl) T.range (pv 1))) (pg_name (i := 4) S.nd rfl (Or.inl rfl))
  (pss_cons (ps_set (i := 5) S.nd rfl (Or.inl rfl) (pe_ix ix_list (pv 0) (pv 4) (fun _ _ => rfl)))
  (pss_cons (ps_expr (pe_bm PySem.F.plainAttrs_list PySem.F.slot_list_append PySem.F.type_list_append mt_append (pv 3) (pa_cons (pe_dget2 (hu_of hr) (pv 2) (pv 5) (pv 1) ⟨by rfl, by rfl, by rfl, by rfl⟩) pa_nil)))
  (pss_one (ps_dput (hu_of hr) (pv 2) (pv 5) (pv 4) rfl)))))
  (pss_cons (ps_expr (pe_bm0 PySem.F.plainAttrs_list PySem.F.slot_list_reverse PySem.F.type_list_reverse mt_reverse (pv 3)))
  (pss_one (ps_ret (pv 3)))))))), ?_⟩
    refine ⟨_, rfl, a, _, rfl, .inl hA, ?_⟩
    rw [List.length_map]
    refine fun dn nd => ?_
    have s0 : Same H (upd H dn (.dK [])) := Same.new nd
    have g0 : upd H dn (.dK []) dn = some (.dK (dk V.int [])) := upd_same
    generalize upd H dn (.dK []) = H0 at s0 g0
    refine ⟨sz_ok rfl, fun pp np => ?_⟩
    have npH : H pp = none := s0.free np
    have ne : dn ≠ pp := ne_of_none g0 np
    have s1 : Same H0 (upd H0 pp (.lst [])) := Same.new np
    have g1 : upd H0 pp (.lst []) pp = some (.lst []) := upd_same
    have g01 := s1 _ _ g0
    generalize upd H0 pp (.lst []) = H1 at s1 g1 g01
    have hcn : (((ls.length : Nat) : Int) - 0).toNat = ls.length := by omega
    refine ⟨_, rfl, _, rfl, by omega, by omega, by omega, by omega, for_rangeC (n := (((ls.length : Nat) : Int) - 0).toNat) (fun i σ H' => ∃ (cm : List (Int × Int)) (v4 v5 : Option V), σ = [some (.ref a), some (.int (ls.length : Nat)), some (.ref dn), some (.ref pp), v4, v5] ∧ Same H H' ∧ H' dn = some (.dK (dk V.int cm)) ∧ cm.length ≤ i ∧ i ≤ ls.length ∧ Coming ls (ls.length - i) cm ∧
      H' pp = some (.lst ((List.range i).map fun t => V.int (nxt ls (ls.length - 1 - t + 1) (ls.getD (ls.length - 1 - t) 0))))) ⟨[], none, none, rfl, s0.trans s1, g01, Nat.le_refl _, Nat.zero_le _, ?_, g1⟩ (fun i σ H' hi h => ?_) (fun σ H' h => ?_)⟩
    · intro l
      rw [show ls.drop (ls.length - 0) = [] from List.drop_length, if_neg (fun z => by cases z)]
      rfl
    · obtain ⟨cm, v4, v5, rfl, t, gn, hcl, hil, hC, gp⟩ := h
      rw [hcn] at hi ⊢
      have ex : (0 : Int) + ((ls.length : Nat) : Int) - 1 + (i : Nat) * -1 = ((ls.length - 1 - i : Nat) : Int) := by omega
      dsimp only
      rw [ex]
      generalize em : ls.length - 1 - i = m
      have em2 : ls.length - i = m + 1 := by omega
      have em3 : ls.length - (i + 1) = m := by omega
      have hm : m < ls.length := by omega
      have hx : ls[m]? = some ls[m] := List.getElem?_eq_getElem hm
      rw [em2] at hC
      refine ⟨_, rfl, _, rfl, a, _, _, _, rfl, rfl, t.seq hA, at_map _ hx, ?_⟩
      refine ⟨_, rfl, .inl ⟨rfl, _, SqL.of gp⟩, _, rfl, dn, rfl, .inl ⟨_, .inl gn⟩, _, rfl, _, rfl, _, DGet.k (k := Sum.inl ls[m]) gn, pp, _, _, rfl, rfl, gp, small1000 (by rw [List.length_map, List.length_range]; omega), ?_⟩
      rw [dk_val]
      have hget := coming_get (by omega) hC ls[m]
      have hv : ((lkP cm ls[m]).map V.int).getD (V.int ((ls.length : Nat) : Int)) = V.int (nxt ls (m + 1) ls[m]) := by
        rw [← hget]
        cases lkP cm ls[m] <;> rfl
      rw [hv]
      generalize e2 : upd H' pp _ = H2
      have t2 : Same H H2 := e2 ▸ t.mut npH
      have gp2 : H2 pp = some (.lst ((List.range (i + 1)).map fun t => V.int (nxt ls (ls.length - 1 - t + 1) (ls.getD (ls.length - 1 - t) 0)))) := by
        rw [← e2, upd_same, List.range_succ, List.map_append, List.map_singleton, em, List.getD_eq_getElem?_getD, hx]
        rfl
      have gn2 : H2 dn = some (.dK (dk V.int cm)) := by
        rw [← e2, upd_ne ne]
        exact gn
      clear e2
      refine ⟨_, rfl, _, rfl, _, rfl, dn, _, rfl, DPut.k (k := Sum.inl ls[m]) gn2 (small1000 (by rw [dk_len]; omega)), putP cm ls[m] (m : Nat), _, _, rfl, t2.mut nd, ?_, ?_, by omega, ?_, ?_⟩
      · rw [dk_put]
        exact upd_same
      · have h1 := congrArg List.length (put_keys cm ls[m] ((m : Nat) : Int))
        rw [List.length_map] at h1
        rw [h1]
        split
        · rw [List.length_map]
          omega
        · rw [List.length_append, List.length_map, List.length_singleton]
          omega
      · rw [em3]
        exact coming_put hx hC
      · rw [upd_ne ne.symm]
        exact gp2
    · obtain ⟨cm, v4, v5, rfl, t, gn, hcl, hil, hC, gp⟩ := h
      rw [hcn] at gp
      refine ⟨_, rfl, .inl ⟨rfl, _, SqL.of gp⟩, pp, _, rfl, rfl, gp, ?_⟩
      refine ⟨_, rfl, q _ pp (t.mut npH) npH ?_⟩
      rw [upd_same]
      have h2 := rev_places ls.length (fun i => nxt ls (i + 1) (ls.getD i 0))
      have h3 := congrArg (List.map V.int) h2
      rw [List.map_reverse, List.map_map, List.map_map] at h3
      exact congrArg (fun x => some (HO.lst x)) h3

-- SPLIT
theorem tabs_same {T : List (Addr × Str)} {H H' : Hp} (t : Tabs T H) (s : Same H H') : Tabs T H' := t.ext s
def spBest (K : PySem.W.Frag) (Pt : Addr) : Sp := fun vs H Q _ => ∃ (a : Addr) (us : List V) (ts : List (Str × Int)) (wd : Int) (rm : Nat), vs = [.ref a, .int (rm : Nat), .int wd] ∧ SqL K H a us ∧ TsAt H us ts ∧ 0 < wd ∧ wd < 1073741824 ∧ us.length ≤ 900 ∧ 0 < rm ∧ Tabs (tabsT Pt) H ∧
  ∀ (H' : Hp) (p : Addr) (gs : List (Option Int)) (n : Nat), ExtN H H' → H p = none → H' p = some (.lst (gs.map oiV)) → BelG rm [] (linesOf wd ts) gs n → Q (.ref p) H'
abbrev s_best : Stmt := top 10
abbrev N_best : List Str := ["touches", "room", "width", "lines", "plan", "near", "line", "place", "gone"]
theorem S_best : FnScope N_best ["touches", "room", "width"] (defScope s_best) := ⟨rfl, rfl, rfl, by decide +kernel, rfl, by decide +kernel, by decide +kernel⟩

theorem c_best {Pt : Addr} (T : Txt K w mg) (D : DefAt K "best" s_best) (C_lines_of : Cal P w K mg base CX0 2 "lines_of" (spLinesOf K)) (C__next_places : Cal P w K mg base CX0 1 "_next_places" (spNextPlaces K)) (C__one_must_go : Cal P w K mg base CX0 1 "_one_must_go" (spOneMustGo K))
    (C__touched_last : Cal P w K mg base CX0 5 "_touched_last" (spTouchedLast Pt)) : Cal P w K mg base CX0 6 "best" (spBest K Pt) := by
  have S := S_best
  refine cal_of T.toTop D S (fun _ _ _ _ _ _ us hl => match us, hl with | [_, _, _], _ => rfl) (fun vs H Q E h => ?_) (fun f cdv A outer s H vs Q E hr h => ?_)
  · obtain ⟨a, us, ts, wd, rm, rfl, _⟩ := h
    rfl
  · obtain ⟨a, us, ts, wd, rm, rfl, hS, hTs, h0, h1, hl, hrm, hT, q⟩ := h
    refine ⟨_, (pss_cons (ps_set (i := 3) S.nd rfl (Or.inl rfl) (pe_c C_lines_of hr (by decide) rfl (pa_cons (pv 0) (pa_cons (pv 2) pa_nil))))
  (pss_cons (ps_set (i := 4) S.nd rfl (Or.inl rfl) (pe_lst pa_nil))
  (pss_cons (ps_set (i := 5) S.nd rfl (Or.inl rfl) pe_dnewK)
  (pss_cons (ps_for (g := gTup K 2 (gCons (gName 6) (gCons (gName 7) gNil))) PassesOwn.never rfl (RZ.pi_zipA (by rfl) T.zip (pa_cons (pv 3) (pa_cons (pe_c C__next_places hr (by decide) rfl (pa_cons (pv 3) pa_nil)) pa_nil))) (by exact (pg_tup rfl (pgs_cons (pg_name (i := 6) S.nd rfl (Or.inl rfl)) (pgs_cons (pg_name (i := 7) S.nd rfl (Or.inl rfl)) pgs_nil))))
  (pss_cons (ps_set (i := 8) S.nd rfl (Or.inl rfl) pe_non)
  (pss_cons (ps_if (pt_val (pe_c C__one_must_go hr (by decide) rfl (pa_cons (pv 6) (pa_cons (pv 5) (pa_cons (pv 1) pa_nil))))) (pss_cons (ps_set (i := 8) S.nd rfl (Or.inl rfl) (pe_c C__touched_last hr (by decide) rfl (pa_cons (pv 5) pa_nil)))
  (pss_one (ps_ddel (pv 5) (pv 8)))) pss_nil)
  (pss_cons (ps_expr (pe_bm PySem.F.plainAttrs_list PySem.F.slot_list_append PySem.F.type_list_append mt_append (pv 4) (pa_cons (pv 8) pa_nil)))
  (pss_one (ps_dput (hu_of hr) (pv 5) (pv 6) (pv 7) rfl))))))
  (pss_one (ps_ret (pv 4))))))), ?_⟩
    have hul := hTs.1
    have hls : (linesOf wd ts).length = ts.length := by unfold linesOf; rw [List.length_map]
    refine ⟨_, rfl, _, rfl, a, us, ts, wd, rfl, hS, hTs, h0, h1, hl, fun H1 dl t1 nl g1 => ?_⟩
    generalize els : linesOf wd ts = ls at g1 hls q
    have hT1 := tabs_same hT t1
    refine ⟨sz_ok rfl, fun pp np => ?_⟩
    have npH : H pp = none := t1.free np
    have t2 : Same H1 (upd H1 pp (.lst [])) := Same.new np
    have g2 : upd H1 pp (.lst []) pp = some (.lst (([] : List (Option Int)).map oiV)) := upd_same
    have gl2 := t2 _ _ g1
    generalize upd H1 pp (.lst []) = H2 at t2 g2 gl2
    refine fun dn nd => ?_
    have ndH : H dn = none := (t1.trans t2).free nd
    have t3 : Same H2 (upd H2 dn (.dK [])) := Same.new nd
    have g3 : upd H2 dn (.dK []) dn = some (.dK (dk V.int [])) := upd_same
    have gp3 := t3 _ _ g2
    have gl3 := t3 _ _ gl2
    have npd : pp ≠ dn := ne_of_none g2 nd
    generalize upd H2 dn (.dK []) = H3 at t3 g3 gp3 gl3
    refine ⟨_, rfl, _, rfl, dl, ls, rfl, SqL.of gl3, by omega, fun H4 pl t4 n4 g4 => ?_⟩
    have gl4 := t4 _ _ gl3
    have gp4 := t4 _ _ gp3
    have gd4 := t4 _ _ g3
    have t04 := ((t1.trans t2).trans t3).trans t4
    have hT4 := tabs_same hT t04
    have nlp : dl ≠ pp := ne_of_none g1 np
    have nld : dl ≠ dn := ne_of_none gl2 nd
    have nqp : pl ≠ pp := (ne_of_none gp3 n4).symm
    have nqd : pl ≠ dn := (ne_of_none g3 n4).symm
    clear t1 t2 t3 t4
    refine ⟨dl, pl, _, _, rfl, .inl ⟨SqL.of gl4, SqL.of g4, RZ.for_zipL (xs := ls.map V.int) (ys := (List.range ls.length).map fun i => V.int (nxt ls (i + 1) (ls.getD i 0))) (by rw [List.length_map, List.length_map, List.length_range]) (fun i σ H' => ∃ (ps : List (Int × Int)) (gs : List (Option Int)) (n : Nat) (v6 v7 v8 : Option V),
      σ = [some (.ref a), some (.int (rm : Nat)), some (.int wd), some (.ref dl), some (.ref pp), some (.ref dn), v6, v7, v8] ∧ ExtN H H' ∧ Tabs (tabsT Pt) H' ∧ H' dl = some (.lst (ls.map V.int)) ∧ H' pl = some (.lst ((List.range ls.length).map fun i => V.int (nxt ls (i + 1) (ls.getD i 0)))) ∧ H' pp = some (.lst (gs.map oiV)) ∧ H' dn = some (.dK (dk V.int ps)) ∧
      (∀ p ∈ ps, p.2 = nxt ls i p.1) ∧ (ps.map (·.1)).Nodup ∧ ps.length ≤ rm ∧ ps.length ≤ i ∧ gs.length = i ∧ ∀ gs' n', BelG rm (ps.map (·.1)) (ls.drop i) gs' n' → BelG rm [] ls (gs ++ gs') (n + n')) ⟨[], [], 0, none, none, none, rfl, extN_of t04, hT4, gl4, g4, gp4, gd4, (fun p z => by cases z), List.nodup_nil, Nat.zero_le _, Nat.zero_le _, rfl, (fun gs' n' b => by rw [Nat.zero_add]; exact b)⟩ (fun i σ H' h => ?_) (fun i x y T' σ H' ex ey h nT => ?_) (fun σ H' h => ?_)⟩⟩
    · obtain ⟨ps, gs, n, v6, v7, v8, rfl, t, tb, gl, gq, _⟩ := h
      exact ⟨SqL.of gl, SqL.of gq⟩
    · obtain ⟨ps, gs, n, v6, v7, v8, rfl, t, tb, gl, gq, gp, gn, hA, hnd, hlr, hli, hgl, hB⟩ := h
      obtain ⟨l, rfl, el⟩ : ∃ l, x = V.int l ∧ ls[i]? = some l := by
        rw [List.getElem?_map] at ex
        obtain ⟨y, e, e2⟩ := Option.map_eq_some_iff.mp ex
        exact ⟨y, e2.symm, e⟩
      have hi : i < ls.length := (List.getElem?_eq_some_iff.mp el).1
      obtain rfl : y = V.int (nxt ls (i + 1) l) := by
        rw [List.getElem?_map, List.getElem?_range hi] at ey
        rw [← Option.some.inj ey]
        show V.int (nxt ls (i + 1) (ls.getD i 0)) = _
        rw [List.getD_eq_getElem?_getD, el]
        rfl
      rw [drop_at el] at hB
      have tT : Same H' (upd H' T' (.tup [.int l, .int (nxt ls (i + 1) l)])) := Same.new nT
      have gT' : upd H' T' (.tup [.int l, .int (nxt ls (i + 1) l)]) T' = some (.tup [.int l, .int (nxt ls (i + 1) l)]) := upd_same
      generalize upd H' T' (.tup [.int l, .int (nxt ls (i + 1) l)]) = H2 at tT gT'
      have gl2 := tT _ _ gl
      have gq2 := tT _ _ gq
      have gp2 := tT _ _ gp
      have gn2 := tT _ _ gn
      have t2 := t.trans (extN_of tT)
      have tb2 := tabs_same tb tT
      refine ⟨T', _, rfl, SqT.of gT', rfl, _, _, rfl, _, _, rfl, rfl, ?_⟩
      refine ⟨_, rfl, _, rfl, _, rfl, l, ((rm : Nat) : Int), dn, Int, V.int, ps, rfl, gn2, _, rfl, ?_⟩
      by_cases hm : l ∉ ps.map (·.1) ∧ ps.length = rm
      case' pos =>
        refine (if_pos (by rw [decide_eq_true hm.1, hm.2]; simp)).mpr ?_
        refine ⟨_, rfl, dn, ps, rfl, gn2, (fun z => by rw [z] at hm; have := hm.2; simp at this; omega), hnd, tb2, fun H3 w e3 tb3 hL => ?_⟩
        have gn3 := extN_dk e3 gn2
        have hV := vic_of hA hL
        refine ⟨_, rfl, _, rfl, dn, _, Sum.inl w, rfl, gn3, rfl, by rw [dk_val, Option.isSome_map, lk_some, decide_eq_true hV.1], ?_⟩
        rw [dk_drop]
        have gl3 := extN_lst e3 gl2
        have gq3 := extN_lst e3 gq2
        have gp3 := extN_lst e3 gp2
        generalize e4 : upd H3 dn (.dK (dk V.int (dropP ps w))) = H4
        have gl4 : H4 dl = some (.lst (ls.map V.int)) := by rw [← e4, upd_ne nld]; exact gl3
        have gq4 := (show H4 pl = H3 pl by rw [← e4, upd_ne nqd]).trans gq3
        have gp4 := (show H4 pp = H3 pp by rw [← e4, upd_ne npd]).trans gp3
        have gn4 : H4 dn = some (.dK (dk V.int (dropP ps w))) := by rw [← e4, upd_same]
        have tb4 : Tabs (tabsT Pt) H4 := e4 ▸ tabs_dk tb3 gn3
        have t4 : ExtN H H4 := e4 ▸ extN_mut (t2.trans e3) ndH
        clear e4
        have hdl : (dropP ps w).length + 1 = ps.length := by
          have h1 := rmv_len hnd hV.1
          rw [← keys_drop, List.length_map, List.length_map] at h1
          exact h1
        have hni : l ∉ (dropP ps w).map (·.1) := fun z => hm.1 (rmv_mem.mp (keys_drop ps w ▸ z)).1
        have hV2 : IsVic (ps.map (·.1)) (ls.drop (i + 1)) w := by
          rw [drop_at el] at hV
          refine ⟨hV.1, fun y hy => ?_⟩
          have := hV.2 y hy
          rw [idx_ne (x := l) (y := y) (fun z => hm.1 (z ▸ hy)), idx_ne (x := l) (y := w) (fun z => hm.1 (z ▸ hV.1))] at this
          omega
        obtain ⟨ps', g, hg, hps, hA', hnd', hli', hroom, k, hB'⟩ : ∃ (ps' : List (Int × Int)) (g : Option Int), V.int w = oiV g ∧ dropP ps w = ps' ∧ (∀ p ∈ ps', p.2 = nxt ls i p.1) ∧ (ps'.map (·.1)).Nodup ∧ ps'.length ≤ i ∧ ((l ∈ ps'.map (·.1) ∧ ps'.length ≤ rm) ∨ ps'.length < rm) ∧
            ∃ k, ∀ gs' n', BelG rm ((putP ps' l (nxt ls (i + 1) l)).map (·.1)) (ls.drop (i + 1)) gs' n' → BelG rm [] ls (gs ++ g :: gs') (n + k + n') :=
          ⟨_, some w, rfl, rfl, fun p hp => hA p (mem_drop hp), by rw [keys_drop]; exact rmv_nd hnd, by omega, .inr (by omega), 1, fun gs' n' b => by
            rw [keys_put, if_neg hni, keys_drop] at b
            have := hB _ _ (.evict hm.1 (by rw [List.length_map]; exact hm.2) hV2 b)
            rw [show n + 1 + n' = n + (n' + 1) by omega]
            exact this⟩
        rw [hg]
        rw [hps] at gn4
      case' neg =>
        refine (if_neg (fun z => hm (by simp only [Bool.and_eq_true, decide_eq_true_eq] at z; exact ⟨z.1, by omega⟩))).mpr ?_
        have gl4 := gl2
        have gq4 := gq2
        have gp4 := gp2
        have gn4 := gn2
        have tb4 := tb2
        have t4 := t2
        generalize H2 = H4 at gl4 gq4 gp4 gn4 tb4 t4
        obtain ⟨ps', g, hg, hps, hA', hnd', hli', hroom, k, hB'⟩ : ∃ (ps' : List (Int × Int)) (g : Option Int), V.non = oiV g ∧ ps = ps' ∧ (∀ p ∈ ps', p.2 = nxt ls i p.1) ∧ (ps'.map (·.1)).Nodup ∧ ps'.length ≤ i ∧ ((l ∈ ps'.map (·.1) ∧ ps'.length ≤ rm) ∨ ps'.length < rm) ∧
            ∃ k, ∀ gs' n', BelG rm ((putP ps' l (nxt ls (i + 1) l)).map (·.1)) (ls.drop (i + 1)) gs' n' → BelG rm [] ls (gs ++ g :: gs') (n + k + n') := by
          by_cases hin : l ∈ ps.map (·.1)
          · refine ⟨_, none, rfl, rfl, hA, hnd, hli, .inl ⟨hin, hlr⟩, 0, fun gs' n' b => ?_⟩
            rw [keys_put, if_pos hin] at b
            exact hB _ _ (.hit hin b)
          · have hlt : ps.length < rm := Nat.lt_of_le_of_ne hlr fun z => hm ⟨hin, z⟩
            refine ⟨_, none, rfl, rfl, hA, hnd, hli, .inr hlt, 1, fun gs' n' b => ?_⟩
            rw [keys_put, if_neg hin] at b
            have := hB _ _ (.add hin (by rw [List.length_map]; exact hlt) b)
            rw [show n + 1 + n' = n + (n' + 1) by omega]
            exact this
        rw [hg]
        rw [hps] at gn4
      all_goals
        refine ⟨_, rfl, .inl ⟨rfl, _, SqL.of gp4⟩, _, rfl, pp, _, _, rfl, rfl, gp4, small1000 (by rw [List.length_map]; omega), ?_⟩
        generalize e5 : upd H4 pp _ = H5
        have gp5 : H5 pp = some (.lst ((gs ++ [g]).map oiV)) := by
          rw [← e5, upd_same, List.map_append]
          rfl
        have gl5 := (show H5 dl = H4 dl by rw [← e5, upd_ne nlp]).trans gl4
        have gq5 := (show H5 pl = H4 pl by rw [← e5, upd_ne nqp]).trans gq4
        have gn5 := (show H5 dn = H4 dn by rw [← e5, upd_ne npd.symm]).trans gn4
        have tb5 : Tabs (tabsT Pt) H5 := e5 ▸ tabs_lst tb4 gp4
        have t5 : ExtN H H5 := e5 ▸ extN_mut t4 npH
        clear e5
        have hpl : (putP ps' l (nxt ls (i + 1) l)).length ≤ rm ∧ (putP ps' l (nxt ls (i + 1) l)).length ≤ i + 1 := by
          have h1 := congrArg List.length (keys_put ps' l (nxt ls (i + 1) l))
          rw [List.length_map] at h1
          rw [h1]
          split
          · rw [List.length_map]
            omega
          · rename_i hno
            rw [List.length_append, List.length_map, List.length_singleton]
            rcases hroom with ⟨z, _⟩ | z
            · exact absurd z hno
            · omega
        refine ⟨_, rfl, _, rfl, _, rfl, dn, _, rfl, DPut.k (k := Sum.inl l) gn5 (small1000 (by rw [dk_len]; omega)), putP ps' l (nxt ls (i + 1) l), gs ++ [g], n + k, _, _, _, rfl, extN_mut t5 ndH, tabs_dk tb5 gn5, ?_, ?_, ?_, ?_, put_next el hA', ?_, hpl.1, hpl.2, ?_, fun gs' n' b => ?_⟩
        · rw [upd_ne nld]
          exact gl5
        · exact (upd_ne nqd).trans gq5
        · exact (upd_ne npd).trans gp5
        · rw [dk_put]
          exact upd_same
        · rw [keys_put]
          split
          · exact hnd'
          · rename_i hno
            exact nd_snoc hno hnd'
        · rw [List.length_append, List.length_singleton, hgl]
        · rw [List.append_assoc]
          exact hB' _ _ b
    · obtain ⟨ps, gs, n, v6, v7, v8, rfl, t, tb, gl, gq, gp, gn, hA, hnd, hlr, hli, hgl, hB⟩ := h
      rw [List.length_map, List.drop_length] at hB
      have := hB [] 0 .nil
      rw [List.append_nil] at this
      exact ⟨_, rfl, q _ pp gs n t npH gp this⟩

-- SPLIT
def spGoes (K : PySem.W.Frag) : Sp := fun vs H Q _ => ∃ (a b : Addr) (S ls : List Int) (k : Nat), vs = [.ref a, .ref b, .int (k : Nat)] ∧ SqL K H a (S.map V.int) ∧ SqL K H b (ls.map V.int) ∧ S.Nodup ∧ S ≠ [] ∧ S.length ≤ 900 ∧ ls.length ≤ 900 ∧ k ≤ ls.length ∧
  ∀ (H' : Hp) (z : Int), Same H H' → IsVic S (ls.drop k) z → Q (.int z) H'
abbrev s__law_goes : Stmt := top 21
abbrev N__law_goes : List Str := ["_law_near", "_law_lines", "_law_at", "_law_left", "_law_k", "_law_line"]
theorem S__law_goes : FnScope N__law_goes ["_law_near", "_law_lines", "_law_at"] (defScope s__law_goes) := ⟨rfl, rfl, rfl, by decide +kernel, rfl, by decide +kernel, by decide +kernel⟩

theorem c_goes (T : Txt K w mg) (D : DefAt K "_law_goes" s__law_goes) : Cal P w K mg base CX0 1 "_law_goes" (spGoes K) := by
  have Sc := S__law_goes
  have S := Sc
  refine cal_of T.toTop D Sc (fun _ _ _ _ _ _ us hl => match us, hl with | [_, _, _], _ => rfl) (fun vs H Q E h => ?_) (fun f cdv A outer s H vs Q E hr h => ?_)
  · obtain ⟨a, b, S', ls, k, rfl, _⟩ := h
    rfl
  · obtain ⟨a, b, S0, ls, k, rfl, hA, hB, hnd, hne, hl, hll, hk, q⟩ := h
    refine ⟨_, (pss_cons (ps_set (i := 3) S.nd rfl (Or.inl rfl) (pe_callTy call_list_of (by rfl) T.list (by decide +kernel) (pa_cons (pv 0) pa_nil)))
  (pss_cons (ps_for PassesOwn.never rfl (pi_range2 rfl T.range (pa_cons (pv 2) (pa_cons (pe_callB call_len_seq (by rfl) T.len PySem.boot_len (pa_cons (pv 1) pa_nil)) pa_nil))) (pg_name (i := 4) S.nd rfl (Or.inr rfl))
  (pss_one (ps_if (PW.pt (pw_and (pt_cmpR op_gt (pe_callB call_len_seq (by rfl) T.len PySem.boot_len (pa_cons (pv 3) pa_nil)) pe_int (nomark _)) (pw_and1 (pt_cmpR op_in_seq (pe_ix ix_list (pv 1) (pv 4) (fun _ _ => rfl)) (pv 3) (by with_unfolding_all rfl))))) (pss_one (ps_setLc (i := 3) (own := [("_law_line", 5)]) (g := gName 5)  rfl S.nd rfl rfl (sw_true rfl rfl rfl (by decide +kernel)) (pi_list (pv 3)) (blkOk_by (own := [("_law_line", 5)]) (N := N__law_goes) (sc := defScope s__law_goes) (by decide +kernel)) (fun _ _ _ _ _ => pg_name (i := 5) S.nd rfl (Or.inl rfl)) (fun _ _ _ _ _ => pts_one (pt_cmpR op_ne (pv 5) (pe_ix (r := rIxL K) ix_list (pv 1) (pv 4) (fun _ _ => rfl)) (nomark _))) (fun _ _ _ _ _ => (pv 5)))) pss_nil)))
  (pss_one (ps_ret (pe_callB (cr_min rfl) (by rfl) T.min (by decide +kernel) (pa_cons (pv 3) pa_nil)))))), ?_⟩
    refine ⟨_, rfl, a, _, rfl, .inl hA, fun p0 n0 => ?_⟩
    have s0 : Same H (upd H p0 (.lst (S0.map V.int))) := Same.new n0
    have g0 : upd H p0 (.lst (S0.map V.int)) p0 = some (.lst (S0.map V.int)) := upd_same
    generalize upd H p0 (.lst (S0.map V.int)) = H0 at s0 g0
    have hle : (((ls.length : Nat) : Int) - ((k : Nat) : Int)).toNat = ls.length - k := by omega
    refine ⟨_, rfl, _, rfl, b, _, rfl, .inl (s0.seq hB), ((k : Nat) : Int), ((ls.length : Nat) : Int), by rw [List.length_map], by omega, ?_⟩
    rw [hle]
    refine for_range (n := ls.length - k) (fun i σ H' => ∃ (L : List Int) (pL : Addr) (v4 : Option V), σ = [some (.ref a), some (.ref b), some (.int (k : Nat)), some (.ref pL), v4, none] ∧ Same H H' ∧ H' pL = some (.lst (L.map V.int)) ∧ L.length ≤ 900 ∧ Lft S0 (ls.drop k) L i) ⟨S0, p0, none, rfl, s0, g0, hl, Lft.start hne hnd⟩ (fun i σ H' hi h => ?_) (fun σ H' h => ?_)
    · obtain ⟨L, pL, v4, rfl, t, gL, hLl, hL⟩ := h
      have hki : k + i < ls.length := by omega
      have hx : ls[k + i]? = some ls[k + i] := List.getElem?_eq_getElem hki
      have hx2 : (ls.drop k)[i]? = some ls[k + i] := by rw [List.getElem?_drop]; exact hx
      dsimp only
      rw [show ((k : Nat) : Int) + (i : Nat) = ((k + i : Nat) : Int) from (Int.natCast_add k i).symm]
      generalize ls[k + i] = x at hx hx2
      have hat := at_map V.int hx
      have hfl : (L.map V.int).all flatV = true := by
        rw [List.all_map]
        exact List.all_eq_true.mpr fun _ _ => rfl
      refine ⟨_, rfl, pL, _, rfl, .inl (SqL.of gL), _, _, rfl, rfl, ?_⟩
      rw [List.length_map]
      by_cases h1 : 1 < L.length
      case neg =>
        refine ⟨false, bl_of (decide_eq_false (by omega)), ?_⟩
        exact ⟨L, pL, _, rfl, t, gL, hLl, hL.stay hx2 fun z => h1 z.1⟩
      refine ⟨true, bl_of (decide_eq_true (by omega)), ?_⟩
      refine ⟨_, rfl, _, rfl, b, _, _, _, rfl, rfl, t.seq hB, hat, _, rfl, pL, _, rfl, .inl (SqL.of gL), rfl, hfl, ?_⟩
      rw [inV_int]
      by_cases hm : x ∈ L
      case neg =>
        refine ⟨false, bl_of (decide_eq_false hm), ?_⟩
        exact ⟨L, pL, _, rfl, t, gL, hLl, hL.stay hx2 fun z => hm z.2⟩
      refine ⟨true, bl_of (decide_eq_true hm), ?_⟩
      refine ⟨_, rfl, pL, rfl, ⟨_, SqL.of gL⟩, fun D nD => lc_fl (neF x) nD (SqL.of gL) (small1000 (by rw [List.length_map]; omega)) (fun j v H'' ex s k1 k0 h1 h0 => ?_) (fun H2 t2 g2 => ?_)⟩
      · obtain ⟨y, rfl⟩ : ∃ y, v = V.int y := by
          rw [List.getElem?_map] at ex
          obtain ⟨y, _, e⟩ := Option.map_eq_some_iff.mp ex
          exact ⟨y, e.symm⟩
        refine ⟨rfl, _, rfl, _, rfl, _, rfl, b, _, _, _, rfl, rfl, (t.trans s).seq hB, hat, rfl, ?_⟩
        by_cases hy : V.int y = V.int x
        · exact ⟨false, bl_of (by rw [decide_eq_true hy]; rfl), h0 _ (if_pos hy) (Same.refl _)⟩
        · exact ⟨true, bl_of (by rw [decide_eq_false hy]; rfl), _, rfl, h1 _ _ (if_neg hy) (Same.refl _)⟩
      · rw [neV] at g2
        exact ⟨rmv L x, D, _, rfl, t.trans t2, g2, Nat.le_trans (List.length_filter_le _ _) hLl, hL.strike hx2 h1 hm⟩
    · obtain ⟨L, pL, v4, rfl, t, gL, hLl, hL⟩ := h
      refine ⟨_, rfl, pL, L, rfl, SqL.of gL, List.length_pos_iff.mpr hL.ne, fun m hm hle => q _ m t ?_⟩
      rw [show ls.length - k = (ls.drop k).length from List.length_drop.symm] at hL
      exact hL.done hm hle

def spDrawn (K : PySem.W.Frag) : Sp := fun vs H Q _ => ∃ (a b : Addr) (cs ls : List Int) (rm : Nat) (way : Int), vs = [.ref a, .ref b, .int (rm : Nat), .int way] ∧ SqL K H a (cs.map V.int) ∧ SqL K H b (ls.map V.int) ∧ cs.length = ls.length ∧ ls.length ≤ 900 ∧ 0 < rm ∧
  ∀ (H' : Hp) (n : Nat), Same H H' → Cost rm [] ls n → Q (.int (n : Nat)) H'
abbrev s__law_drawn_missed : Stmt := top 20
abbrev N__law_drawn_missed : List Str := ["_law_cells", "_law_lines", "_law_room", "_law_way", "_law_near", "_law_many", "_law_k", "_law_cell", "_law_goes_here", "_law_line"]
theorem S__law_drawn_missed : FnScope N__law_drawn_missed ["_law_cells", "_law_lines", "_law_room", "_law_way"] (defScope s__law_drawn_missed) := ⟨rfl, rfl, rfl, by decide +kernel, rfl, by decide +kernel, by decide +kernel⟩

theorem c_drawn (T : Txt K w mg) (D : DefAt K "_law_drawn_missed" s__law_drawn_missed) (C__law_mixed : Cal P w K mg base CX0 1 "_law_mixed" spMixed) : Cal P w K mg base CX0 2 "_law_drawn_missed" (spDrawn K) := by
  have S := S__law_drawn_missed
  refine cal_of T.toTop D S (fun _ _ _ _ _ _ us hl => match us, hl with | [_, _, _, _], _ => rfl) (fun vs H Q E h => ?_) (fun f cdv A outer s H vs Q E hr h => ?_)
  · obtain ⟨a, b, cs, ls, rm, way, rfl, _⟩ := h
    rfl
  · obtain ⟨a, b, cs, ls, rm, way, rfl, hA, hB, hcl, hll, hrm, q⟩ := h
    refine ⟨_, (pss_cons (ps_set (i := 4) S.nd rfl (Or.inl rfl) (pe_lst pa_nil))
  (pss_cons (ps_set (i := 5) S.nd rfl (Or.inl rfl) pe_int)
  (pss_cons (ps_for PassesOwn.never rfl (pi_range1 rfl T.range (pa_cons (pe_callB call_len_seq (by rfl) T.len PySem.boot_len (pa_cons (pv 1) pa_nil)) pa_nil)) (pg_name (i := 6) S.nd rfl (Or.inl rfl))
  (pss_one (ps_if (pt_cmpR op_notIn_seq (pe_ix ix_list (pv 1) (pv 6) (fun _ _ => rfl)) (pv 4) (by with_unfolding_all rfl)) (pss_cons (ps_set (i := 5) S.nd rfl (Or.inl rfl) (pe_op op_add (pv 5) pe_int))
  (pss_cons (ps_if (pt_cmpR op_eq (pe_callB call_len_seq (by rfl) T.len PySem.boot_len (pa_cons (pv 4) pa_nil)) (pv 2) (nomark _)) (pss_cons (ps_set (i := 7) S.nd rfl (Or.inl rfl) (pe_ix ix_list (pv 0) (pe_op op_sub (pe_op op_sub (pe_callB call_len_seq (by rfl) T.len PySem.boot_len (pa_cons (pv 0) pa_nil)) pe_int) (pv 6)) (fun _ _ => rfl)))
  (pss_cons (ps_set (i := 7) S.nd rfl (Or.inl rfl) (pe_ix ix_list (pe_lst (pa_cons (pv 7) (pa_cons (pe_c C__law_mixed hr (by decide) rfl (pa_cons (pv 7) pa_nil)) (pa_cons pe_int (pa_cons (pe_op op_fdiv (pv 7) pe_int) pa_nil))))) (pe_op op_mod (pv 3) pe_int) (fun _ _ => rfl)))
  (pss_cons (ps_set (i := 8) S.nd rfl (Or.inr rfl) (pe_ix ix_list (pv 4) (pe_op op_mod (pv 7) (pe_callB call_len_seq (by rfl) T.len PySem.boot_len (pa_cons (pv 4) pa_nil))) (fun _ _ => rfl)))
  (pss_one (ps_setLc (i := 4) (own := [("_law_line", 9)]) (g := gName 9)  rfl S.nd rfl rfl (sw_true rfl rfl rfl (by decide +kernel)) (pi_list (pv 4)) (blkOk_by (own := [("_law_line", 9)]) (N := N__law_drawn_missed) (sc := defScope s__law_drawn_missed) (by decide +kernel)) (fun _ _ _ _ _ => pg_name (i := 9) S.nd rfl (Or.inl rfl)) (fun _ _ _ _ _ => pts_one (pt_cmpR op_ne (pv 9) (pv 8) (nomark _))) (fun _ _ _ _ _ => (pv 9))))))) pss_nil)
  (pss_one (ps_set (i := 4) S.nd rfl (Or.inl rfl) (pe_op op_cat (pv 4) (pe_lst (pa_cons (pe_ix ix_list (pv 1) (pv 6) (fun _ _ => rfl)) pa_nil))))))) pss_nil)))
  (pss_one (ps_ret (pv 5)))))), ?_⟩
    refine ⟨sz_ok rfl, fun p0 n0 => ?_⟩
    have s0 : Same H (upd H p0 (.lst [])) := Same.new n0
    have g0 : upd H p0 (.lst []) p0 = some (.lst (([] : List Int).map V.int)) := upd_same
    generalize upd H p0 (.lst []) = H0 at s0 g0
    refine ⟨_, rfl, b, _, rfl, .inl (s0.seq hB), _, rfl, by omega, by rw [List.length_map]; omega, for_range (n := (ls.map V.int).length) (fun i σ H' => ∃ (pn : Addr) (S : List Int) (n : Nat) (v6 v7 v8 : Option V), σ = [some (.ref a), some (.ref b), some (.int (rm : Nat)), some (.int way), some (.ref pn), some (.int (n : Nat)), v6, v7, v8, none] ∧ Same H H' ∧
      H' pn = some (.lst (S.map V.int)) ∧ S.Nodup ∧ S.length ≤ rm ∧ S.length ≤ i ∧ ∀ n', Cost rm S (ls.drop i) n' → Cost rm [] ls (n + n')) ⟨p0, [], 0, none, none, none, rfl, s0, g0, List.nodup_nil, Nat.zero_le _, Nat.zero_le _, fun n' c => by rw [Nat.zero_add]; exact c⟩ (fun i σ H' hi h => ?_) (fun σ H' h => ?_)⟩
    · obtain ⟨pn, S0, n, v6, v7, v8, rfl, t, gn, hnd, hlr, hli, hC⟩ := h
      rw [List.length_map] at hi
      have hx : ls[i]? = some ls[i] := List.getElem?_eq_getElem hi
      have hci : i < cs.length := by omega
      generalize ls[i] = x at hx
      have hlat : atI (ls.map V.int) (0 + (i : Int)) = some (.int x) := at_map0 V.int hx
      rw [drop_at hx] at hC
      have hfl : (S0.map V.int).all flatV = true := by
        rw [List.all_map]
        exact List.all_eq_true.mpr fun _ _ => rfl
      refine ⟨_, rfl, _, rfl, b, _, _, _, rfl, rfl, t.seq hB, hlat, _, rfl, pn, _, rfl, .inl (SqL.of gn), rfl, hfl, ?_⟩
      rw [inV_int]
      by_cases hm : x ∈ S0
      · refine ⟨false, bl_of (by rw [decide_eq_true hm]; rfl), ?_⟩
        exact ⟨pn, S0, n, _, _, _, rfl, t, gn, hnd, hlr, by omega, fun n' c => hC _ (.hit hm c)⟩
      · refine ⟨true, bl_of (by rw [decide_eq_false hm]; rfl), ?_⟩
        refine ⟨_, rfl, _, _, rfl, rfl, ?_⟩
        refine ⟨_, rfl, pn, _, rfl, .inl (SqL.of gn), _, rfl, rfl, ?_⟩
        rw [List.length_map]
        by_cases hf : S0.length = rm
        case' neg =>
          refine ⟨false, bl_of (decide_eq_false (fun z => hf (by have := V.int.inj z; omega))), ?_⟩
          obtain ⟨S', D, H2, hH, hD, hS', hnx, hnd', hlt', hli', hC'⟩ : ∃ (S' : List Int) (D : Addr) (H2 : Hp), H' = H2 ∧ pn = D ∧ S0 = S' ∧ x ∉ S' ∧ S'.Nodup ∧ S'.length < rm ∧ S'.length ≤ i ∧ ∀ n', Cost rm (S' ++ [x]) (ls.drop (i + 1)) n' → Cost rm [] ls (n + 1 + n') :=
            ⟨S0, pn, H', rfl, rfl, rfl, hm, hnd, by omega, hli, fun n' c => by
              have := hC _ (.add hm (by omega) (cost_perm c (perm_snoc x S0).symm))
              rw [show n + 1 + n' = n + (n' + 1) by omega]
              exact this⟩
          subst hH hD
          have g2 := gn
          rw [hS'] at g2
          have t02 := t
        case' pos =>
          refine ⟨true, bl_of (decide_eq_true (by rw [hf])), ?_⟩
          have hcat : atI (cs.map V.int) ((((cs.map V.int).length : Nat) : Int) - 1 - (0 + (i : Int))) = some (.int (cs[cs.length - 1 - i]'(by omega))) := by
            rw [List.length_map, show ((cs.length : Nat) : Int) - 1 - (0 + (i : Int)) = ((cs.length - 1 - i : Nat) : Int) by omega]
            exact at_map V.int (List.getElem?_eq_getElem (by omega))
          refine ⟨_, rfl, _, rfl, a, _, rfl, .inl (t.seq hA), _, _, rfl, rfl, _, rfl, _, _, rfl, rfl, a, _, _, _, rfl, rfl, t.seq hA, hcat, ?_⟩
          generalize cs[cs.length - 1 - i]'(by omega) = c
          refine ⟨_, rfl, _, rfl, c, rfl, _, rfl, _, _, rfl, rfl, ⟨by decide, by decide⟩, sz_ok rfl, fun p5 n5 => ?_⟩
          generalize e5 : upd H' p5 _ = H5
          have t5 : Same H' H5 := e5 ▸ Same.new n5
          have g5 : H5 p5 = some (.lst (([c, mixed c, 0, c / 3] : List Int).map V.int)) := e5 ▸ upd_same
          clear e5
          have gn5 := t5 _ _ gn
          refine ⟨_, rfl, _, _, rfl, rfl, (by show (0 : Int) < 4; decide), p5, _, _, _, rfl, rfl, SqL.of g5, at_ints_mod (ns := [c, mixed c, 0, c / 3]) way (by decide) rfl, ?_⟩
          generalize ([c, mixed c, 0, c / 3] : List Int).getD (way % 4).toNat 0 = c2
          refine ⟨_, rfl, _, rfl, _, rfl, pn, _, rfl, .inl (SqL.of gn5), _, _, rfl, rfl, ?_⟩
          rw [List.length_map]
          refine ⟨by omega, pn, _, _, _, rfl, rfl, SqL.of gn5, at_ints_mod (ns := S0) c2 (by omega) rfl, ?_⟩
          have hw : S0.getD (c2 % ((S0.length : Nat) : Int)).toNat 0 ∈ S0 := by
            have h1 := mod_nn c2 (n := ((S0.length : Nat) : Int)) (by omega)
            have h2 := mod_lt c2 (n := ((S0.length : Nat) : Int)) (by omega)
            rw [List.getD_eq_getElem?_getD, List.getElem?_eq_getElem (by omega)]
            exact List.getElem_mem _
          generalize S0.getD (c2 % ((S0.length : Nat) : Int)).toNat 0 = w at hw
          refine ⟨_, rfl, pn, rfl, ⟨_, SqL.of gn5⟩, fun D nD => lc_fl (neF w) nD (SqL.of gn5) (small1000 (by rw [List.length_map]; omega)) (fun j v H'' ex s k1 k0 h1 h0 => ?_) (fun H2 t2 g2 => ?_)⟩
          · obtain ⟨y, rfl⟩ : ∃ y, v = V.int y := by
              rw [List.getElem?_map] at ex
              obtain ⟨y, _, e⟩ := Option.map_eq_some_iff.mp ex
              exact ⟨y, e.symm⟩
            refine ⟨rfl, _, rfl, _, rfl, rfl, ?_⟩
            by_cases hy : V.int y = V.int w
            · exact ⟨false, bl_of (by rw [decide_eq_true hy]; rfl), h0 _ (if_pos hy) (Same.refl _)⟩
            · exact ⟨true, bl_of (by rw [decide_eq_false hy]; rfl), _, rfl, h1 _ _ (if_neg hy) (Same.refl _)⟩
          rw [neV] at g2
          have t02 := (t.trans t5).trans t2
          have hrl := rmv_len hnd hw
          obtain ⟨S', hS', hnx, hnd', hlt', hli', hC'⟩ : ∃ (S' : List Int), S0.filter (fun y => y != w) = S' ∧ x ∉ S' ∧ S'.Nodup ∧ S'.length < rm ∧ S'.length ≤ i ∧ ∀ n', Cost rm (S' ++ [x]) (ls.drop (i + 1)) n' → Cost rm [] ls (n + 1 + n') :=
            ⟨rmv S0 w, rfl, fun z => hm (rmv_mem.mp z).1, rmv_nd hnd, by omega, by omega, fun n' c => by
              have h1 := cost_perm c (perm_snoc x (rmv S0 w)).symm
              rw [rmv_erase hnd] at h1
              have := hC _ (.evict hm hf hw h1)
              rw [show n + 1 + n' = n + (n' + 1) by omega]
              exact this⟩
          rw [hS'] at g2
        all_goals
          refine ⟨_, rfl, _, rfl, _, rfl, b, _, _, _, rfl, rfl, t02.seq hB, hlat, sz_ok rfl, fun p3 n3 => ?_⟩
          generalize e3 : upd _ p3 _ = H3
          have g3 : H3 p3 = some (.lst [.int x]) := e3 ▸ upd_same
          have t03 : Same H H3 := e3 ▸ t02.trans (Same.new n3)
          have g23 := (e3 ▸ Same.new n3 : Same _ H3) _ _ g2
          clear e3
          refine ⟨_, p3, _, _, rfl, rfl, g23, g3, Nat.le_trans (by rw [List.length_map, List.length_singleton]; show _ ≤ 1000; omega) (by decide), fun p4 n4 => ?_⟩
          rw [show S'.map V.int ++ [V.int x] = (S' ++ [x]).map V.int by rw [List.map_append]; rfl]
          exact ⟨p4, S' ++ [x], n + 1, _, _, _, rfl, t03.trans (Same.new n4), upd_same, nd_snoc hnx hnd', by rw [List.length_append, List.length_singleton]; omega, by rw [List.length_append, List.length_singleton]; omega, hC'⟩
    · obtain ⟨pn, S0, n, v6, v7, v8, rfl, t, gn, hnd, hlr, hli, hC⟩ := h
      rw [List.length_map, List.drop_length] at hC
      exact ⟨_, rfl, q _ n t (hC 0 .nil)⟩

-- SPLIT
theorem BelG.walk {rm : Nat} {S r : List Int} {gs : List (Option Int)} {n : Nat} (b : BelG rm S r gs n) : ∀ n0, walkP ((rm : Nat) : Int) S n0 (r.zip gs) = some (n0 + n) := by
  induction b with
  | nil => exact fun n0 => rfl
  | @hit S r gs x n hx _ ih =>
    intro n0
    have h1 : okGo S ((rm : Nat) : Int) x none = true := if_neg fun z => z.1 hx
    have h2 : nearGo S x none = S := if_pos hx
    show (if okGo S ((rm : Nat) : Int) x none = true then _ else _) = _
    rw [if_pos h1, h2, if_pos hx]
    exact ih n0
  | @add S r gs x n hx hl _ ih =>
    intro n0
    have h1 : okGo S ((rm : Nat) : Int) x none = true := if_neg fun z => by have := z.2; omega
    have h2 : nearGo S x none = S ++ [x] := if_neg hx
    show (if okGo S ((rm : Nat) : Int) x none = true then _ else _) = _
    rw [if_pos h1, h2, if_neg hx]
    refine (ih (n0 + 1)).trans ?_
    congr 1
    omega
  | @evict S r gs x w n hx hl hv _ ih =>
    intro n0
    have h1 : okGo S ((rm : Nat) : Int) x (some w) = true := (if_pos ⟨hx, by rw [hl]⟩).trans (decide_eq_true hv.1)
    have h2 : nearGo S x (some w) = rmv S w ++ [x] := if_neg fun z => hx (rmv_mem.mp z).1
    show (if okGo S ((rm : Nat) : Int) x (some w) = true then _ else _) = _
    rw [if_pos h1, h2, if_neg hx]
    refine (ih (n0 + 1)).trans ?_
    congr 1
    omega
theorem BelG.res {rm : Nat} {ls : List Int} {gs : List (Option Int)} {n : Nat} (b : BelG rm [] ls gs n) : resP ((rm : Nat) : Int) ls gs = some n := by
  have := b.walk 0
  rw [Nat.zero_add] at this
  exact (if_pos b.len).trans this
/-- behind the plan -/
structure K14m (H : Hp) (rm : Nat) (wd : Int) (us : List V) (ts : List (Str × Int)) (ls cs : List Int) (gs : List (Option Int)) (n : Nat) (pc pt pl pg pp : Addr) : Prop where
  gc : H pc = some (.lst (cs.map V.int))
  gt : H pt = some (.lst us)
  gl : H pl = some (.lst (ls.map V.int))
  el : linesOf wd ts = ls
  ll : ls.length = ts.length
  gg : H pg = some (.lst us)
  gp : H pp = some (.lst (gs.map oiV))
  T : TsAt H us ts
  r0 : 0 < rm
  w0 : 0 < wd
  w1 : wd < 1073741824
  tl : ts.length ≤ 63
  cl : cs.length = ts.length
  rw_ : ∀ t ∈ ts, RW t
  bel : BelG rm [] ls gs n
theorem K14m.same {H H' : Hp} {rm : Nat} {wd : Int} {us : List V} {ts : List (Str × Int)} {ls cs : List Int} {gs : List (Option Int)} {n : Nat} {pc pt pl pg pp : Addr} (m : K14m H rm wd us ts ls cs gs n pc pt pl pg pp) (s : Same H H') : K14m H' rm wd us ts ls cs gs n pc pt pl pg pp :=
  ⟨s _ _ m.gc, s _ _ m.gt, s _ _ m.gl, m.el, m.ll, s _ _ m.gg, s _ _ m.gp, m.T.same s, m.r0, m.w0, m.w1, m.tl, m.cl, m.rw_, m.bel⟩
abbrev s_law : Stmt := top 22
abbrev N_law : List Str := ["_law_script", "_law_first", "_law_room", "_law_width", "_law_cells", "_law_touches", "_law_lines", "_law_given", "_law_plan", "_law_near", "_law_many", "_law_k", "_law_due", "_law_missed", "_law_drawn", "_law_touch", "_law_line"]
theorem S_law : FnScope N_law ["_law_script"] (defScope s_law) := ⟨rfl, rfl, rfl, by decide +kernel, rfl, by decide +kernel, by decide +kernel⟩

abbrev st14 (a : Addr) (c : Int) (rm : Nat) (wd : Int) (pc pt pl pg pp : Addr) (v9 v10 v11 v12 v13 v14 : Option V) : L2.St := [some (.ref a), some (.int c), some (.int (rm : Nat)), some (.int wd), some (.ref pc), some (.ref pt), some (.ref pl), some (.ref pg), some (.ref pp), v9, v10, v11, v12, v13, v14, none, none]
theorem ok_law {c Pt : Addr} (T : Txt K w mg) (D : DefAt K "law" s_law) (c_cell : ∀ base, Cal P w K mg base CX0 1 "_law_cell_at" (spCellAt K)) (c_mix : ∀ base, Cal P w K mg base CX0 1 "_law_mixed" spMixed) (c_tb : ∀ base, Cal P w K mg base CX0 2 "_law_touches_by" (spTouchesBy K))
    (c_wh : ∀ base, Cal P w K mg base CX0 1 "_law_whole" (spWhole K)) (c_wk : ∀ base, Cal P w K mg base (L2.CX P w) 3 "walked" (spWalked K C4)) (c_go : ∀ base, Cal P w K mg base CX0 1 "_law_goes" (spGoes K)) (c_dr : ∀ base, Cal P w K mg base CX0 2 "_law_drawn_missed" (spDrawn K))
    (c_be : ∀ base, TabB base mg c Pt → Cal P w K mg base CX0 6 "best" (spBest K Pt)) : LawOkT P w K mg c Pt 7 := by
  have S := S_law
  refine law_ofT T.toTop D S (fun _ _ _ _ _ _ _ => rfl) (fun base TB f cdv A outer s H a ns Q E hr hS hlen hPt q => ?_)
  have C__law_cell_at := c_cell base
  have C__law_mixed := c_mix base
  have C__law_touches_by := c_tb base
  have C__law_whole := c_wh base
  have C_walked := c_wk base
  have C__law_goes := c_go base
  have C__law_drawn_missed := c_dr base
  have C_best := c_be base TB
  have hu64 := hu64_of hr
  refine ⟨_, (pss_cons (ps_set (i := 1) S.nd rfl (Or.inl rfl) (pe_c C__law_cell_at hr (by decide) rfl (pa_cons (pv 0) (pa_cons pe_int pa_nil))))
  (pss_cons (ps_set (i := 2) S.nd rfl (Or.inl rfl) (pe_ix ix_list (pe_lst (pa_cons (pe_op op_add pe_int (pe_op op_mod (pe_op op_fdiv (pv 1) pe_int) pe_int)) (pa_cons (pe_op op_add pe_int (pe_op op_mod (pe_op op_fdiv (pv 1) pe_int) pe_int)) (pa_cons (pe_op op_add pe_int (pe_op op_mod (pe_op op_fdiv (pv 1) pe_int) pe_int)) (pa_cons pe_int pa_nil))))) (pe_op op_mod (pv 1) pe_int) (fun _ _ => rfl)))
  (pss_cons (ps_set (i := 3) S.nd rfl (Or.inr rfl) (pe_ix ix_list (pe_lst (pa_cons pe_int (pa_cons pe_int (pa_cons (pe_op op_add pe_int (pe_op op_mod (pe_op op_fdiv (pv 1) pe_int) pe_int)) (pa_cons (pe_op op_add pe_int (pe_op op_mod (pe_op op_fdiv (pv 1) pe_int) pe_int)) pa_nil))))) (pe_op op_mod (pe_c C__law_mixed hr (by decide) rfl (pa_cons (pv 1) pa_nil)) pe_int) (fun _ _ => rfl)))
  (pss_cons (ps_set (i := 4) S.nd rfl (Or.inl rfl) (pe_slice sl_list (pv 0) (po_some pe_int) po_none))
  (pss_cons (ps_set (i := 5) S.nd rfl (Or.inl rfl) (pe_c C__law_touches_by hr (by decide) rfl (pa_cons (pv 4) pa_nil)))
  (pss_cons (ps_setLc (i := 6) (own := [("_law_touch", 15)]) (g := gName 15) (tt := tYes) rfl S.nd rfl rfl (sw_true rfl rfl rfl (by decide +kernel)) (pi_list (pv 5)) (blkOk_by (own := [("_law_touch", 15)]) (N := N_law) (sc := defScope s_law) (by decide +kernel)) (fun _ _ _ _ _ => pg_name (i := 15) S.nd rfl (Or.inl rfl)) (fun _ _ _ _ _ => pts_nil) (fun _ _ _ _ _ => (pe_op op_fdiv (pe_ix (r := rIxT K) ix_tup (pv 15) pe_int (fun _ _ => rfl)) (pv 3))))
  (pss_cons (ps_set (i := 7) S.nd rfl (Or.inl rfl) (pe_callTy call_list_of (by rfl) T.list (by decide +kernel) (pa_cons (pv 5) pa_nil)))
  (pss_cons (ps_set (i := 8) S.nd rfl (Or.inl rfl) (pe_c C_best hr (by decide) rfl (pa_cons (pv 7) (pa_cons (pv 2) (pa_cons (pv 3) pa_nil)))))
  (pss_cut (D := { nx := fun _ H' => Q .non H', rt := Q }) (P := fun σ H' => ∃ (c wd : Int) (rm n : Nat) (us : List V) (ts : List (Str × Int)) (ls cs : List Int) (gs : List (Option Int)) (pc pt pl pg pp : Addr), σ = st14 a c rm wd pc pt pl pg pp none none none none none none ∧ SqL K H' a (ns.map V.int) ∧ K14m H' rm wd us ts ls cs gs n pc pt pl pg pp) ?tail))))))))), ?_⟩
  case tail =>
    refine ⟨_, (pss_cons (ps_if (PW.pt (pw_or (pt_not (pt_val (pe_callB call_isi (by rfl) T.isinstance (by decide +kernel) (pa_cons (pv 8) (pa_cons ((pe_bltn (v := .ty "list") (u := .type "list") rfl T.list (by decide +kernel) rfl)) pa_nil))))) (pw_or (pt_cmpR op_ne (pe_callB call_len_seq (by rfl) T.len PySem.boot_len (pa_cons (pv 8) pa_nil)) (pe_callB call_len_seq (by rfl) T.len PySem.boot_len (pa_cons (pv 6) pa_nil)) (nomark _)) (pw_or1 (pt_cmpR (op_neD hu64) (pv 7) (pv 5) (nomark _)))))) (pss_one (ps_ret pe_bl)) pss_nil)
  (pss_cons (ps_set (i := 9) S.nd rfl (Or.inl rfl) (pe_lst pa_nil))
  (pss_cons (ps_set (i := 10) S.nd rfl (Or.inl rfl) pe_int)
  (pss_cons (ps_for PassesOwn.never rfl (pi_range1 rfl T.range (pa_cons (pe_callB call_len_seq (by rfl) T.len PySem.boot_len (pa_cons (pv 6) pa_nil)) pa_nil)) (pg_name (i := 11) S.nd rfl (Or.inl rfl))
  (pss_cons (ps_set (i := 12) S.nd rfl (Or.inr rfl) pe_non)
  (pss_cons (ps_if (pt_cmpR op_notIn_seq (pe_ix ix_list (pv 6) (pv 11) (fun _ _ => rfl)) (pv 9) (by with_unfolding_all rfl)) (pss_cons (ps_set (i := 10) S.nd rfl (Or.inl rfl) (pe_op op_add (pv 10) pe_int))
  (pss_cons (ps_if (pt_cmpR op_eq (pe_callB call_len_seq (by rfl) T.len PySem.boot_len (pa_cons (pv 9) pa_nil)) (pv 2) (nomark _)) (pss_cons (ps_set (i := 12) S.nd rfl (Or.inr rfl) (pe_c C__law_goes hr (by decide) rfl (pa_cons (pv 9) (pa_cons (pv 6) (pa_cons (pe_op op_add (pv 11) pe_int) pa_nil)))))
  (pss_one (ps_setLc (i := 9) (own := [("_law_line", 16)]) (g := gName 16)  rfl S.nd rfl rfl (sw_true rfl rfl rfl (by decide +kernel)) (pi_list (pv 9)) (blkOk_by (own := [("_law_line", 16)]) (N := N_law) (sc := defScope s_law) (by decide +kernel)) (fun _ _ _ _ _ => pg_name (i := 16) S.nd rfl (Or.inl rfl)) (fun _ _ _ _ _ => pts_one (pt_cmpR op_ne (pv 16) (pv 12) (nomark _))) (fun _ _ _ _ _ => (pv 16))))) pss_nil)
  (pss_one (ps_set (i := 9) S.nd rfl (Or.inl rfl) (pe_op op_cat (pv 9) (pe_lst (pa_cons (pe_ix ix_list (pv 6) (pv 11) (fun _ _ => rfl)) pa_nil))))))) pss_nil)
  (pss_cons (ps_if (PW.pt (pw_and (pt_cmpR op_isN (pv 12) pe_non (nomark _)) (pw_and1 (pt_cmpR op_notN (pe_ix ix_list (pv 8) (pv 11) (fun _ _ => rfl)) pe_non (nomark _))))) (pss_one (ps_ret pe_bl)) pss_nil)
  (pss_one (ps_if (PW.pt (pw_and (pt_cmpR op_notN (pv 12) pe_non (nomark _)) (pw_and1 (PW.pt (pw_or (pt_not (pt_val (pe_c C__law_whole hr (by decide) rfl (pa_cons (pe_ix ix_list (pv 8) (pv 11) (fun _ _ => rfl)) pa_nil)))) (pw_or1 (pt_cmpR op_ne (pe_ix ix_list (pv 8) (pv 11) (fun _ _ => rfl)) (pv 12) (nomark _)))))))) (pss_one (ps_ret pe_bl)) pss_nil))))))
  (pss_cons (ps_set (i := 13) S.nd rfl (Or.inl rfl) (pe_c0 C_walked hr (by decide) rfl (pa_cons (pe_callTy call_list_of (by rfl) T.list (by decide +kernel) (pa_cons (pv 5) pa_nil)) (pa_cons (pv 2) (pa_cons (pv 3) (pa_cons (pe_callTy call_list_of (by rfl) T.list (by decide +kernel) (pa_cons (pv 8) pa_nil)) pa_nil))))))
  (pss_cons (ps_set (i := 14) S.nd rfl (Or.inl rfl) (pe_c C__law_drawn_missed hr (by decide) rfl (pa_cons (pv 4) (pa_cons (pv 6) (pa_cons (pv 2) (pa_cons (pe_c C__law_cell_at hr (by decide) rfl (pa_cons (pv 0) (pa_cons pe_int pa_nil))) pa_nil))))))
  (pss_one (ps_ret (pe_and (pe_c C__law_whole hr (by decide) rfl (pa_cons (pv 13) pa_nil)) (pe_and (pe_cmpR op_eq (pv 13) (pv 10) (nomark _)) (pe_one (pe_cmpR op_le (pv 10) (pv 14) (nomark _))))))))))))), fun σ H1 h => ?_⟩
    obtain ⟨c, wd, rm, n, us, ts, ls, cs, gs, pc, pt, pl, pg, pp, rfl, hS1, m⟩ := h
    have hul := m.T.1
    have hll := m.ll
    have hgl := m.bel.len
    have htl := m.tl
    have hcl := m.cl
    have hrm := m.r0
    have hsh := (tsl_ok m.rw_).shaped (by decide)
    refine ⟨_, rfl, _, _, _, _, _, rfl, .ty _, ty_l (SqL.of m.gp), kit_ty (r := true) (by decide +kernel), _, rfl, ?_⟩
    refine ⟨_, rfl, pp, _, rfl, .inl (SqL.of m.gp), _, rfl, pl, _, rfl, .inl (SqL.of m.gl), rfl, false, bl_of ?_, ?_⟩
    · rw [List.length_map, List.length_map, hgl, decide_eq_true rfl]
      rfl
    refine ⟨_, rfl, _, rfl, _, _, .lst (SqL.of m.gg) m.T.dp, .lst (SqL.of m.gt) m.T.dp, hsh, hsh, false, bl_of (by rw [eqv_same hsh]; rfl), ?_⟩
    refine ⟨sz_ok rfl, fun p0 n0 => ?_⟩
    have m0 := m.same (Same.new (o := .lst []) n0)
    have hS0 := (Same.new (o := .lst []) n0).seq hS1
    have g0 : upd H1 p0 (.lst []) p0 = some (.lst (([] : List Int).map V.int)) := upd_same
    generalize upd H1 p0 (.lst []) = H0 at m0 g0 hS0
    refine ⟨_, rfl, pl, _, rfl, .inl (SqL.of m0.gl), _, rfl, by omega, by rw [List.length_map]; omega, for_range (n := (ls.map V.int).length) (fun i σ H' => ∃ (pn : Addr) (S : List Int) (k n' : Nat) (v11 v12 : Option V), σ = st14 a c rm wd pc pt pl pg pp (some (.ref pn)) (some (.int (k : Nat))) v11 v12 none none ∧ SqL K H' a (ns.map V.int) ∧ K14m H' rm wd us ts ls cs gs n pc pt pl pg pp ∧ H' pn = some (.lst (S.map V.int)) ∧ S.Nodup ∧ S.length ≤ rm ∧ S.length ≤ i ∧ BelG rm S (ls.drop i) (gs.drop i) n' ∧ n = k + n')
      ⟨p0, [], 0, n, none, none, rfl, hS0, m0, g0, List.nodup_nil, Nat.zero_le _, Nat.zero_le _, m.bel, (Nat.zero_add n).symm⟩ (fun i σ H' hi h => ?_) (fun σ H' h => ?_)⟩
    · obtain ⟨pn, S0, k, n', v11, v12, rfl, hS', mm, gn, hnd, hlr, hli, hB, hn⟩ := h
      rw [List.length_map] at hi
      have hx : ls[i]? = some ls[i] := List.getElem?_eq_getElem hi
      generalize ls[i] = x at hx
      have hlat : atI (ls.map V.int) (i : Nat) = some (.int x) := at_map V.int hx
      rw [drop_at hx] at hB
      obtain ⟨g, gs', hgs, hcase⟩ := hB.step
      have hgi : gs[i]? = some g := by
        have := congrArg (fun l : List (Option Int) => l[0]?) hgs
        simpa using this
      have hgs' : gs.drop (i + 1) = gs' := by
        have := congrArg List.tail hgs
        simpa [List.tail_drop] using this
      have hgat : atI (gs.map oiV) (i : Nat) = some (oiV g) := at_map oiV hgi
      have hfl : (S0.map V.int).all flatV = true := by
        rw [List.all_map]
        exact List.all_eq_true.mpr fun _ _ => rfl
      dsimp only
      rw [Int.zero_add]
      refine ⟨_, rfl, _, rfl, pl, _, _, _, rfl, rfl, SqL.of mm.gl, hlat, _, rfl, pn, _, rfl, .inl (SqL.of gn), rfl, hfl, ?_⟩
      rw [inV_int]
      rcases hcase with ⟨hin, hg, b⟩ | ⟨hni, hlt, hg, n'', hn', b⟩ | ⟨hni, hf, w, n'', hg, hv, hn', b⟩
      case inr.inr =>
        subst hg
        refine ⟨true, bl_of (by rw [decide_eq_false hni]; rfl), ?_⟩
        refine ⟨_, rfl, _, _, rfl, rfl, ?_⟩
        refine ⟨_, rfl, pn, _, rfl, .inl (SqL.of gn), _, rfl, rfl, ?_⟩
        rw [List.length_map]
        refine ⟨true, bl_of (decide_eq_true (by rw [hf])), ?_⟩
        refine ⟨_, rfl, _, rfl, _, rfl, _, _, rfl, rfl, pn, pl, S0, ls, i + 1, rfl, SqL.of gn, SqL.of mm.gl, hnd, (fun z => by rw [z] at hf; simp at hf; omega), by omega, by omega, by omega, fun H2 z t2 hz => ?_⟩
        obtain rfl := hv.unique hz
        have gn2 := t2 _ _ gn
        refine ⟨_, rfl, pn, rfl, ⟨_, SqL.of gn2⟩, fun D nD => lc_fl (neF w) nD (SqL.of gn2) (small1000 (by rw [List.length_map]; omega)) (fun j v H'' ex s k1 k0 h1 h0 => ?_) (fun H3 t3 g3 => ?_)⟩
        · obtain ⟨y, rfl⟩ : ∃ y, v = V.int y := by
            rw [List.getElem?_map] at ex
            obtain ⟨y, _, e⟩ := Option.map_eq_some_iff.mp ex
            exact ⟨y, e.symm⟩
          refine ⟨rfl, _, rfl, _, rfl, rfl, ?_⟩
          by_cases hy : V.int y = V.int w
          · exact ⟨false, bl_of (by rw [decide_eq_true hy]; rfl), h0 _ (if_pos hy) (Same.refl _)⟩
          · exact ⟨true, bl_of (by rw [decide_eq_false hy]; rfl), _, rfl, h1 _ _ (if_neg hy) (Same.refl _)⟩
        rw [neV] at g3
        have hrl := rmv_len hnd hv.1
        have t23 := t2.trans t3
        have m3 := mm.same t23
        refine ⟨_, rfl, _, rfl, _, rfl, pl, _, _, _, rfl, rfl, SqL.of m3.gl, hlat, sz_ok rfl, fun p3 n3 => ?_⟩
        generalize e4 : upd H3 p3 _ = H4
        have g4 : H4 p3 = some (.lst [.int x]) := e4 ▸ upd_same
        have t4 : Same H3 H4 := e4 ▸ Same.new n3
        clear e4
        have hrl2 : (S0.filter (fun y => y != w)).length + 1 = S0.length := hrl
        refine ⟨D, p3, _, _, rfl, rfl, t4 _ _ g3, g4, Nat.le_trans (by rw [List.length_map, List.length_singleton]; show _ ≤ 1000; omega) (by decide), fun p4 n4 => ?_⟩
        rw [show (S0.filter (fun y => y != w)).map V.int ++ [V.int x] = (rmv S0 w ++ [x]).map V.int by rw [List.map_append]; rfl]
        have t25 := (t23.trans t4).trans (Same.new (o := .lst ((rmv S0 w ++ [x]).map V.int)) n4)
        have g5 : upd H4 p4 (.lst ((rmv S0 w ++ [x]).map V.int)) p4 = some (.lst ((rmv S0 w ++ [x]).map V.int)) := upd_same
        generalize upd H4 p4 (.lst ((rmv S0 w ++ [x]).map V.int)) = H5 at t25 g5
        have m5 := mm.same t25
        refine ⟨_, rfl, rfl, false, rfl, ?_⟩
        refine ⟨_, rfl, rfl, true, rfl, ?_⟩
        refine ⟨_, rfl, _, rfl, pp, _, _, _, rfl, rfl, SqL.of m5.gp, hgat, .int w, "int", rfl, .base (.int _), by decide +kernel, by decide +kernel, _, rfl, ?_⟩
        refine ⟨_, rfl, _, rfl, pp, _, _, _, rfl, rfl, SqL.of m5.gp, hgat, _, rfl, rfl, false, bl_of ?_, ?_⟩
        · show (!decide (V.int w = V.int w)) = false
          rw [decide_eq_true rfl]
          rfl
        exact ⟨p4, rmv S0 w ++ [x], k + 1, n'', _, _, rfl, t25.seq hS', m5, g5, nd_snoc (fun z => hni (rmv_mem.mp z).1) (rmv_nd hnd), by rw [List.length_append, List.length_singleton]; omega, by rw [List.length_append, List.length_singleton]; omega, by rw [hgs']; exact b, by omega⟩
      case inl =>
        subst hg
        refine ⟨false, bl_of (by rw [decide_eq_true hin]; rfl), ?_⟩
        refine ⟨_, rfl, rfl, true, rfl, ?_⟩
        refine ⟨_, rfl, _, rfl, pp, _, _, _, rfl, rfl, SqL.of mm.gp, hgat, rfl, false, rfl, ?_⟩
        refine ⟨_, rfl, rfl, false, rfl, ?_⟩
        exact ⟨pn, S0, k, n', _, _, rfl, hS', mm, gn, hnd, hlr, by omega, by rw [hgs']; exact b, hn⟩
      case inr.inl =>
        subst hg
        refine ⟨true, bl_of (by rw [decide_eq_false hni]; rfl), ?_⟩
        refine ⟨_, rfl, _, _, rfl, rfl, ?_⟩
        refine ⟨_, rfl, pn, _, rfl, .inl (SqL.of gn), _, rfl, rfl, ?_⟩
        rw [List.length_map]
        refine ⟨false, bl_of (decide_eq_false (fun z => by have := V.int.inj z; omega)), ?_⟩
        refine ⟨_, rfl, _, rfl, _, rfl, pl, _, _, _, rfl, rfl, SqL.of mm.gl, hlat, sz_ok rfl, fun p3 n3 => ?_⟩
        generalize e4 : upd H' p3 _ = H4
        have g4 : H4 p3 = some (.lst [.int x]) := e4 ▸ upd_same
        have t4 : Same H' H4 := e4 ▸ Same.new n3
        clear e4
        refine ⟨pn, p3, _, _, rfl, rfl, t4 _ _ gn, g4, Nat.le_trans (by rw [List.length_map, List.length_singleton]; show _ ≤ 1000; omega) (by decide), fun p4 n4 => ?_⟩
        rw [show S0.map V.int ++ [V.int x] = (S0 ++ [x]).map V.int by rw [List.map_append]; rfl]
        have t5 := t4.trans (Same.new (o := .lst ((S0 ++ [x]).map V.int)) n4)
        have g5 : upd H4 p4 (.lst ((S0 ++ [x]).map V.int)) p4 = some (.lst ((S0 ++ [x]).map V.int)) := upd_same
        generalize upd H4 p4 (.lst ((S0 ++ [x]).map V.int)) = H5 at t5 g5
        have m5 := mm.same t5
        refine ⟨_, rfl, rfl, true, rfl, ?_⟩
        refine ⟨_, rfl, _, rfl, pp, _, _, _, rfl, rfl, SqL.of m5.gp, hgat, rfl, false, rfl, ?_⟩
        refine ⟨_, rfl, rfl, false, rfl, ?_⟩
        exact ⟨p4, S0 ++ [x], k + 1, n'', _, _, rfl, t5.seq hS', m5, g5, nd_snoc hni hnd, by rw [List.length_append, List.length_singleton]; omega, by rw [List.length_append, List.length_singleton]; omega, by rw [hgs']; exact b, by omega⟩
    · obtain ⟨pn, S0, k, n', v11, v12, rfl, hS', mm, gn, hnd, hlr, hli, hB, hn⟩ := h
      rw [List.length_map, List.drop_length] at hB
      have hn0 : n' = 0 := by
        generalize gs.drop ls.length = gg at hB
        cases hB
        rfl
      obtain rfl : n = k := by omega
      refine ⟨_, rfl, pt, _, rfl, .inl (SqL.of mm.gt), fun pA nA => ?_⟩
      have m1 := mm.same (Same.new (o := .lst us) nA)
      have s1 := (Same.new (o := .lst us) nA).seq hS'
      have gA : upd H' pA (.lst us) pA = some (.lst us) := upd_same
      generalize upd H' pA (.lst us) = H2 at m1 s1 gA
      refine ⟨_, rfl, _, rfl, _, rfl, pp, _, rfl, .inl (SqL.of m1.gp), fun pB nB => ?_⟩
      have m2 := m1.same (Same.new (o := .lst (gs.map oiV)) nB)
      have s2 := (Same.new (o := .lst (gs.map oiV)) nB).seq s1
      have gA2 := Same.new (o := .lst (gs.map oiV)) nB _ _ gA
      have gB : upd H2 pB (.lst (gs.map oiV)) pB = some (.lst (gs.map oiV)) := upd_same
      generalize upd H2 pB (.lst (gs.map oiV)) = H3 at m2 s2 gA2 gB
      refine ⟨pA, pB, us, ts, wd, ((rm : Nat) : Int), gs, rfl, SqL.of gA2, m2.T, m2.w0, m2.w1, by omega, SqL.of gB, by omega, fun n2 hn2 H4 t4 => ?_, fun hno => ?_⟩
      case refine_2 =>
        rw [m.el, m.bel.res] at hno
        cases hno
      rw [m.el, m.bel.res] at hn2
      cases hn2
      have m4 := m2.same t4
      have s4 := t4.seq s2
      refine ⟨_, rfl, _, rfl, _, rfl, _, rfl, a, ns, 1, rfl, s4, by decide, pc, pl, cs, ls, rm, _, rfl, SqL.of m4.gc, SqL.of m4.gl, by omega, by omega, hrm, fun H5 dm t5 hC => ?_⟩
      have hle := bel_le (m.bel.bel List.nodup_nil) List.nodup_nil (Nat.zero_le _) hC
      refine ⟨_, rfl, _, "int", rfl, .base (.int _), by decide +kernel, by decide +kernel, true, bl_of rfl, ?_⟩
      refine (if_pos rfl).mpr ?_
      refine ⟨_, rfl, _, rfl, rfl, true, bl_of (decide_eq_true rfl), ?_⟩
      refine (if_pos rfl).mpr ?_
      refine ⟨_, rfl, _, rfl, _, _, rfl, rfl, ?_⟩
      show Q (V.bl (decide (((n : Nat) : Int) ≤ ((dm : Nat) : Int)))) H5
      rw [decide_eq_true (by omega)]
      exact q _
  refine ⟨_, rfl, a, ns, 0, rfl, hS, by decide, ?_⟩
  generalize cellAt ns 0 = c
  refine ⟨_, rfl, _, _, rfl, rfl, ⟨by decide, by decide⟩, _, _, rfl, rfl, (by show (0 : Int) < 5; decide), _, _, rfl, rfl, ?_⟩
  refine ⟨_, rfl, _, _, rfl, rfl, ⟨by decide, by decide⟩, _, _, rfl, rfl, (by show (0 : Int) < 14; decide), _, _, rfl, rfl, ?_⟩
  refine ⟨_, rfl, _, _, rfl, rfl, ⟨by decide, by decide⟩, _, _, rfl, rfl, (by show (0 : Int) < 3; decide), _, _, rfl, rfl, sz_ok rfl, fun p1 n1 => ?_⟩
  generalize e1 : upd H p1 _ = H1
  have t1 : Same H H1 := e1 ▸ Same.new n1
  have g1 : H1 p1 = some (.lst (([1 + c / 4 % 5, 1 + c / 4 % 14, 1 + c / 4 % 3, 2] : List Int).map V.int)) := e1 ▸ upd_same
  clear e1
  obtain ⟨rm, hroom, r0⟩ : ∃ m : Nat, ([1 + c / 4 % 5, 1 + c / 4 % 14, 1 + c / 4 % 3, 2] : List Int).getD (c % 4).toNat 0 = (m : Int) ∧ 0 < m := by
    have h : (c % 4).toNat = 0 ∨ (c % 4).toNat = 1 ∨ (c % 4).toNat = 2 ∨ (c % 4).toNat = 3 := by omega
    have up : ∀ i : Int, 0 < i → ∃ m : Nat, i = (m : Int) ∧ 0 < m := fun i hi => ⟨i.toNat, by omega, by omega⟩
    rcases h with h | h | h | h <;> rw [h]
    · exact up (1 + c / 4 % 5) (by omega)
    · exact up (1 + c / 4 % 14) (by omega)
    · exact up (1 + c / 4 % 3) (by omega)
    · exact up 2 (by decide)
  refine ⟨_, rfl, _, _, rfl, rfl, (by show (0 : Int) < 4; decide), p1, _, _, _, rfl, rfl, SqL.of g1, at_ints_mod (ns := [1 + c / 4 % 5, 1 + c / 4 % 14, 1 + c / 4 % 3, 2]) c (by decide) rfl, ?_⟩
  rw [hroom]
  refine ⟨_, rfl, _, _, rfl, rfl, ⟨by decide, by decide⟩, _, _, rfl, rfl, (by show (0 : Int) < 4; decide), _, _, rfl, rfl, ?_⟩
  refine ⟨_, rfl, _, _, rfl, rfl, ⟨by decide, by decide⟩, _, _, rfl, rfl, (by show (0 : Int) < 200; decide), _, _, rfl, rfl, sz_ok rfl, fun p2 n2 => ?_⟩
  generalize e2 : upd H1 p2 _ = H2
  have t2 : Same H1 H2 := e2 ▸ Same.new n2
  have g2 : H2 p2 = some (.lst (([1, 2, 1 + c / 56 % 4, 1 + c / 56 % 200] : List Int).map V.int)) := e2 ▸ upd_same
  clear e2
  obtain ⟨wd, hwd, w0, w1⟩ : ∃ wd : Int, ([1, 2, 1 + c / 56 % 4, 1 + c / 56 % 200] : List Int).getD (mixed c % 4).toNat 0 = wd ∧ 0 < wd ∧ wd < 1073741824 := by
    have h : (mixed c % 4).toNat = 0 ∨ (mixed c % 4).toNat = 1 ∨ (mixed c % 4).toNat = 2 ∨ (mixed c % 4).toNat = 3 := by omega
    rcases h with h | h | h | h <;> rw [h]
    · exact ⟨1, rfl, by decide, by decide⟩
    · exact ⟨2, rfl, by decide, by decide⟩
    · exact ⟨1 + c / 56 % 4, rfl, by omega, by omega⟩
    · exact ⟨1 + c / 56 % 200, rfl, by omega, by omega⟩
  refine ⟨_, rfl, _, rfl, _, _, rfl, rfl, (by show (0 : Int) < 4; decide), p2, _, _, _, rfl, rfl, SqL.of g2, at_ints_mod (ns := [1, 2, 1 + c / 56 % 4, 1 + c / 56 % 200]) (mixed c) (by decide) rfl, ?_⟩
  rw [hwd]
  have s2 := t1.trans t2
  obtain ⟨cs, ecs, hcl⟩ := cutV_int ns (some 2) none
  refine ⟨_, rfl, _, rfl, a, _, rfl, s2.seq hS, fun pc nc => ?_⟩
  rw [ecs]
  have t3 : Same H2 (upd H2 pc (.lst (cs.map V.int))) := Same.new nc
  have g3 : upd H2 pc (.lst (cs.map V.int)) pc = some (.lst (cs.map V.int)) := upd_same
  generalize upd H2 pc (.lst (cs.map V.int)) = H3 at t3 g3
  refine ⟨_, rfl, pc, cs, rfl, SqL.of g3, by omega, fun H4 pt us ts t4 gt hT htl hall => ?_⟩
  have gc4 := t4 _ _ g3
  have s4 := (s2.trans t3).trans t4
  have hul := hT.1
  have hrw : ∀ t ∈ ts, RW t := fun t ht => (hall t ht).1
  refine ⟨_, rfl, pt, rfl, ⟨_, SqL.of gt⟩, fun pl npl => lc_fi (fun i => ((linesOf wd ts)[i]?).bind fun x => some (V.int x)) npl (SqL.of gt) (small1000 (by omega)) (fun i x H' ex s k1 k0 k h0' => ?_) (fun H5 t5 gl => ?_)⟩
  · have hi : i < ts.length := by
      obtain ⟨hi, _⟩ := List.getElem?_eq_some_iff.mp ex
      omega
    obtain ⟨q1, e1, e2⟩ := hT.2 i _ (List.getElem?_eq_getElem hi)
    rw [ex] at e1
    cases e1
    refine ⟨rfl, _, rfl, q1, _, _, _, rfl, rfl, SqT.of (s _ _ e2), at_in (by decide) rfl, _, rfl, _, _, rfl, rfl, ⟨w0, w1⟩, ?_⟩
    exact k _ _ (by unfold linesOf; rw [List.getElem?_map, List.getElem?_eq_getElem hi]; rfl) (Same.refl _)
  have hll : (linesOf wd ts).length = ts.length := by unfold linesOf; rw [List.length_map]
  rw [range_ints _ _ (by rw [hll]; exact hT.1)] at gl
  have gt5 := t5 _ _ gt
  have gc5 := t5 _ _ gc4
  have hT5 := hT.same t5
  have s5 := s4.trans t5
  refine ⟨_, rfl, pt, _, rfl, .inl (SqL.of gt5), fun pg npg => ?_⟩
  have t6 : Same H5 (upd H5 pg (.lst us)) := Same.new npg
  have g6 : upd H5 pg (.lst us) pg = some (.lst us) := upd_same
  generalize upd H5 pg (.lst us) = H6 at t6 g6
  have s6 := s5.trans t6
  have hTb : Tabs (tabsT Pt) H6 := fun p hp => by
    rw [List.mem_singleton.mp hp]
    exact TabS.nil (s6 _ _ hPt)
  refine ⟨_, rfl, _, rfl, _, rfl, pg, us, ts, wd, rm, rfl, SqL.of g6, hT5.same t6, w0, w1, by omega, r0, hTb, fun H7 pp gs n e7 npp gp hB => ?_⟩
  refine ⟨rfl, c, wd, rm, n, us, ts, linesOf wd ts, cs, gs, pc, pt, pl, pg, pp, rfl, extN_seq e7 (s6.seq hS), ⟨extN_lst e7 (t6 _ _ gc5), extN_lst e7 (t6 _ _ gt5), extN_lst e7 (t6 _ _ gl), rfl, hll, extN_lst e7 g6, gp, ⟨hul, fun j t e => ?_⟩, r0, w0, w1, by omega, by omega, hrw, hB⟩⟩
  obtain ⟨q1, e1, e2⟩ := (hT5.same t6).2 j t e
  exact ⟨q1, e1, e7 _ _ e2 (fun ps z => by cases z)⟩

-- SPLIT
theorem k14_all {C4 c0 P0 : Addr} (T : Top K mg)
    (D_line_of : DefAt K "line_of" s_line_of)
    (D_lines_of : DefAt K "lines_of" s_lines_of)
    (D_is_any_whole : DefAt K "is_any_whole" s_is_any_whole)
    (D_walked : DefAt K "walked" s_walked)
    (D_best : DefAt K "best" s_best)
    (D_one_must_go : DefAt K "_one_must_go" s__one_must_go)
    (D_check_step : DefAt K "_check_step" s__check_step)
    (D_next_places : DefAt K "_next_places" s__next_places)
    (D_law_cell_at : DefAt K "_law_cell_at" s__law_cell_at)
    (D_law_whole : DefAt K "_law_whole" s__law_whole)
    (D_law_mixed : DefAt K "_law_mixed" s__law_mixed)
    (D_law_touches_by : DefAt K "_law_touches_by" s__law_touches_by)
    (D_law_drawn_missed : DefAt K "_law_drawn_missed" s__law_drawn_missed)
    (D_law_goes : DefAt K "_law_goes" s__law_goes)
    (D_law : DefAt K "law" s_law)
    (m_len : PySem.W.nsIn K mainGlobals "len" = some none)
    (m_range : PySem.W.nsIn K mainGlobals "range" = some none)
    (m_isinstance : PySem.W.nsIn K mainGlobals "isinstance" = some none)
    (m_int : PySem.W.nsIn K mainGlobals "int" = some none)
    (m_list : PySem.W.nsIn K mainGlobals "list" = some none)
    (m_bool : PySem.W.nsIn K mainGlobals "bool" = some none)
    (m_zip : PySem.W.nsIn K mainGlobals "zip" = some none)
    (m_min : PySem.W.nsIn K mainGlobals "min" = some none)
    (m_reversed : PySem.W.nsIn K mainGlobals "reversed" = some none)
    (gB_BadPlan : PySem.W.nsIn K mainGlobals "BadPlan" = some (some (.ref C4)))
    (xB_BadPlan : PySem.W.excIn K C4 [.type "ValueError", .type "Exception", .type "BaseException", .type "object"] "ValueError.__new__" = true)
    (kB_BadPlan : PySem.W.keepIn K (.ref C4) = true)
    (bB_BadPlan : PySem.W.subIn K (.ref C4) (.type "BaseException") = some true)
    (tB_BadPlan : PySem.W.typeIn K (.ref C4) = some (.type "type"))
    (D_touched_last : DefC K "_touched_last" s__touched_last c0)
    (tA : TabAt K c0 P0) : ∃ c P1, PySem.W.tabIn K "_touched_last" = some (c, P1) ∧ K.lookup P1 = none ∧ LawOkT P w K mg c P1 7 := by
  have X : Txt K w mg := ⟨T, T.none m_len, T.none m_range, T.none m_isinstance, T.none m_int, T.none m_list, T.none m_bool, T.none m_zip, T.none m_min, T.none m_reversed⟩
  have xB : ExcT K mg "BadPlan" C4 := ⟨T.of gB_BadPlan, xB_BadPlan, kB_BadPlan, bB_BadPlan, tB_BadPlan⟩
  have c1 := fun base => c_cell_at (P := P) (base := base) X D_law_cell_at
  have c2 := fun base => c_mixed (P := P) (base := base) X D_law_mixed
  have c3 := fun base => c_touches_by (P := P) (base := base) X D_law_touches_by (c2 base)
  have c4 := fun base => c_line_of (P := P) (base := base) X D_line_of
  have c5 := fun base => c_lines_of (P := P) (base := base) X D_lines_of (c4 base)
  have c6 := fun base => c_any_whole (P := P) (base := base) X D_is_any_whole
  have c7 := fun base => c_one_must_go (P := P) (base := base) X D_one_must_go
  have c8 := fun base => c_check_step (P := P) (base := base) X xB D_check_step (c7 base) (c6 base)
  have c9 := fun base => c_walked (P := P) (base := base) X xB D_walked (c5 base) (c8 base)
  have c10 := fun base => c_next_places (P := P) (base := base) X D_next_places
  have c11 := fun base (TB : LamX.TabB base mg c0 P0) => c_touched_last (P := P) (base := base) X TB D_touched_last
  have c12 := fun base (TB : LamX.TabB base mg c0 P0) => c_best (P := P) (base := base) X D_best (c5 base) (c10 base) (c7 base) (c11 base TB)
  have c13 := fun base => c_whole (P := P) (base := base) X D_law_whole
  have c14 := fun base => c_goes (P := P) (base := base) X D_law_goes
  have c15 := fun base => c_drawn (P := P) (base := base) X D_law_drawn_missed (c2 base)
  exact ⟨c0, P0, tabIn_of D_touched_last tA, let ⟨_, _, _, _, _, _, n⟩ := tA; n, ok_law X D_law c1 c2 c3 c13 c9 c14 c15 c12⟩
end
end Nl
open PySem PySem.W PyProof.Rows in
set_option maxRecDepth 100000 in
set_option maxHeartbeats 0 in
theorem PySem.Challenge.cw_nearlines_k14_whole_no_plan_misses_fewer_holds : PySem.Challenge.rw_nearlines_k14_whole_no_plan_misses_fewer.Holds := by
  w_on; o_law; k_head; (case hw => w_witness2)
  k_fill
  refine Nl.walk_endT (l := PySem.Challenge.rw_nearlines_k14_whole_no_plan_misses_fewer) 7 "_touched_last" rfl rfl ⟨rfl, by decide, by decide⟩ rfl (by decide +kernel) (fun w h Y => PySem.W.km_in_of Y) fun w mg T => ?F
  case F =>
    refine' Nl.k14_all T ?D_line_of ?D_lines_of ?D_is_any_whole ?D_walked ?D_best ?D_one_must_go ?D_check_step ?D_next_places ?D_law_cell_at ?D_law_whole ?D_law_mixed ?D_law_touches_by ?D_law_drawn_missed ?D_law_goes ?D_law ?m_len ?m_range ?m_isinstance ?m_int ?m_list ?m_bool ?m_zip ?m_min ?m_reversed ?gB_BadPlan ?xB_BadPlan ?kB_BadPlan ?bB_BadPlan ?tB_BadPlan ?D_touched_last ?tA
    (case D_line_of => (refine' Nl.def_mk ?a ?l ?c ?k; (case a => k_is); (case l => k_is); (case c => k_is); (case k => k_is)))
    (case D_lines_of => (refine' Nl.def_mk ?a ?l ?c ?k; (case a => k_is); (case l => k_is); (case c => k_is); (case k => k_is)))
    (case D_is_any_whole => (refine' Nl.def_mk ?a ?l ?c ?k; (case a => k_is); (case l => k_is); (case c => k_is); (case k => k_is)))
    (case D_walked => (refine' Nl.def_mk ?a ?l ?c ?k; (case a => k_is); (case l => k_is); (case c => k_is); (case k => k_is)))
    (case D_best => (refine' Nl.def_mk ?a ?l ?c ?k; (case a => k_is); (case l => k_is); (case c => k_is); (case k => k_is)))
    (case D_one_must_go => (refine' Nl.def_mk ?a ?l ?c ?k; (case a => k_is); (case l => k_is); (case c => k_is); (case k => k_is)))
    (case D_check_step => (refine' Nl.def_mk ?a ?l ?c ?k; (case a => k_is); (case l => k_is); (case c => k_is); (case k => k_is)))
    (case D_next_places => (refine' Nl.def_mk ?a ?l ?c ?k; (case a => k_is); (case l => k_is); (case c => k_is); (case k => k_is)))
    (case D_law_cell_at => (refine' Nl.def_mk ?a ?l ?c ?k; (case a => k_is); (case l => k_is); (case c => k_is); (case k => k_is)))
    (case D_law_whole => (refine' Nl.def_mk ?a ?l ?c ?k; (case a => k_is); (case l => k_is); (case c => k_is); (case k => k_is)))
    (case D_law_mixed => (refine' Nl.def_mk ?a ?l ?c ?k; (case a => k_is); (case l => k_is); (case c => k_is); (case k => k_is)))
    (case D_law_touches_by => (refine' Nl.def_mk ?a ?l ?c ?k; (case a => k_is); (case l => k_is); (case c => k_is); (case k => k_is)))
    (case D_law_drawn_missed => (refine' Nl.def_mk ?a ?l ?c ?k; (case a => k_is); (case l => k_is); (case c => k_is); (case k => k_is)))
    (case D_law_goes => (refine' Nl.def_mk ?a ?l ?c ?k; (case a => k_is); (case l => k_is); (case c => k_is); (case k => k_is)))
    (case D_law => (refine' Nl.def_mk ?a ?l ?c ?k; (case a => k_is); (case l => k_is); (case c => k_is); (case k => k_is)))
    (case m_len => k_is)
    (case m_range => k_is)
    (case m_isinstance => k_is)
    (case m_int => k_is)
    (case m_list => k_is)
    (case m_bool => k_is)
    (case m_zip => k_is)
    (case m_min => k_is)
    (case m_reversed => k_is)
    (case gB_BadPlan => k_is)
    (case xB_BadPlan => k_exc)
    (case kB_BadPlan => k_is)
    (case bB_BadPlan => k_is)
    (case tB_BadPlan => k_is)
    (case D_touched_last => (refine' Nl.defC_mk ?a ?l ?e ?k; (case a => k_is); (case l => k_is); (case e => k_is); (case k => k_is)))
    (case tA => (refine' Nl.tabAt_mk ?a ?b ?n; (case a => k_is); (case b => rfl); (case n => kernel_rfl)))

