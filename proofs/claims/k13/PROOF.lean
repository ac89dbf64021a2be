import PyProof.Rows.All
import Wide.All
import OpenK.AllK
import Wide.FinOn
import HandS.ForMost
import HandS.Codes
import HandS.Exc
import HandS.ExcOwn
import HandS.TryOnly
import HandS.WordsExc
import HandS.IsInst
import HandS.RaiseMore
import HandS.Small
import HandS.FStr
import HandS.Star
import HandS.TupAny
import HandS.Deep
import HandS.Zip
import HandS.Conv
import HandS.HotCalls
import HandS.StrMore
import HandS.Flow
import KE.KUnpackStar
import HandS.ExcIs
import HandS.SetFor
import HandS.Replace
import PyProof.RulesMatch
import PyProof.RulesMatchSeq
import PyProof.Rows.MatchSeqLen
import HandS.Strs
import PySem.Challenge.RW_nearlines_k13_plans_walked
set_option Elab.async false
set_option linter.all false
set_option maxRecDepth 100000
/-! the layer of our own over the hand layer -/
namespace Nl
open PySem PySem.Spec PyProof.Rows L2

/-! ### a def of the top, as it stands -/
def DefAt (K : PySem.W.Frag) (x : Str) (st : Stmt) : Prop :=
  ∃ (f : Addr) (oc : Value) (od an : Option Addr) (osl : Array (Option Value)) (kV doc pm cdv ct : Value),
    PySem.W.nsIn K mainGlobals x = some (some (.ref f)) ∧
    K.lookup f = some ⟨oc, od, .func (PySem.W.fnOf x x (defArgs st) (defBody st) (defScope st) .none kV doc pm an cdv ct), osl⟩ ∧
    PySem.W.codeIn K cdv x = true ∧ PySem.W.keepIn K (.ref f) = true
theorem def_mk {K : PySem.W.Frag} {x : Str} {st : Stmt} {f : Addr} {oc : Value} {od an : Option Addr} {osl : Array (Option Value)} {kV doc pm cdv ct : Value} (a : PySem.W.nsIn K mainGlobals x = some (some (.ref f)))
    (l : K.lookup f = some ⟨oc, od, .func (PySem.W.fnOf x x (defArgs st) (defBody st) (defScope st) .none kV doc pm an cdv ct), osl⟩) (c : PySem.W.codeIn K cdv x = true) (k : PySem.W.keepIn K (.ref f) = true) : DefAt K x st :=
  ⟨f, oc, od, an, osl, kV, doc, pm, cdv, ct, a, l, c, k⟩
/-- the module's names, as the top leaves them -/
structure Top (K : PySem.W.Frag) (mg : Str → Option Value) : Prop where
  ex : ∃ (h : Heap), K.In h ∧ h.Ns mainGlobals mg
theorem Top.of {K : PySem.W.Frag} {mg : Str → Option Value} (T : Top K mg) {x : Str} {v : Value} (a : PySem.W.nsIn K mainGlobals x = some (some v)) : mg x = some v := by
  obtain ⟨h, X, G⟩ := T.ex
  exact PySem.W.mg_of X G a
theorem Top.none {K : PySem.W.Frag} {mg : Str → Option Value} (T : Top K mg) {x : Str} (a : PySem.W.nsIn K mainGlobals x = some Option.none) : mg x = Option.none := by
  obtain ⟨h, X, G⟩ := T.ex
  exact PySem.W.mg_none_of X G a

section
variable {P : Program} {w : World} {K : PySem.W.Frag} {mg : Str → Option Value} {base : Heap}
abbrev BindOk (x : Str) (st : Stmt) (ps : List Str) : Prop := ∀ (kV doc pm : Value) (an : Option Addr) (cdv ct : Value) (us : List Value), us.length = ps.length →
  bindArgs (PySem.W.fnOf x x (defArgs st) (defBody st) (defScope st) .none kV doc pm an cdv ct) ⟨us, []⟩ = pure (ps.zip us)
/-- a def called by its name keeps sp -/
structure Cal (P : Program) (w : World) (K : PySem.W.Frag) (mg : Str → Option Value) (base : Heap) (CX : CXT) (k : Nat) (x : Str) (sp : Sp) : Prop where
  ex : ∃ (f : Addr) (fd : FuncData) (ps : List Str), FnOk P w K mg base CX k f fd ps sp ∧ mg x = some (.ref f) ∧ PySem.W.keepIn K (.ref f) = true ∧ Binds K fd ps []
theorem Cal.mono {CX : CXT} {j k : Nat} {x : Str} {sp : Sp} (c : Cal P w K mg base CX j x sp) (h : j ≤ k) : Cal P w K mg base CX k x sp := by
  obtain ⟨f, fd, ps, F, r⟩ := c.ex
  exact ⟨f, fd, ps, F.mono h, r⟩
/-- a def that lets no error out -/
theorem cal_of {x : Str} {st : Stmt} {N ps : List Str} {k : Nat} {sp : Sp} (T : Top K mg) (D : DefAt K x st) (S : FnScope N ps (defScope st)) (b : BindOk x st ps) (len : ∀ vs H Q E, sp vs H Q E → vs.length = ps.length)
    (hbody : ∀ (f : Addr) (cdv : Value) (A : Around) (outer : List Env) (s : Shared) (H : Hp) (vs : List V) (Q : VK) (E : XK), Room k (A.deeper (envOfC x (defScope st) s.heap.objs.size f cdv)) → sp vs H Q E →
      ∃ t, PSs (cxOf CX0 P w K mg base N x (defScope st) f cdv A outer s H E).nox (defBody st) t ∧ t { nx := fun _ H' => Q .non H', rt := Q } (start N vs) H) : Cal P w K mg base CX0 (k + 1) x sp := by
  obtain ⟨f, oc, od, an, osl, kV, doc, pm, cdv, ct, a, l, c, kp⟩ := D
  have F := fun_mk (st := st) l c kp
  exact ⟨f, _, ps, F.ok S len (fun cdv A outer s H vs Q E hr h => hbody f cdv A outer s H vs Q E hr h), T.of a, kp, F.binds b⟩
/-- .. that may raise -/
theorem cal_ofX {x : Str} {st : Stmt} {N ps : List Str} {k : Nat} {sp : Sp} (T : Top K mg) (D : DefAt K x st) (S : FnScope N ps (defScope st)) (b : BindOk x st ps) (len : ∀ vs H Q E, sp vs H Q E → vs.length = ps.length)
    (hbody : ∀ (f : Addr) (cdv : Value) (A : Around) (outer : List Env) (s : Shared) (H : Hp) (vs : List V) (Q : VK) (E : XK), Room k (A.deeper (envOfC x (defScope st) s.heap.objs.size f cdv)) → sp vs H Q E →
      ∃ t, PSs (cxOf (L2.CX P w) P w K mg base N x (defScope st) f cdv A outer s H E) (defBody st) t ∧ t { nx := fun _ H' => Q .non H', rt := Q } (start N vs) H) : Cal P w K mg base (L2.CX P w) (k + 1) x sp := by
  obtain ⟨f, oc, od, an, osl, kV, doc, pm, cdv, ct, a, l, c, kp⟩ := D
  have F := fun_mk (st := st) l c kp
  exact ⟨f, _, ps, F.okX S len (fun cdv A outer s H vs Q E hr h => hbody f cdv A outer s H vs Q E hr h), T.of a, kp, F.binds b⟩
end
section
variable {X : Cx} {k j : Nat} {x : Str} {sp : Sp} {p pos : Pos} {e : Expr} {es : List Expr} {t : TA}
/-- f(..), f lets no error out -/
theorem pe_c (c : Cal X.prog X.w X.K X.mg X.base CX0 k x sp) (hr : Room j X.A) (hk : k ≤ j) (hg : Gl X x) (ha : PA X (e :: es) t)
    (hdb : (x == ("__debug__" : Str)) = false := by decide) (he : starEach (e :: es) X.env = (false, eval e X.env) :: starEach es X.env := by rfl) (hpl : (backTo pos (starEach es X.env)).any (·.1) = false := by rfl) :
    PE X (.Call (.Name x p) (e :: es) [] pos) (tCall sp [] E0 t) := by
  obtain ⟨f, fd, ps, F, hm, kp, b⟩ := c.ex
  exact pe_call F (hr.mono hk) hg hm kp b .nil pass0 ha hdb he hpl
/-- f(..), f may raise: what is raised is wished for by W -/
theorem pe_cx {W : WX} (c : Cal X.prog X.w X.K X.mg X.base (L2.CX X.prog X.w) k x sp) (tk : Takes X W) (hr : Room j X.A) (hk : k ≤ j) (hg : Gl X x) (ha : PA X (e :: es) t)
    (hdb : (x == ("__debug__" : Str)) = false := by decide) (he : starEach (e :: es) X.env = (false, eval e X.env) :: starEach es X.env := by rfl) (hpl : (backTo pos (starEach es X.env)).any (·.1) = false := by rfl) :
    PE X (.Call (.Name x p) (e :: es) [] pos) (tCallS sp (WE W) t) := by
  obtain ⟨f, fd, ps, F, hm, kp, b⟩ := c.ex
  exact pe_callS F (hr.mono hk) hg hm kp b (fun σ => passAt tk σ) ha hdb he hpl
/-- .. where it does not raise -/
theorem pe_c0 (c : Cal X.prog X.w X.K X.mg X.base (L2.CX X.prog X.w) k x sp) (hr : Room j X.A) (hk : k ≤ j) (hg : Gl X x) (ha : PA X (e :: es) t)
    (hdb : (x == ("__debug__" : Str)) = false := by decide) (he : starEach (e :: es) X.env = (false, eval e X.env) :: starEach es X.env := by rfl) (hpl : (backTo pos (starEach es X.env)).any (·.1) = false := by rfl) :
    PE X (.Call (.Name x p) (e :: es) [] pos) (tCall sp [] E0 t) := by
  obtain ⟨f, fd, ps, F, hm, kp, b⟩ := c.ex
  exact pe_call F (hr.mono hk) hg hm kp b .nil passL ha hdb he hpl
end

/-! ### places -/
theorem at_in {α : Type} {xs : List α} {i : Int} {v : α} (h0 : 0 ≤ i) (h : xs[i.toNat]? = some v) : atI xs i = some v := by
  have e : i = ((i.toNat : Nat) : Int) := (Int.toNat_of_nonneg h0).symm
  rw [e]
  exact atI_nat (by simpa using h)
theorem at_getD {α : Type} {xs : List α} {i : Int} {d : α} (h0 : 0 ≤ i) (h : i < xs.length) : atI xs i = some (xs.getD i.toNat d) := by
  refine at_in h0 ?_
  have : i.toNat < xs.length := by omega
  rw [List.getD_eq_getElem?_getD, List.getElem?_eq_getElem this]; rfl
theorem at_ints {ns : List Int} {i : Int} (h0 : 0 ≤ i) (h : i < ns.length) : atI (ns.map V.int) i = some (.int (ns.getD i.toNat 0)) := by
  refine at_in h0 ?_
  have : i.toNat < ns.length := by omega
  rw [List.getElem?_map, List.getD_eq_getElem?_getD, List.getElem?_eq_getElem this]; rfl
theorem at_strs {ns : List Str} {i : Int} (h0 : 0 ≤ i) (h : i < ns.length) : atI (ns.map V.str) i = some (.str (ns.getD i.toNat Str.empty)) := by
  refine at_in h0 ?_
  have : i.toNat < ns.length := by omega
  rw [List.getElem?_map, List.getD_eq_getElem?_getD, List.getElem?_eq_getElem this]; rfl
theorem mod_nn (c : Int) {n : Int} (h : 0 < n) : 0 ≤ c % n := Int.emod_nonneg c (by omega)
theorem mod_lt (c : Int) {n : Int} (h : 0 < n) : c % n < n := Int.emod_lt_of_pos c h
theorem at_ints_mod {ns : List Int} (c : Int) {n : Int} (h : 0 < n) (e : (ns.length : Int) = n) : atI (ns.map V.int) (c % n) = some (.int (ns.getD (c % n).toNat 0)) :=
  at_ints (mod_nn c h) (by rw [e]; exact mod_lt c h)
theorem at_strs_mod {ns : List Str} (c : Int) {n : Int} (h : 0 < n) (e : (ns.length : Int) = n) : atI (ns.map V.str) (c % n) = some (.str (ns.getD (c % n).toNat Str.empty)) :=
  at_strs (mod_nn c h) (by rw [e]; exact mod_lt c h)
theorem _root_.L2.Same.sqt {K : PySem.W.Frag} {H H' : Hp} {a : Addr} {xs : List V} (e : Same H H') (h : SqT K H a xs) : SqT K H' a xs := by
  rcases h with (h | ⟨o, h⟩) | h
  · exact .inl (.inl (e _ _ h))
  · exact .inl (.inr ⟨o, e _ _ h⟩)
  · exact .inr h
theorem _root_.L2.Same.new {H : Hp} {p : Addr} {o : HO} (h : H p = none) : Same H (upd H p o) := fun a u e => by
  rw [upd_ne (ne_of_none e h)]
  exact e
theorem _root_.L2.Same.more {H0 H : Hp} {p : Addr} {o : HO} (s : Same H0 H) (h : H p = none) : Same H0 (upd H p o) := s.trans (Same.new h)
/-- an object that H0 does not know changes -/
theorem _root_.L2.Same.mut {H0 H : Hp} {p : Addr} {o : HO} (s : Same H0 H) (h : H0 p = none) : Same H0 (upd H p o) := fun a u e => by
  rw [upd_ne (ne_of_none e h)]
  exact s a u e
/-! ### comprehensions whose elements leave the tracked things as they are -/
/-- the new list keeps: at its address D what is made so far -/
theorem lc_gen {J : It} {g : TG} {tt : TT} {te : TE} {vs : List Nat} {σ : L2.St} {H1 : Hp} {D : Addr} {Qd : Hp → Prop} (n : Nat) (R : Nat → V → Hp → Prop) (fs : Nat → Option V) (hD : H1 D = none) (hz : n < sizeLine)
    (go : ∀ i H, i < n → Same H1 H → J.go i H) (stop : ∀ H, Same H1 H → J.stop n H) (yld : ∀ i H x H', i < n → Same H1 H → J.yld i H x H' → Same H H' ∧ R i x H')
    (hs : ∀ i x H, i < n → Same H1 H → R i x H → ∀ (k1 : VK) (k0 : Hp → Prop), (∀ v H', fs i = some v → Same H H' → k1 v H') → (∀ H', fs i = none → Same H H' → k0 H') →
      g x (wipe σ vs) H fun σ2 H2 => wipe σ2 vs = wipe σ vs ∧ tt σ2 H2 fun b H3 => if b = true then te σ2 H3 k1 else k0 H3)
    (hd : ∀ H, Same H1 H → H D = some (.lst ((List.range n).filterMap fs)) → Qd H) :
    ∃ W : Nat → Nat → Hp → Prop, (∃ m, W 0 m (upd H1 D (.lst []))) ∧ ∀ i m H, W i m H →
      (J.stop i H ∧ Qd H) ∨ (J.go i H ∧ ∃ Nx : Hp → Prop, (∀ H', Nx H' → ∃ m', m' < m ∧ W (i + 1) m' H') ∧ ∀ x H', J.yld i H x H' → g x (wipe σ vs) H' fun σ2 H2 => wipe σ2 vs = wipe σ vs ∧ tt σ2 H2 fun b H3 =>
        if b = true then te σ2 H3 fun y H4 => ∃ acc, H4 D = some (.lst acc) ∧ acc.length < sizeLine ∧ Nx (upd H4 D (.lst (acc ++ [y]))) else Nx H3) := by
  refine ⟨fun i m H => m = n - i ∧ i ≤ n ∧ Same H1 H ∧ H D = some (.lst ((List.range i).filterMap fs)), ⟨n, by simp, Nat.zero_le _, Same.new hD, upd_same⟩, ?_⟩
  rintro i m H ⟨rfl, hi, s1, h1⟩
  by_cases hlt : i < n
  · refine .inr ⟨go i H hlt s1, fun H' => Same H1 H' ∧ H' D = some (.lst ((List.range (i + 1)).filterMap fs)), fun H' p' => ⟨n - (i + 1), by omega, rfl, hlt, p'⟩, fun x H' y => ?_⟩
    obtain ⟨s2, r⟩ := yld i H x H' hlt s1 y
    refine hs i x H' hlt (s1.trans s2) r _ _ (fun v H'' e s3 => ?_) (fun H'' e s3 => ?_)
    · refine ⟨_, s3 _ _ (s2 _ _ h1), ?_, ((s1.trans s2).trans s3).mut hD, ?_⟩
      · exact Nat.lt_of_le_of_lt (Nat.le_trans (List.length_filterMap_le _ _) (by rw [List.length_range]; omega)) hz
      · rw [upd_same, List.range_succ, List.filterMap_append]
        simp [e]
    · refine ⟨(s1.trans s2).trans s3, ?_⟩
      rw [s3 _ _ (s2 _ _ h1), List.range_succ, List.filterMap_append]
      simp [e]
  · have e : i = n := by omega
    subst e
    exact .inl ⟨stop H s1, hd H s1 h1⟩
theorem range_fm {α β : Type} (xs : List α) (f : α → Option β) : (List.range xs.length).filterMap (fun i => (xs[i]?).bind f) = xs.filterMap f := by
  induction xs with
  | nil => rfl
  | cons x xs ih =>
    rw [List.length_cons, List.range_succ_eq_map, List.filterMap_cons, List.filterMap_map, List.filterMap_cons]
    have e : (List.range xs.length).filterMap ((fun i => ((x :: xs)[i]?).bind f) ∘ Nat.succ) = xs.filterMap f := by
      rw [← ih]
      rfl
    rw [e]
    rfl
section
variable {K : PySem.W.Frag} {g : TG} {tt : TT} {te : TE} {vs : List Nat} {σ : L2.St} {H1 : Hp} {D a : Addr} {Qd : Hp → Prop} {xs : List V}
abbrev LcW (J : It) (g : TG) (tt : TT) (te : TE) (vs : List Nat) (σ : L2.St) (H1 : Hp) (D : Addr) (Qd : Hp → Prop) : Prop :=
  ∃ W : Nat → Nat → Hp → Prop, (∃ m, W 0 m (upd H1 D (.lst []))) ∧ ∀ i m H, W i m H →
      (J.stop i H ∧ Qd H) ∨ (J.go i H ∧ ∃ Nx : Hp → Prop, (∀ H', Nx H' → ∃ m', m' < m ∧ W (i + 1) m' H') ∧ ∀ x H', J.yld i H x H' → g x (wipe σ vs) H' fun σ2 H2 => wipe σ2 vs = wipe σ vs ∧ tt σ2 H2 fun b H3 =>
        if b = true then te σ2 H3 fun y H4 => ∃ acc, H4 D = some (.lst acc) ∧ acc.length < sizeLine ∧ Nx (upd H4 D (.lst (acc ++ [y]))) else Nx H3)
abbrev LcTurn (g : TG) (tt : TT) (te : TE) (vs : List Nat) (σ : L2.St) (x : V) (H : Hp) (fx : Option V) : Prop := ∀ (k1 : VK) (k0 : Hp → Prop), (∀ v H', fx = some v → Same H H' → k1 v H') → (∀ H', fx = none → Same H H' → k0 H') →
      g x (wipe σ vs) H fun σ2 H2 => wipe σ2 vs = wipe σ vs ∧ tt σ2 H2 fun b H3 => if b = true then te σ2 H3 k1 else k0 H3
/-- over a list: [f x for x in xs if ..] -/
theorem lc_fl (f : V → Option V) (hD : H1 D = none) (hq : SqL K H1 a xs) (hz : xs.length < sizeLine) (hs : ∀ (i : Nat) x H, xs[i]? = some x → Same H1 H → LcTurn g tt te vs σ x H (f x))
    (hd : ∀ H, Same H1 H → H D = some (.lst (xs.filterMap f)) → Qd H) : LcW (Itl K a) g tt te vs σ H1 D Qd :=
  lc_gen xs.length (fun i x _ => xs[i]? = some x) (fun i => (xs[i]?).bind f) hD hz
    (fun i H hi s => ⟨xs, xs[i], s.seq hq, by simp [hi]⟩) (fun H s => ⟨xs, s.seq hq, Nat.le_refl _⟩) (fun i H x H' hi s y => by
      obtain ⟨e, y⟩ := y
      subst e
      exact ⟨Same.refl _, y xs (s.seq hq)⟩)
    (fun i x H hi s r k1 k0 h1 h0 => hs i x H r s k1 k0 (fun v H' e => h1 v H' (by rw [r]; exact e)) (fun H' e => h0 H' (by rw [r]; exact e))) (fun H s h => hd H s (by rw [h, range_fm]))
/-- over a tuple -/
theorem lc_ft (f : V → Option V) (hD : H1 D = none) (hq : SqT K H1 a xs) (hz : xs.length < sizeLine) (hs : ∀ (i : Nat) x H, xs[i]? = some x → Same H1 H → LcTurn g tt te vs σ x H (f x))
    (hd : ∀ H, Same H1 H → H D = some (.lst (xs.filterMap f)) → Qd H) : LcW (Itt K a) g tt te vs σ H1 D Qd :=
  lc_gen xs.length (fun i x _ => xs[i]? = some x) (fun i => (xs[i]?).bind f) hD hz
    (fun i H hi s => ⟨xs, xs[i], s.sqt hq, by simp [hi]⟩) (fun H s => ⟨xs, s.sqt hq, Nat.le_refl _⟩) (fun i H x H' hi s y => by
      obtain ⟨e, y⟩ := y
      subst e
      exact ⟨Same.refl _, y xs (s.sqt hq)⟩)
    (fun i x H hi s r k1 k0 h1 h0 => hs i x H r s k1 k0 (fun v H' e => h1 v H' (by rw [r]; exact e)) (fun H' e => h0 H' (by rw [r]; exact e))) (fun H s h => hd H s (by rw [h, range_fm]))
/-- over range(lo, lo + n) -/
theorem lc_fr {lo : Int} {n : Nat} (f : Nat → Option V) (hD : H1 D = none) (hz : n < sizeLine) (hs : ∀ (i : Nat) H, i < n → Same H1 H → LcTurn g tt te vs σ (.int (lo + i)) H (f i))
    (hd : ∀ H, Same H1 H → H D = some (.lst ((List.range n).filterMap f)) → Qd H) : LcW (Itr lo n) g tt te vs σ H1 D Qd :=
  lc_gen n (fun i x _ => x = .int (lo + i)) f hD hz (fun i H hi s => hi) (fun H s => Nat.le_refl _) (fun i H x H' hi s y => by
      obtain ⟨e, y⟩ := y
      subst e
      exact ⟨Same.refl _, y⟩)
    (fun i x H hi s r k1 k0 h1 h0 => by subst r; exact hs i H hi s k1 k0 h1 h0) hd
end
/-! ### the law's own def, the end -/
def spLaw (K : PySem.W.Frag) : Sp := fun vs H Q _ => ∃ (a : Addr) (ns : List Int), vs = [.ref a] ∧ SqL K H a (ns.map V.int) ∧ ns.length ≤ 63 ∧ ∀ H', Q (.bl true) H'
abbrev LawOk (P : Program) (w : World) (K : PySem.W.Frag) (mg : Str → Option Value) (k : Nat) : Prop :=
  ∃ (f : Addr) (fd : FuncData), mg "law" = some (.ref f) ∧ (∀ (s : Shared) (v : Value), BindsTo s fd ⟨[v], []⟩ [("_law_script", v)]) ∧ ∀ base : Heap, FnOk P w K mg base CX0 k f fd ["_law_script"] (spLaw K)
theorem law_of {P : Program} {w : World} {K : PySem.W.Frag} {mg : Str → Option Value} {st : Stmt} {N : List Str} {k : Nat} (T : Top K mg) (D : DefAt K "law" st) (S : FnScope N ["_law_script"] (defScope st))
    (b : ∀ (kV doc pm : Value) (an : Option Addr) (cdv ct v : Value), bindArgs (PySem.W.fnOf "law" "law" (defArgs st) (defBody st) (defScope st) .none kV doc pm an cdv ct) ⟨[v], []⟩ = pure [(("_law_script" : Str), v)])
    (hbody : ∀ (base : Heap) (f : Addr) (cdv : Value) (A : Around) (outer : List Env) (s : Shared) (H : Hp) (a : Addr) (ns : List Int) (Q : VK) (E : XK), Room k (A.deeper (envOfC "law" (defScope st) s.heap.objs.size f cdv)) → SqL K H a (ns.map V.int) → ns.length ≤ 63 → (∀ H', Q (.bl true) H') →
      ∃ t, PSs (cxOf CX0 P w K mg base N "law" (defScope st) f cdv A outer s H E).nox (defBody st) t ∧ t { nx := fun _ H' => Q .non H', rt := Q } (start N [.ref a]) H) : LawOk P w K mg (k + 1) := by
  obtain ⟨f, oc, od, an, osl, kV, doc, pm, cdv, ct, a, l, c, kp⟩ := D
  have F := fun_mk (st := st) l c kp
  refine ⟨f, _, T.of a, fun s v => .of_eq (b kV doc pm an cdv ct v), fun base => F.ok S (fun vs H Q E h => ?_) fun cdv A outer s H vs Q E hr h => ?_⟩
  · obtain ⟨_, _, rfl, _⟩ := h
    rfl
  · obtain ⟨a, ns, rfl, h1, h2, h3⟩ := h
    exact hbody base f cdv A outer s H a ns Q E hr h1 h2 h3
theorem walk_end {l : PySem.W.OpenLaw} {q : Program} {loose : List Str} {XP : (Str → Option Value) → Heap → Prop} {YP : World → Heap → Prop} {d : DefRec} {K : Params → PySem.W.Frag} (k : Nat) (hn : l.most = some 63) (hdf : d.params.defaults = []) (hr : Room k callerA) (hd : d.name = "law")
    (hY : ∀ (w : World) (h : Heap), YP w h → (K w.params).In h)
    (F : ∀ (w : World) (mg : Str → Option Value), Top (K w.params) mg → LawOk l.prog w (K w.params) mg k) :
    PySem.W.WalkO q loose XP YP l.row.toRowW d [] (fun f vs => PySem.call f vs) :=
  L2.walk_of (n := 63) (k := k) (x := "_law_script") (CX := fun _ => CX0) (sp := fun w => spLaw (K w.params)) hn (by decide) hdf hr hY (fun w mg fa h X G hm => by
    obtain ⟨f, fd, e, b, ok⟩ := F w mg ⟨h, X, G⟩
    rw [hd, e] at hm
    cases hm
    exact ⟨fd, b, fun base _ _ => ok base⟩) (fun _ _ a ns hl _ hS => ⟨a, ns, rfl, hS, hl, fun _ => rfl⟩) fun _ _ _ _ _ z => z
/-! ### a block cut in two: P is what holds between -/
def tCut (D : Ends) (P : L2.St → Hp → Prop) : TS := fun D' σ H => D' = D ∧ P σ H
theorem pss_cut {X : Cx} {rest : List Stmt} {D : Ends} {P : L2.St → Hp → Prop} (h : ∃ u, PSs X rest u ∧ ∀ σ H, P σ H → u D σ H) : PSs X rest (tCut D P) := by
  obtain ⟨u, hu, hP⟩ := h
  refine ⟨fun pins s σ H D' I h => ?_⟩
  obtain ⟨e, h⟩ := h
  subst e
  exact hu.run pins s σ H D' I (hP σ H h)
/-! ### texts -/
/-- for c in a text -/
theorem for_its {x : Str} {g : TG} {tb : TS} {D : Ends} {σ : L2.St} {H : Hp} (Pv : Nat → L2.St → Hp → Prop) (h0 : Pv 0 σ H)
    (hs : ∀ i c σ H, x.cps[i]? = some c → Pv i σ H → g (.str ⟨#[c]⟩) σ H fun σ2 H2 => tb { D with nx := Pv (i + 1), ct := Pv (i + 1), bk := D.nx } σ2 H2) (hd : ∀ σ H, Pv x.cps.size σ H → D.nx σ H) :
    ∃ W : Nat → Nat → L2.St → Hp → Prop, (∃ m, W 0 m σ H) ∧ ∀ i m σ H, W i m σ H →
      ((Its x).stop i H ∧ D.nx σ H) ∨ ((Its x).go i H ∧ ∃ N : L2.St → Hp → Prop, (∀ σ' H', N σ' H' → ∃ m', m' < m ∧ W (i + 1) m' σ' H') ∧ ∀ y H', (Its x).yld i H y H' → g y σ H' fun σ2 H2 => tb { D with nx := N, ct := N, bk := D.nx } σ2 H2) := by
  refine ⟨fun i m σ H => m = x.cps.size - i ∧ i ≤ x.cps.size ∧ Pv i σ H, ⟨x.cps.size, by simp, Nat.zero_le _, h0⟩, ?_⟩
  rintro i m σ H ⟨rfl, hi, p⟩
  by_cases hlt : i < x.cps.size
  · refine .inr ⟨hlt, Pv (i + 1), fun σ' H' p' => ⟨x.cps.size - (i + 1), by omega, rfl, hlt, p'⟩, fun y H' q => ?_⟩
    obtain ⟨e, c, hc, ey⟩ := q
    subst e ey
    exact hs i c σ _ hc p
  · have e : i = x.cps.size := by omega
    subst e
    exact .inl ⟨Nat.le_refl _, hd σ H p⟩
theorem cutS_len (z : Str) (lo hi : Option Int) : (cutS z lo hi).length ≤ z.length := by
  show (((z.cps.toList.drop _).take _).toArray).size ≤ z.cps.size
  rw [List.size_toArray, List.length_take, List.length_drop, Array.length_toList]
  omega
theorem app_len (a b : Str) : (a ++ b).length = a.length + b.length := by
  show (a.cps ++ b.cps).size = a.cps.size + b.cps.size
  exact Array.size_append
/-- a text some times over -/
theorem op_repS {X : Cx} : OpR X (binaryOp .Mult) (fun x y H Q => ∃ (z : Str) (n : Int), x = .str z ∧ y = .int n ∧ PySem.MulOk z n ∧ Q (.str (Txt.mul z n)) H) := by
  intro pins s σ H x y v u Q I rx ry h
  obtain ⟨z, n, rfl, rfl, ok, q⟩ := h
  obtain ⟨t, rfl⟩ := rx
  obtain ⟨t', rfl⟩ := ry
  exact PySem.SB.mul ok fun t2 k => ⟨.str _, H, I.tok k, ⟨t2, rfl⟩, q⟩
theorem bl_of {b c : Bool} (h : b = c) : V.bl b = V.bl c := congrArg V.bl h
theorem fm_some {α β : Type} (xs : List α) (f : α → β) : xs.filterMap (fun x => some (f x)) = xs.map f := by
  induction xs with
  | nil => rfl
  | cons x xs ih => simp
/-! ### the helpers every law has -/
def cellAt (ns : List Int) (k : Int) : Int := ns.getD k.toNat 0
def mixed (c : Int) : Int := c * 48271 % 2147483647
def spCellAt (K : PySem.W.Frag) : Sp := fun vs H Q _ => ∃ (a : Addr) (ns : List Int) (k : Int), vs = [.ref a, .int k] ∧ SqL K H a (ns.map V.int) ∧ 0 ≤ k ∧ Q (.int (cellAt ns k)) H
def spMixed : Sp := fun vs H Q _ => ∃ c : Int, vs = [.int c] ∧ Q (.int (mixed c)) H
end Nl

set_option Elab.async false
set_option linter.all false
set_option maxRecDepth 100000
set_option maxHeartbeats 1000000
namespace Nl
open PySem PySem.Spec PySem.Calls PyProof.Rows PySem.W
/-- a, *rest = a list: the rest is a new list -/
theorem star_list {prog : Program} {w : World} {A : Around} {E : Value → Shared → Prop} {s : Shared} {l : Addr} {items : Array Value} {first rest : List Value} {Q : List Value → Shared → Prop}
    (hl : s.heap.IsList l items) (hh : A.handled = none) (hn : 1 ≤ items.size) (hz : items.size ≤ 16384) (h1 : items.toList = first ++ rest) (h2 : first.length = 1)
    (h : ∀ (h₂ : Heap) (tk : Nat), (∀ b o, s.heap.get? b = some o → h₂.get? b = some o) → Q (first ++ [.ref h₂.objs.size]) { s with heap := h₂.push { cls := .type "list", data := .seq rest.toArray 0 }, toks := tk }) :
    wpAny (model prog w) A (unpackItems (.ref l) 2 (some 1)) Q E s := by
  have hlt : l ≠ s.heap.objs.size := by obtain ⟨o, ho, _⟩ := hl; exact Nat.ne_of_lt (Heap.lt_size ho)
  have hsz : items.toList.length = items.size := Array.length_toList
  have ht : items.toList.take 1 = first := by rw [h1, List.take_append_of_le_length (by omega), List.take_of_length_le (by omega)]
  have hd : items.toList.drop 1 = rest := by rw [h1, List.drop_append_of_le_length (by omega), List.drop_of_length_le (by omega)]; rfl
  unfold unpackItems
  refine wpAny_bind ?_
  unfold notIterableAtAll
  refine wpAny_bind (wpAny_specialOf hl.typeIs slot_list_iter.lookup ?_)
  refine wpAny_pure ?_
  simp only [Bool.false_eq_true, if_false]
  refine wpAny_bind (wpAny_holding (wpAny_pyIter_list hl ?_))
  refine wpAny_bind (wpAny_holding (kun_draw hlt 1 0 _ _ ⟨_, Heap.get?_push_size _ rfl, rfl, rfl⟩ (hl.push _) (by omega) fun h₁ hit₁ hs₁ => ?_))
  have hl₁ : h₁.IsList l items := (hl.push _).extBut hs₁.extBut hlt
  rw [Nat.zero_add] at hit₁
  have hit₁' := hit₁
  obtain ⟨oi, hoi, _⟩ := hit₁'
  have hl₁' := hl₁
  obtain ⟨ol, hol, _⟩ := hl₁'
  rw [List.drop_zero, ht]
  rw [if_neg (show ¬ (first.length < 1) by omega)]
  refine wpAny_bind (wpAny_holding (kun_collect (s := { s with heap := h₁ }) (T := "list_iterator") (.inr (.inr (.inl rfl))) (Walks.list (A := A.in1) hh s.heap.objs.size l hlt items) (fun j u st => st.1.typeIs) (k := 1) (by omega) ⟨hit₁, hl₁⟩ (Heap.lt_size hoi) (Heap.lt_size hol) (fun h₂ tk hk => ?_) (by rw [sizeLine_eq]; omega)))
  rw [hd]
  show wpAny _ _ (if rest.length < 0 then _ else _) _ _ _
  rw [if_neg (Nat.not_lt_zero _)]
  show wpAny _ _ (newList (rest.take (rest.length - 0)) >>= fun d => pure (first ++ [d] ++ rest.drop (rest.length - 0))) _ _ _
  rw [Nat.sub_zero, List.take_length, List.drop_length]
  have hr : rest.length ≤ items.size := by rw [← hsz, h1, List.length_append]; omega
  have he : ∀ b o, s.heap.get? b = some o → h₂.get? b = some o := fun b o e =>
    hk b o (Nat.ne_of_lt (Heap.lt_size e)) ((hs₁.2 b (Nat.ne_of_lt (Heap.lt_size e))).trans (Heap.get?_push_of_some _ e))
  refine wpAny_bind (wpAny_newObj_type ?_ (by show rest.toArray.size ≤ sizeLine; rw [List.size_toArray, sizeLine_eq]; omega))
  refine wpAny_pure ?_
  rw [List.append_nil]
  exact h h₂ tk he
end Nl
namespace Nl
open PySem PySem.Spec PyProof.Rows L2
/-- a, *rest = xs, a list; both names in slots -/
def gStar (K : PySem.W.Frag) (i j : Nat) : TG := fun v σ H Q => ∃ a x xs, v = .ref a ∧ SqL K H a (x :: xs) ∧ xs.length < 16384 ∧ ∀ p, H p = none → Q ((σ.set i (some x)).set j (some (.ref p))) (upd H p (.lst xs))
theorem pg_star {X : Cx} {i j : Nat} {x y : Str} {px py pp pos : Pos} {k1 : Nat} (hc : X.calm = true) (hN : X.N.Nodup) (hi : X.N[i]? = some x) (hx : Loc X.env.scope x) (hj : X.N[j]? = some y) (hy : Loc X.env.scope y)
    (fx : X.fn x = true ∨ X.env.scope.names.lookup x = some .local := by first | exact .inl rfl | exact .inr rfl | assumption) (fy : X.fn y = true ∨ X.env.scope.names.lookup y = some .local := by first | exact .inl rfl | exact .inr rfl | assumption) :
    PG X (.Tuple [.Name x px, .Starred (.Name y py) pp] k1 pos) (gStar X.K i j) := by
  refine ⟨fun pins s σ H v u Q I r h => ?_⟩
  obtain ⟨a, x1, xs, rfl, hs, hz, q⟩ := h
  cases r
  obtain ⟨its, rv, pl, hl⟩ := I.list hs
  have el : (x1 :: xs).length = its.length := rv.length
  cases rv with
  | cons r1 rr =>
    rename_i u1 us
    rw [PyProof.Rows.assign_Tuple]
    refine wpAny_bind (wpAny_standAt ?_)
    unfold unpack
    have h1 : (assignEach [.Name x px, .Starred (.Name y py) pp] X.env).length = 2 := rfl
    have h2 : (assignEach [.Name x px, .Starred (.Name y py) pp] X.env).findIdx? (·.1) = some 1 := rfl
    rw [h1, h2]
    refine wpAny_bind (wpAny_holding (star_list (first := [u1]) (rest := us) pl.isList (I.ok.hd hc) (by simp) (by simp at el ⊢; omega) (by simp) rfl fun h₂ tk hk => ?_))
    have I2 : Inv X pins σ H { s with heap := h₂, toks := tk } := I.kept hk
    have I3 := I2.laid (a := h₂.objs.size) (o := .lst xs) (h' := h₂.push { cls := .type "list", data := .seq us.toArray 0 }) (t' := tk) (fun b o e => Heap.get?_push_of_some _ e) (Nat.le_refl _) ⟨(by simp at hl; omega), us, 0, rr, Heap.get?_push_size _ rfl⟩
    have hf : H h₂.objs.size = none := I2.hok.fresh (Nat.le_refl _)
    show wpAny _ _ (assignInOrder [assign (.Name x px) X.env, assign (.Name y py) X.env] [u1, .ref h₂.objs.size]) _ _ _
    refine assignInOrder_cons (wpAny_assign_Name (store_ok I3 hN hi hx r1 (fun s4 I4 => ?_) fx))
    refine assignInOrder_cons (wpAny_assign_Name (store_ok (v := V.ref h₂.objs.size) I4 hN hj hy rfl (fun s5 I5 => assignInOrder_nil ⟨_, _, I5, q _ hf⟩) fy))
end Nl

set_option Elab.async false
set_option linter.all false
set_option maxRecDepth 100000
set_option maxHeartbeats 1000000
namespace Nl
open PySem PySem.Spec PyProof.Rows L2 L2H
/-! ### a def that is called while an error of the class at D, that stands at p, is handled -/
structure FnS (P : Program) (w : World) (K : PySem.W.Frag) (mg : Str → Option Value) (base : Heap) (k : Nat) (f : Addr) (fd : FuncData) (ps : List Str) (sp : Addr → Addr → Sp) : Prop where
  len : ∀ D a vs H Q E, sp D a vs H Q E → vs.length = ps.length
  run : ∀ (A : Around) (outer : List Env) (s : Shared) (H : Hp) (args : Args) (us : List Value) (vs : List V) (Q : VK) (E : XK) (p : Addr × Obj) (D : Addr), RoomH k A → Zc (.ref D) none p.2 → (∃ fs, p.2.data = .fields fs) → PinOk outer H s p → Env0 P w K mg base A outer s H →
    BindsTo s fd args (ps.zip us) → Vals vs us → sp D p.1 vs H Q E → codeAny (model P w) A (.call (.ref f) args) (CR CX0 outer P w H s Q E) s
theorem fn_ofS {P : Program} {w : World} {K : PySem.W.Frag} {mg : Str → Option Value} {base : Heap} {k : Nat} {f : Addr} {name qual : Str} {params : Arguments} {body : List Stmt} {scope : Scope} {dV kV doc pm cdv ct oc : Value} {an od : Option Addr}
    {osl : Array (Option Value)} {N ps : List Str} {sp : Addr → Addr → Sp} (lk : K.lookup f = some ⟨oc, od, .func (PySem.W.fnOf name qual params body scope dV kV doc pm an cdv ct), osl⟩) (hcd : PySem.W.codeIn K cdv qual = true) (S : FnScope N ps scope)
    (len : ∀ D a vs H Q E, sp D a vs H Q E → vs.length = ps.length)
    (hbody : ∀ (A : Around) (outer : List Env) (s : Shared) (H : Hp) (vs : List V) (Q : VK) (E : XK) (p : Addr × Obj) (D : Addr), Zc (.ref D) none p.2 → (∃ fs, p.2.data = .fields fs) → RoomH k (A.deeper (envOfC qual scope s.heap.objs.size f cdv)) → sp D p.1 vs H Q E →
      ∃ t, PSs (cxH CX0 P w K mg base N qual scope f cdv A outer s H E p) body t ∧ t { nx := fun _ H' => Q .non H', rt := Q } (L2.start N vs) H) :
    FnS P w K mg base (k + 1) f (PySem.W.fnOf name qual params body scope dV kV doc pm an cdv ct) ps sp := by
  refine ⟨len, fun A outer s H args us vs Q E p D hr hz hf hpin e0 hb r hsp => ?_⟩
  have hl := len _ _ _ _ _ _ hsp
  have stay := fun b o e => (e0.bs b o e).1
  have hkind : ∀ y ∈ ps.zip us, scope.names.lookup y.1 = some .local ∨ (scope.names.lookup y.1 = some .cell ∧ ((cellsFrom (s.heap.objs.size + 1) scope.names []).lookup y.1).isSome = true) := fun ⟨n, v⟩ hy =>
    (S.par n (List.of_mem_zip hy).1).elim (fun q => .inl q) fun q => .inr ⟨q, PySem.W.cellsFrom_some _ _ _ (.inl q)⟩
  have KX : K.In s.heap := e0.mod.kin.keeps stay
  have lim : s.heap.NoLimit := e0.mod.nolimit.keeps stay
  refine codeAny_call_function hr.depth (KX _ _ lk) rfl S.co S.gen rfl (PySem.W.codeRec_of KX hcd) (hb _ _ _ _ ?_)
  refine wpAny_newFunctionEnv_cells S.kind hkind fun env he s1 x => ?_
  subst he
  refine ⟨lim.keeps x.toInCall.keep, codeAny_func ?_⟩
  obtain ⟨t, ht, hq⟩ := hbody A outer s H vs Q E p D hz hf (hr.deeper _) hsp
  refine wpAny_mono (ht.run [] s1 (L2.start N vs) H _ (inv_startH S hpin e0 hl r x) hq) (fun fl s' hs => ?_) fun e s' hs => hs
  cases fl with
  | ret u =>
    obtain ⟨v, σ', H', J, rv, q⟩ := hs
    exact ⟨v, H', J.os, J.bare, J.base, J.hok, rv, q⟩
  | next =>
    obtain ⟨σ', H', J, q⟩ := hs
    exact ⟨V.non, H', J.os, J.bare, J.base, J.hok, rfl, q⟩
  | brk =>
    obtain ⟨_, _, _, q⟩ := hs
    exact q.elim
  | cont =>
    obtain ⟨_, _, _, q⟩ := hs
    exact q.elim
structure CalS (P : Program) (w : World) (K : PySem.W.Frag) (mg : Str → Option Value) (base : Heap) (k : Nat) (x : Str) (sp : Addr → Addr → Sp) : Prop where
  ex : ∃ (f : Addr) (fd : FuncData) (ps : List Str), FnS P w K mg base k f fd ps sp ∧ mg x = some (.ref f) ∧ PySem.W.keepIn K (.ref f) = true ∧ Binds K fd ps []
theorem calS_of {P : Program} {w : World} {K : PySem.W.Frag} {mg : Str → Option Value} {base : Heap} {x : Str} {st : Stmt} {N ps : List Str} {k : Nat} {sp : Addr → Addr → Sp} (T : Top K mg) (D : DefAt K x st) (S : FnScope N ps (defScope st)) (b : BindOk x st ps)
    (len : ∀ D a vs H Q E, sp D a vs H Q E → vs.length = ps.length)
    (hbody : ∀ (f : Addr) (cdv : Value) (A : Around) (outer : List Env) (s : Shared) (H : Hp) (vs : List V) (Q : VK) (E : XK) (p : Addr × Obj) (D : Addr), Zc (.ref D) none p.2 → (∃ fs, p.2.data = .fields fs) → RoomH k (A.deeper (envOfC x (defScope st) s.heap.objs.size f cdv)) → sp D p.1 vs H Q E →
      ∃ t, PSs (cxH CX0 P w K mg base N x (defScope st) f cdv A outer s H E p) (defBody st) t ∧ t { nx := fun _ H' => Q .non H', rt := Q } (L2.start N vs) H) : CalS P w K mg base (k + 1) x sp := by
  obtain ⟨f, oc, od, an, osl, kV, doc, pm, cdv, ct, a, l, c, kp⟩ := D
  have F := fun_mk (st := st) l c kp
  exact ⟨f, _, ps, fn_ofS l c S len fun A outer s H vs Q E p D hz hf hr h => hbody f cdv A outer s H vs Q E p D hz hf hr h, T.of a, kp, F.binds b⟩
section
variable {X : Cx} {k j : Nat} {x : Str} {sp : Addr → Addr → Sp} {p pos : Pos} {e : Expr} {es : List Expr} {t : TA}
/-- f(..) within the suite of a clause; the error at a, of the class cls -/
def tCallSu (sp : Addr → Addr → Sp) (a : Addr) (cls : Value) (d : Option Addr) (t : TA) : TE := fun σ H Q => t σ H fun vs H1 => ∃ D, cls = .ref D ∧ d = none ∧ sp D a vs H1 Q E0
theorem pe_su {a : Addr} {oe : Obj} {cls : Value} {d : Option Addr} {pn : List (Addr × Obj)} (c : CalS X.prog X.w X.K X.mg X.base k x sp) (hz : Zc cls d oe) (hf : ∃ fs, oe.data = .fields fs) (hr : Room j X.A) (hk : k ≤ j) (hg : Gl X x) (ha : PA (X.suite a ((a, oe) :: pn)) (e :: es) t)
    (hdb : (x == ("__debug__" : Str)) = false := by decide) (he : starEach (e :: es) X.env = (false, eval e X.env) :: starEach es X.env := by rfl) (hpl : (backTo pos (starEach es X.env)).any (·.1) = false := by rfl) :
    PE (X.suite a ((a, oe) :: pn)) (.Call (.Name x p) (e :: es) [] pos) (tCallSu sp a cls d t) := by
  obtain ⟨f, fd, ps, F, hm, kp, hb⟩ := c.ex
  refine ⟨fun pins s σ H Q I h => ?_⟩
  refine wpAny_Call_Name_kw (ld_glob I hg hm ?_ hdb)
  refine PySem.W.callWith_K (h₀ := X.base) I.ok.mod.kin kp (thn (ha.run pos pins s σ H _ I h) fun us s1 ⟨vs, H1, I1, r, D, ec, ed, q⟩ => ⟨I1.kIn, ?_⟩) he hpl
  subst ec ed
  have hl : us.length = ps.length := by rw [← r.length]; exact F.len _ _ _ _ _ _ q
  have b := hb s1 us I1.kIn (by rw [List.append_nil]; exact hl)
  rw [List.append_nil] at b
  have P1 := I1.pin (a, oe) (List.mem_append_left _ List.mem_cons_self)
  have hpin : PinOk (X.suite a ((a, oe) :: pn)).stack H1 s1 (a, oe) := ⟨P1.1, P1.2.1, fun hm => (List.mem_cons.mp (I1.stkSub a hm)).elim P1.2.2.1 P1.2.2.2.1, P1.2.2.2.2⟩
  have hr2 : RoomH k (X.suite a ((a, oe) :: pn)).A := ⟨(hr.mono hk).dp, (hr.mono hk).un⟩
  refine wpAny_call (codeAny_mono (F.run _ _ s1 H1 ⟨us, []⟩ us vs Q E0 (a, oe) D hr2 hz hf hpin I1.env0 b r q) fun r s' hq => ?_)
  cases r with
  | error e => exact hq.elim
  | ok fl =>
    cases fl with
    | ret u => exact I1.after hq
    | next => exact hq.elim
    | brk => exact hq.elim
    | cont => exact hq.elim
/-- isinstance of an error that is pinned -/
theorem call_isP {q : Addr × Obj} {D : Addr} (hq : q ∈ X.pn) (C : ExcC X.K D) (hz : Zc (.ref D) none q.2) (hf : ∃ fs, q.2.data = .fields fs) : CallR X (.builtin "isinstance") (rIsE X.K D q.1) := by
  intro pins s σ H xs us Q I r h
  obtain ⟨c, cv, b, rfl, hcv, e, k⟩ := h
  cases r with
  | cons rx rr =>
    cases rr with
    | cons rt rr =>
      cases rr
      cases rx
      have ec := hcv _ rt
      subst ec
      have hget := (I.pin q (List.mem_append_left _ hq)).1
      have J : PySem.W.InstAt s.heap q.1 q.2 D none := by
        obtain ⟨fs, hv⟩ := hf
        obtain ⟨a, oc, od, oda, osl⟩ := q
        obtain ⟨h1, h2⟩ := hz
        dsimp only at h1 h2 hv
        subst h1 h2 hv
        exact ⟨hget, rfl, rfl, trivial⟩
      exact PySem.W.kia_one (PySem.W.handS_kitx_exc C.hg C.hk C.hs C.hd C.ha C.hn C.ht C.hm) I.kIn J e (fun z => nomatch z) fun tk => ⟨.bl b, H, I.kept (t' := tk) fun _ _ z => z, rfl, k⟩
/-- xs.count(x), all of them plain -/
def rCntV (K : PySem.W.Frag) : V → List V → Hp → VK → Prop := fun x xs H Q => ∃ (p : Addr) (ys : List V) (y : V), x = .ref p ∧ xs = [y] ∧ SqL K H p ys ∧ flatV y = true ∧ ys.all flatV = true ∧ Q (.int (ys.countP (fun z => eqV z y) : Nat)) H
theorem countU {x : V} : ∀ {ys : List V} {us : List Value}, Vals ys us → ys.all flatV = true → us.countP (eqU x) = ys.countP fun z => eqV z x
  | _, _, .nil, _ => rfl
  | _, _, .cons r t, f => by
    rw [List.all_cons, Bool.and_eq_true] at f
    rw [List.countP_cons, List.countP_cons, countU t f.2, eqU_of r f.1]
theorem mt_countV : MtR X "list.count" (rCntV X.K) := by
  intro pins s σ H x xs v us Q I rx rxs h
  obtain ⟨p, ys, y, rfl, rfl, hs, fy, fl, q⟩ := h
  cases rx
  obtain ⟨u, rfl, ru⟩ := rxs.one
  obtain ⟨its, rv, ⟨⟨cls, dd, data, sl⟩, n, ho, hc, hdn, hd⟩, hlen⟩ := I.list hs
  simp only at hc hd
  subst hc hd
  refine call_meets PySem.F.slot_list_count ⟨_, ho, rfl⟩ PySem.F.entry_list_count (PySem.F.args_list_count_2 _ _) (SeqAt.list_countAt p its.toArray n dd sl u (eqU y)) ⟨ho, fun z hz => mem_eqAt ru fy rv fl z (by simpa using hz), ?_⟩
  have ec : its.toArray.toList.countP (eqU y) = ys.countP (fun z => eqV z y) := by rw [List.toList_toArray]; exact countU rv fl
  rw [ec]
  exact ⟨.int _, H, I.tok _, ⟨s.toks, rfl⟩, q⟩
end
/-! ### isinstance of one of the five refusals -/
structure AloneAt (K : PySem.W.Frag) (cs : List Addr) (cL : Addr) (D : Addr) (own : Nat) : Prop where
  ex : ExcC K D
  k : ∀ j c, cs[j]? = some c → PySem.W.kitOne K (.ref D) (.ref c) = some (decide (j = own))
  line : PySem.W.kitOne K (.ref D) (.ref cL) = some true
  val : PySem.W.kitOne K (.ref D) (.type "ValueError") = some true
/-- an error of the class D is the own-th of the five and none else -/
def spAlone (K : PySem.W.Frag) (cs : List Addr) (cL : Addr) : Addr → Addr → Sp := fun D a vs H Q _ => ∃ own : Nat, vs = [.ref a, .int (own : Nat)] ∧ own < 5 ∧ AloneAt K cs cL D own ∧ ∀ H', Same H H' → Q (.bl true) H'
/-! ### plain values as data -/
def dOf : V → PyData
  | .bl b => .bool b
  | .int i => .int i
  | .str x => .str x
  | _ => .none
theorem dp_flat {K : PySem.W.Frag} {H : Hp} {v : V} (h : flatV v = true) : Dp K H v (dOf v) := by
  cases v with
  | non => exact .non
  | bl b => exact .bl b
  | int i => exact .int i
  | str x => exact .str x
  | _ => cases h
theorem dpAll_flat {K : PySem.W.Frag} {H : Hp} : ∀ {xs : List V}, xs.all flatV = true → DpAll K H xs (xs.map dOf)
  | [], _ => .nil
  | x :: xs, h => by
    rw [List.all_cons, Bool.and_eq_true] at h
    exact .cons (dp_flat h.1) (dpAll_flat h.2)
theorem dp_tup {K : PySem.W.Frag} {H : Hp} {p : Addr} {xs : List V} (h : SqT K H p xs) (f : xs.all flatV = true) : Dp K H (.ref p) (.tuple (xs.map dOf)) := .tup h (dpAll_flat f)
theorem dp_lst {K : PySem.W.Frag} {H : Hp} {p : Addr} {xs : List V} (h : SqL K H p xs) (f : xs.all flatV = true) : Dp K H (.ref p) (.list (xs.map dOf)) := .lst h (dpAll_flat f)
theorem depth_flat : ∀ xs : List V, PyData.depthAll (xs.map dOf) = 0
  | [] => rfl
  | x :: xs => by
    have e : (dOf x).depth = 0 := by cases x <;> rfl
    rw [List.map_cons, PyData.depthAll, e, depth_flat xs]
    rfl
theorem shaped_tup {xs : List V} (h : PyData.canLayAll0 (xs.map dOf) = true) : SeqAt.shaped (.tuple (xs.map dOf)) = true := by
  have e : PyData.depth (.tuple (xs.map dOf)) = 1 := by rw [PyData.depth, depth_flat]
  unfold SeqAt.shaped
  rw [e]
  show (PyData.canLayAll0 (xs.map dOf) && _) = true
  rw [h]
  rfl
theorem shaped_lst {xs : List V} (h : PyData.canLayAll0 (xs.map dOf) = true) : SeqAt.shaped (.list (xs.map dOf)) = true := by
  have e : PyData.depth (.list (xs.map dOf)) = 1 := by rw [PyData.depth, depth_flat]
  unfold SeqAt.shaped
  rw [e]
  show (PyData.canLayAll0 (xs.map dOf) && _) = true
  rw [h]
  rfl
theorem lay_ints : ∀ ns : List Int, PyData.canLayAll0 ((ns.map V.int).map dOf) = true
  | [] => rfl
  | n :: ns => by
    show (true && PyData.canLayAll0 ((ns.map V.int).map dOf)) = true
    rw [lay_ints ns]
    rfl
theorem eqv_same {d : PyData} (h : SeqAt.shaped d = true) : PyData.eqv d d = true := PySem.SeqAt.eqv_refl d (SeqAt.canLay_of_shaped h)
end Nl

set_option Elab.async false
set_option linter.all false
set_option maxRecDepth 100000
set_option maxHeartbeats 4000000
namespace Nl
open PySem PySem.Spec PyProof.Rows L2 L2H
/-! ### data at any depth -/
mutual
theorem dp_same {K : PySem.W.Frag} {H H' : Hp} (s : Same H H') : ∀ (d : PyData) (v : V), Dp K H v d → Dp K H' v d
  | .none, _, h => by cases h; exact .non
  | .bool _, _, h => by cases h; exact .bl _
  | .int _, _, h => by cases h; exact .int _
  | .str _, _, h => by cases h; exact .str _
  | .list ds, _, h => by
    cases h with
    | lst q a => exact .lst (s.seq q) (dpAll_same s ds _ a)
  | .tuple ds, _, h => by
    cases h with
    | tup q a => exact .tup (s.sqt q) (dpAll_same s ds _ a)
  | .dict _, _, h => by cases h
theorem dpAll_same {K : PySem.W.Frag} {H H' : Hp} (s : Same H H') : ∀ (ds : List PyData) (vs : List V), DpAll K H vs ds → DpAll K H' vs ds
  | [], _, h => by cases h; exact .nil
  | d :: ds, _, h => by
    cases h with
    | cons a b => exact .cons (dp_same s d _ a) (dpAll_same s ds _ b)
end
theorem dpA_len {K : PySem.W.Frag} {H : Hp} : ∀ {vs : List V} {ds : List PyData}, DpAll K H vs ds → vs.length = ds.length
  | _, _, .nil => rfl
  | _, _, .cons _ h => by simp only [List.length_cons, dpA_len h]
theorem dpA_get {K : PySem.W.Frag} {H : Hp} : ∀ {vs : List V} {ds : List PyData} {i : Nat} {v : V}, DpAll K H vs ds → vs[i]? = some v → ∃ d, ds[i]? = some d ∧ Dp K H v d
  | _, _, i, v, .nil, e => by simp at e
  | _, _, 0, v, .cons (d := d) a h, e => by
    rw [List.getElem?_cons_zero] at e
    cases e
    exact ⟨d, rfl, a⟩
  | _, _, i + 1, v, .cons a h, e => by
    rw [List.getElem?_cons_succ] at e
    obtain ⟨d, e2, q⟩ := dpA_get h e
    exact ⟨d, by rw [List.getElem?_cons_succ]; exact e2, q⟩
theorem dpA_set {K : PySem.W.Frag} {H : Hp} {v : V} {d : PyData} (q : Dp K H v d) : ∀ {vs : List V} {ds : List PyData} {i : Nat}, DpAll K H vs ds → DpAll K H (vs.set i v) (ds.set i d)
  | _, _, _, .nil => .nil
  | _, _, 0, .cons a h => .cons q h
  | _, _, i + 1, .cons a h => .cons a (dpA_set q h)
theorem dpA_app {K : PySem.W.Frag} {H : Hp} {v : V} {d : PyData} (q : Dp K H v d) : ∀ {vs : List V} {ds : List PyData}, DpAll K H vs ds → DpAll K H (vs ++ [v]) (ds ++ [d])
  | _, _, .nil => .cons q .nil
  | _, _, .cons a h => .cons a (dpA_app q h)
theorem dpAll_flat2 {K : PySem.W.Frag} {H : Hp} : ∀ {xs : List V}, xs.all flatV = true → DpAll K H xs (xs.map dOf)
  | [], _ => .nil
  | x :: xs, h => by
    rw [List.all_cons, Bool.and_eq_true] at h
    exact .cons (dp_flat h.1) (dpAll_flat2 h.2)
def tyN : PyData → String
  | .none => "NoneType" | .bool _ => "bool" | .int _ => "int" | .str _ => "str" | .list _ => "list" | .tuple _ => "tuple" | .dict _ => "dict"
theorem ty_l {K : PySem.W.Frag} {H : Hp} {a : Addr} {xs : List V} (h : SqL K H a xs) : TyX K H (.ref a) (.type "list") := by
  rcases h with (h | ⟨_, h⟩) | ⟨_, _, _, h, c, _⟩
  · exact .base (.lst h)
  · exact .base (.frz h)
  · exact .kList h c
theorem ty_t {K : PySem.W.Frag} {H : Hp} {a : Addr} {xs : List V} (h : SqT K H a xs) : TyX K H (.ref a) (.type "tuple") := by
  rcases h with (h | ⟨_, h⟩) | ⟨_, _, _, h, c, _⟩
  · exact .base (.tup h)
  · exact .fTuple h
  · exact .kTuple h c
theorem dp_ty {K : PySem.W.Frag} {H : Hp} {v : V} {d : PyData} (h : Dp K H v d) : TyX K H v (.type (tyN d)) := by
  cases h with
  | non => exact .base .non
  | bl b => exact .base (.bl b)
  | int i => exact .base (.int i)
  | str x => exact .base (.str x)
  | lst h _ => exact ty_l h
  | tup h _ => exact ty_t h
theorem tyN_in (d : PyData) : tyN d ∈ ["NoneType", "bool", "int", "str", "list", "tuple", "dict"] := by
  cases d <;> simp [tyN]
theorem kit_d {n : String} (h : ∀ a ∈ ["NoneType", "bool", "int", "str", "list", "tuple", "dict"], kitB a n = some (decide (a = n))) (d : PyData) : kitB (tyN d) n = some (decide (tyN d = n)) := h _ (tyN_in d)
theorem kit_int (d : PyData) : kitB (tyN d) "int" = some (decide (tyN d = "int" ∨ tyN d = "bool")) :=
  (by decide +kernel : ∀ a ∈ ["NoneType", "bool", "int", "str", "list", "tuple", "dict"], kitB a "int" = some (decide (a = "int" ∨ a = "bool"))) _ (tyN_in d)
theorem kit_bool (d : PyData) : kitB (tyN d) "bool" = some (decide (tyN d = "bool")) := kit_d (by decide +kernel) d
theorem kit_tup (d : PyData) : kitB (tyN d) "tuple" = some (decide (tyN d = "tuple")) := kit_d (by decide +kernel) d
theorem kit_str (d : PyData) : kitB (tyN d) "str" = some (decide (tyN d = "str")) := kit_d (by decide +kernel) d
/-- for x in an iterator -/
theorem for_gen {J : It} {g : TG} {tb : TS} {D : Ends} {σ : L2.St} {H : Hp} (n : Nat) (Pv : Nat → L2.St → Hp → Prop) (h0 : Pv 0 σ H) (go : ∀ i σ H, i < n → Pv i σ H → J.go i H) (stop : ∀ σ H, Pv n σ H → J.stop n H)
    (hs : ∀ i σ H y H', i < n → Pv i σ H → J.yld i H y H' → g y σ H' fun σ2 H2 => tb { D with nx := Pv (i + 1), ct := Pv (i + 1), bk := D.nx } σ2 H2) (hd : ∀ σ H, Pv n σ H → D.nx σ H) :
    ∃ W : Nat → Nat → L2.St → Hp → Prop, (∃ m, W 0 m σ H) ∧ ∀ i m σ H, W i m σ H →
      (J.stop i H ∧ D.nx σ H) ∨ (J.go i H ∧ ∃ N : L2.St → Hp → Prop, (∀ σ' H', N σ' H' → ∃ m', m' < m ∧ W (i + 1) m' σ' H') ∧ ∀ y H', J.yld i H y H' → g y σ H' fun σ2 H2 => tb { D with nx := N, ct := N, bk := D.nx } σ2 H2) := by
  refine ⟨fun i m σ H => m = n - i ∧ i ≤ n ∧ Pv i σ H, ⟨n, by simp, Nat.zero_le _, h0⟩, ?_⟩
  rintro i m σ H ⟨rfl, hi, p⟩
  by_cases hlt : i < n
  · exact .inr ⟨go i σ H hlt p, Pv (i + 1), fun σ' H' p' => ⟨n - (i + 1), by omega, rfl, hlt, p'⟩, fun y H' q => hs i σ H y H' hlt p q⟩
  · have e : i = n := by omega
    subst e
    exact .inl ⟨stop σ H p, hd σ H p⟩
/-- a whole number within the bounds, True and False are none -/
def wholeIn (d : PyData) (lo hi : Int) : Bool := match d with
  | .int i => decide (lo ≤ i) && decide (i ≤ hi)
  | _ => false
def lastOf (size count : Int) (k : Str) : Int := if k = "box" then size - 1 else if k = "number" then 999999 else count
def fitK (size count : Int) (l : List Str) (ps : List PyData) : Bool := (List.range l.length).all fun k => wholeIn (ps.getD k .none) 0 (lastOf size count (l.getD k Str.empty))
theorem cutV_1 (x : V) (xs : List V) : cutV (x :: xs) (some 1) none = xs := by
  unfold cutV
  have h1 : HT.sIx (x :: xs).length 0 (some 1) = 1 := by
    have := HT.sIx_nat (x :: xs).length 0 1
    simp only [List.length_cons] at this ⊢
    rw [show ((1 : Nat) : Int) = 1 from rfl] at this
    rw [this]
    omega
  rw [h1, HT.sIx_none]
  simp
theorem dpA_by {K : PySem.W.Frag} {H : Hp} : ∀ {vs : List V} {ds : List PyData}, vs.length = ds.length → (∀ (j : Nat) (v : V), vs[j]? = some v → ∃ d, ds[j]? = some d ∧ Dp K H v d) → DpAll K H vs ds
  | [], [], _, _ => .nil
  | v :: vs, d :: ds, hl, h => by
    refine .cons ?_ (dpA_by (Nat.succ.inj hl) fun j v' e => ?_)
    · obtain ⟨d', e, q⟩ := h 0 v rfl
      cases e
      exact q
    · obtain ⟨d', e', q⟩ := h (j + 1) v' (by rw [List.getElem?_cons_succ]; exact e)
      exact ⟨d', by rw [List.getElem?_cons_succ] at e'; exact e', q⟩
  | [], _ :: _, hl, _ => by cases hl
  | _ :: _, [], hl, _ => by cases hl
/-- [a new tuple for k in range(..)] -/
theorem lc_tr {g : TG} {tt : TT} {te : TE} {vs : List Nat} {σ : L2.St} {H1 : Hp} {D : Addr} {Qd : Hp → Prop} {lo : Int} {n : Nat} (fx : Nat → List V) (hD : H1 D = none) (hz : n < sizeLine)
    (hs : ∀ i H, i < n → Same H1 H → ∀ (k1 : VK) (k0 : Hp → Prop), (∀ p H', H' p = some (.tup (fx i)) → Same H H' → k1 (.ref p) H') →
      g (.int (lo + (i : Nat))) (wipe σ vs) H fun σ2 H2 => wipe σ2 vs = wipe σ vs ∧ tt σ2 H2 fun b H3 => if b = true then te σ2 H3 k1 else k0 H3)
    (hd : ∀ H acc, Same H1 H → H D = some (.lst acc) → acc.length = n → (∀ j, j < n → ∃ p, acc[j]? = some (.ref p) ∧ H p = some (.tup (fx j))) → Qd H) : LcW (Itr lo n) g tt te vs σ H1 D Qd := by
  refine ⟨fun i m H => m = n - i ∧ i ≤ n ∧ Same H1 H ∧ ∃ acc, H D = some (.lst acc) ∧ acc.length = i ∧ ∀ j, j < i → ∃ p, acc[j]? = some (.ref p) ∧ H p = some (.tup (fx j)), ⟨n, by simp, Nat.zero_le _, Same.new hD, [], upd_same, rfl, fun j h => absurd h (Nat.not_lt_zero _)⟩, ?_⟩
  rintro i m H ⟨rfl, hi, s1, acc, h1, hl, ha⟩
  by_cases hlt : i < n
  · refine .inr ⟨hlt, fun H' => Same H1 H' ∧ ∃ acc, H' D = some (.lst acc) ∧ acc.length = i + 1 ∧ ∀ j, j < i + 1 → ∃ p, acc[j]? = some (.ref p) ∧ H' p = some (.tup (fx j)), fun H' p' => ⟨n - (i + 1), by omega, rfl, hlt, p'⟩, fun x H' y => ?_⟩
    obtain ⟨e, y⟩ := y
    subst e y
    refine hs i _ hlt s1 _ _ (fun p H'' hp s3 => ?_)
    refine ⟨acc, s3 _ _ h1, by omega, (s1.trans s3).mut hD, acc ++ [.ref p], upd_same, by rw [List.length_append, hl]; rfl, fun j hj => ?_⟩
    have hne : ∀ q u, H'' q = some (.tup u) → q ≠ D := fun q u e z => by
      rw [z, s3 _ _ h1] at e
      cases e
    by_cases h : j < i
    · obtain ⟨q, e1, e2⟩ := ha j h
      have e3 := s3 _ _ e2
      exact ⟨q, by rw [List.getElem?_append_left (by omega)]; exact e1, by rw [upd_ne (hne q _ e3)]; exact e3⟩
    · have : j = i := by omega
      subst this
      exact ⟨p, by rw [List.getElem?_append_right (by omega), hl, Nat.sub_self]; rfl, by rw [upd_ne (hne p _ hp)]; exact hp⟩
  · have e : i = n := by omega
    subst e
    exact .inl ⟨Nat.le_refl _, hd H acc s1 h1 hl ha⟩
end Nl

set_option Elab.async false
set_option linter.all false
set_option maxRecDepth 100000
set_option maxHeartbeats 4000000
namespace Nl
open PySem PySem.Spec PyProof.Rows L2 L2H
/-! ### match over a tuple whose first item is a text -/
/-- the cases of a match, by the subject -/
structure PMs (X : Cx) (cs : List MatchCase) (t : V → TS) : Prop where
  run : ∀ (pins : List (Addr × Obj)) (s : Shared) (σ : L2.St) (H : Hp) (D : Ends) (v : V) (u : Value) (first : Bool), Inv X pins σ H s → RelV v u → t v D σ H → wpAny (model X.prog X.w) X.A (matchCases cs X.env u first) (SP X pins D) X.xe s
def mNil : V → TS := fun _ D σ H => D.nx σ H
theorem pm_nil {X : Cx} : PMs X [] mNil := ⟨fun pins s σ H D v u first I r h => wpAny_matchCases_nil ⟨σ, H, I, h⟩⟩
/-- the names of the other items go to their slots -/
def setAll : List Nat → List V → L2.St → L2.St
  | i :: is, y :: ys, σ => setAll is ys (σ.set i (some y))
  | _, _, σ => σ
inductive Caps (X : Cx) : List Pattern → List Nat → Prop
  | nil : Caps X [] []
  | cons {x : Str} {p : Pos} {ps : List Pattern} {i : Nat} {is : List Nat} (hi : X.N[i]? = some x) (hx : Loc X.env.scope x) (hf : X.fn x = true ∨ X.env.scope.names.lookup x = some .local) (h : Caps X ps is) : Caps X (.MatchAs none (some x) p :: ps) (i :: is)
def capB : List Pattern → List Value → List (Str × Value)
  | .MatchAs none (some x) _ :: ps, u :: us => (x, u) :: capB ps us
  | _, _ => []
theorem Caps.len {X : Cx} {ps : List Pattern} {is : List Nat} (c : Caps X ps is) : ps.length = is.length := by
  induction c with
  | nil => rfl
  | cons _ _ _ _ ih => rw [List.length_cons, List.length_cons, ih]
theorem caps_each {X : Cx} {M : Model} {A : Around} {E : Value → Shared → Prop} {env : Env} {ps : List Pattern} {is : List Nat} (c : Caps X ps is) : ∀ {us : List Value} {s : Shared} {Q : Option (List (Str × Value)) → Shared → Prop}, us.length = ps.length → Q (some (capB ps us)) s → wpAny M A (matchEach ps env us) Q E s := by
  induction c with
  | nil => exact fun _ h => wpAny_matchEach_nil h
  | cons hi hx hf c ih =>
    intro us s Q hl h
    cases us with
    | nil => cases hl
    | cons u us =>
      refine wpAny_matchEach_cons (wpAny_matchPattern_Capture ?_)
      exact ih (Nat.succ.inj hl) h
theorem caps_set {X : Cx} (hN : X.N.Nodup) {pins : List (Addr × Obj)} {H : Hp} {ps : List Pattern} {is : List Nat} (c : Caps X ps is) : ∀ {ys : List V} {us : List Value} {σ : L2.St} {s : Shared} {Q : Unit → Shared → Prop}, Vals ys us → us.length = ps.length → Inv X pins σ H s → (∀ s', Inv X pins (setAll is ys σ) H s' → Q () s') →
    wpAny (model X.prog X.w) X.A (assignInOrder ((capB ps us).map fun (n, _) => bindName X.env n) ((capB ps us).map (·.2))) Q X.xe s := by
  induction c with
  | nil => exact fun r hl I h => wpAny_assignInOrder_none (by
      cases r with
      | nil => exact h _ I
      | cons _ _ => cases hl)
  | cons hi hx hf c ih =>
    intro ys us σ s Q r hl I h
    cases r with
    | nil => cases hl
    | cons r rr =>
      refine wpAny_assignInOrder_more (wpAny_bindName (store_ok I hN hi hx r (fun s1 I1 => ?_) hf))
      exact ih rr (Nat.succ.inj hl) I1 h
def mSeq (K : PySem.W.Frag) (x : Str) (is : List Nat) (b : TS) (r : V → TS) : V → TS := fun v D σ H => ∃ (a : Addr) (z : Str) (ys : List V), v = .ref a ∧ SqT K H a (.str z :: ys) ∧ (ys.length = is.length ∧ z = x → b D (setAll is ys σ) H) ∧ (¬ (ys.length = is.length ∧ z = x) → r v D σ H)
theorem pm_seq {X : Cx} (hc : X.calm = true) (hN : X.N.Nodup) {x : Str} {j : Nat} {p1 p2 p3 : Pos} {ps : List Pattern} {is : List Nat} {body : List Stmt} {rest : List MatchCase} {b : TS} {r : V → TS} (hC : Caps X ps is) (hb : PSs X body b) (hr : PMs X rest r)
    (hs : (Pattern.MatchValue (.Constant (.str x) j p1) p2 :: ps).findIdx? (·.isStar) = none := by rfl) (hw : ((Pattern.MatchValue (.Constant (.str x) j p1) p2 :: ps).all fun p => p.isWildcard || (p.isStar && p.names.isEmpty)) = false := by rfl) :
    PMs X (⟨.MatchSequence (.MatchValue (.Constant (.str x) j p1) p2 :: ps) p3, none, body⟩ :: rest) (mSeq X.K x is b r) := by
  refine ⟨fun pins s σ H D v u first I rv h => ?_⟩
  obtain ⟨a, z, ys, rfl, hS, h1, h0⟩ := h
  cases (show u = Value.ref a from rv)
  obtain ⟨its, ri, ht, hz⟩ := I.tuple hS
  have hfit : ((its.toArray.size : Nat) : Int) < 2 ^ 63 := by
    have e := ri.length
    rw [List.size_toArray, ← e]
    have : sizeLine < 2 ^ 63 := by decide
    omega
  cases ri with
  | @cons _ v0 _ us r0 rr =>
    have hlen := rr.length
    refine wpAny_matchCases_cons ?_
    by_cases hn : ys.length = is.length
    · have hps : (v0 :: us).toArray.size = (Pattern.MatchValue (.Constant (.str x) j p1) p2 :: ps).length := by
        rw [List.size_toArray, List.length_cons, List.length_cons, hC.len]
        omega
      refine matchSeq_tuple_hit ht hfit hps ?_ hs hw
      rw [← hps]
      refine unpackItems_tuple (I.ok.hd hc) ht fun h' hx => ?_
      have I1 : Inv X pins σ H { s with heap := h', toks := s.toks + 1 + 1 } := I.kept (t' := s.toks + 1 + 1) fun b o e => hx b o (Nat.ne_of_lt (Heap.lt_size e)) e
      refine wpAny_matchEach_cons (wpAny_matchPattern_Value ?_)
      refine thn ((pe_str (x := x) (j := j) (pos := p1)).run pins _ σ H (fun y H1 => y = .str x ∧ H1 = H) I1 ⟨rfl, rfl⟩) fun u1 s1 ⟨y, H1, I2, ry, ey, eH⟩ => ?_
      subst ey eH
      refine thn (op_eq pins s1 σ _ (.str z) (.str x) v0 u1 (fun q H2 => q = .bl (decide (V.str z = V.str x)) ∧ H2 = H1) I2 r0 ry ⟨rfl, rfl, rfl⟩) fun c s2 ⟨q, H2, I3, rq, eq, eH⟩ => ?_
      subst eq eH
      cases rq
      refine wpAny_truthy_bool ?_
      by_cases hzx : z = x
      · rw [if_pos (decide_eq_true (congrArg V.str hzx))]
        refine caps_each hC (by rw [hC.len]; omega) ?_
        refine caps_set hN hC rr (by rw [hC.len]; omega) I3 fun s3 I4 => ?_
        exact hb.run pins s3 _ _ D I4 (h1 ⟨hn, hzx⟩)
      · rw [if_neg (fun e => hzx (V.str.inj (of_decide_eq_true e)))]
        exact hr.run pins s2 σ _ D (.ref a) _ _ I3 rfl (h0 fun e => hzx e.2)
    · have hps : (v0 :: us).toArray.size ≠ (Pattern.MatchValue (.Constant (.str x) j p1) p2 :: ps).length := by
        rw [List.size_toArray, List.length_cons, List.length_cons, hC.len]
        omega
      exact matchSeq_tuple_miss ht hfit hps (hr.run pins _ σ _ D (.ref a) _ _ (I.tok _) rfl (h0 fun e => hn e.1)) hs hw
/-- match e: .. -/
def tMatch (te : TE) (t : V → TS) : TS := fun D σ H => te σ H fun v H1 => t v D σ H1
theorem ps_match {X : Cx} {e : Expr} {cs : List MatchCase} {pos : Pos} {te : TE} {t : V → TS} (he : PE X e te) (hm : PMs X cs t) : PS X (.Match e cs pos) (tMatch te t) := by
  refine ⟨fun pins s σ H D I h => ?_⟩
  exact wpAny_Match (thn (he.run pins s σ H _ I h) fun u s1 ⟨v, H1, I1, r, q⟩ => hm.run pins s1 σ H1 D v u true I1 r q)
end Nl

set_option Elab.async false
set_option linter.all false
set_option maxRecDepth 100000
set_option maxHeartbeats 4000000
namespace Nl
open PySem PySem.Spec PyProof.Rows L2 L2H
/-! ### a method of a class of the top, as it stands -/
def MethAt (K : PySem.W.Frag) (C : Addr) (m qual : Str) (st : Stmt) : Prop :=
  ∃ (f : Addr) (oc : Value) (od an : Option Addr) (osl : Array (Option Value)) (kV doc pm cdv ct : Value),
    PySem.W.findIn K (.ref C) m = some (some (.ref f)) ∧ PySem.W.isFn K (.ref f) = true ∧
    K.lookup f = some ⟨oc, od, .func (PySem.W.fnOf m qual (defArgs st) (defBody st) (defScope st) .none kV doc pm an cdv ct), osl⟩ ∧
    PySem.W.codeIn K cdv qual = true ∧ PySem.W.keepIn K (.ref f) = true
theorem meth_mk {K : PySem.W.Frag} {C : Addr} {m qual : Str} {st : Stmt} {f : Addr} {oc : Value} {od an : Option Addr} {osl : Array (Option Value)} {kV doc pm cdv ct : Value} (a : PySem.W.findIn K (.ref C) m = some (some (.ref f))) (i : PySem.W.isFn K (.ref f) = true)
    (l : K.lookup f = some ⟨oc, od, .func (PySem.W.fnOf m qual (defArgs st) (defBody st) (defScope st) .none kV doc pm an cdv ct), osl⟩) (c : PySem.W.codeIn K cdv qual = true) (k : PySem.W.keepIn K (.ref f) = true) : MethAt K C m qual st :=
  ⟨f, oc, od, an, osl, kV, doc, pm, cdv, ct, a, i, l, c, k⟩
theorem cls_mk {K : PySem.W.Frag} {C : Addr} (pg : PySem.W.plainGet K C Str.empty = true) (hd : PySem.W.hasDictIn K C = true) (po : PySem.W.plainOver K C = true) (sa : PySem.W.findIn K (.ref C) "__setattr__" = some (some (.builtin "object.__setattr__"))) : Cls K C := ⟨pg, hd, po, sa⟩
section
variable {P : Program} {w : World} {K : PySem.W.Frag} {mg : Str → Option Value} {base : Heap}
abbrev BindM (m qual : Str) (st : Stmt) (ps : List Str) : Prop := ∀ (kV doc pm : Value) (an : Option Addr) (cdv ct : Value) (us : List Value), us.length = ps.length →
  bindArgs (PySem.W.fnOf m qual (defArgs st) (defBody st) (defScope st) .none kV doc pm an cdv ct) ⟨us, []⟩ = pure (ps.zip us)
theorem met_of {C : Addr} {m qual : Str} {st : Stmt} {N ps : List Str} {k : Nat} {sp : Sp} (c : Cls K C) (D : MethAt K C m qual st) (S : FnScope N ps (defScope st)) (b : BindM m qual st ps) (len : ∀ vs H Q E, sp vs H Q E → vs.length = ps.length)
    (hbody : ∀ (f : Addr) (cdv : Value) (A : Around) (outer : List Env) (s : Shared) (H : Hp) (vs : List V) (Q : VK) (E : XK), Room k (A.deeper (envOfC qual (defScope st) s.heap.objs.size f cdv)) → sp vs H Q E →
      ∃ t, PSs (cxOf CX0 P w K mg base N qual (defScope st) f cdv A outer s H E).nox (defBody st) t ∧ t { nx := fun _ H' => Q .non H', rt := Q } (start N vs) H) : C8.Met P w K mg base (k + 1) C m sp [] := by
  obtain ⟨f, oc, od, an, osl, kV, doc, pm, cdv, ct, a, i, l, cc, kp⟩ := D
  have F := fun_mk (st := st) l cc kp
  exact ⟨f, _, ps, [], c, ⟨a, i, kp⟩, F.ok S len (fun cdv A outer s H vs Q E hr h => hbody f cdv A outer s H vs Q E hr h), F.binds b, .nil⟩
theorem mak_of {C : Addr} {x qual : Str} {st : Stmt} {N ps : List Str} {k : Nat} {sp : Sp} (mk : PySem.W.makesIn K C = true) (kc : PySem.W.keepIn K (.ref C) = true) (hm : mg x = some (.ref C)) (D : MethAt K C "__init__" qual st) (S : FnScope N ps (defScope st)) (b : BindM "__init__" qual st ps) (len : ∀ vs H Q E, sp vs H Q E → vs.length = ps.length)
    (hbody : ∀ (f : Addr) (cdv : Value) (A : Around) (outer : List Env) (s : Shared) (H : Hp) (vs : List V) (Q : VK) (E : XK), Room k (A.deeper (envOfC qual (defScope st) s.heap.objs.size f cdv)) → sp vs H Q E →
      ∃ t, PSs (cxOf CX0 P w K mg base N qual (defScope st) f cdv A outer s H E).nox (defBody st) t ∧ t { nx := fun _ H' => Q .non H', rt := Q } (start N vs) H) : C8.Mak P w K mg base (k + 1) x C sp [] := by
  obtain ⟨f, oc, od, an, osl, kV, doc, pm, cdv, ct, a, i, l, cc, kp⟩ := D
  have F := fun_mk (st := st) l cc kp
  exact ⟨f, _, ps, [], ⟨mk, a, i, kc⟩, F.ok S len (fun cdv A outer s H vs Q E hr h => hbody f cdv A outer s H vs Q E hr h), hm, F.binds b, .nil⟩
end
/-- all but two objects stay -/
def Fr (H H' : Hp) (a b : Addr) : Prop := ∀ q o, H q = some o → q ≠ a → q ≠ b → H' q = some o
end Nl

set_option Elab.async false
set_option linter.all false
set_option maxRecDepth 100000
set_option maxHeartbeats 4000000
namespace Nl
open PySem PySem.Spec PyProof.Rows L2 L2H
structure ExcT (K : PySem.W.Frag) (mg : Str → Option Value) (x : Str) (C : Addr) : Prop where
  g : mg x = some (.ref C)
  x : PySem.W.excIn K C [.type "ValueError", .type "Exception", .type "BaseException", .type "object"] "ValueError.__new__" = true
  k : PySem.W.keepIn K (.ref C) = true
  b : PySem.W.subIn K (.ref C) (.type "BaseException") = some true
  t : PySem.W.typeIn K (.ref C) = some (.type "type")
theorem glob_mk {K : PySem.W.Frag} {x : Str} {v : V} {u : Value} (h : PySem.W.nsIn K mainGlobals x = some (some u)) (r : RelV v u) : ∃ u, PySem.W.nsIn K mainGlobals x = some (some u) ∧ RelV v u := ⟨u, h, r⟩
section
variable {P : Program} {w : World} {K : PySem.W.Frag} {mg : Str → Option Value} {base : Heap}
theorem Cal.imp {CX : CXT} {k : Nat} {x : Str} {sp sp2 : Sp} (c : Cal P w K mg base CX k x sp) (h : ∀ vs H Q E, sp2 vs H Q E → sp vs H Q E) : Cal P w K mg base CX k x sp2 := by
  obtain ⟨f, fd, ps, F, r⟩ := c.ex
  exact ⟨f, fd, ps, F.imp h, r⟩
end
/-- the type of a thing that is no object of the program's own -/
def spWhole (K : PySem.W.Frag) : Sp := fun vs H Q _ => ∃ (v : V) (n : String), vs = [v] ∧ TyX K H v (.type n) ∧ kitB n "int" = some (decide (n = "int" ∨ n = "bool")) ∧ kitB n "bool" = some (decide (n = "bool")) ∧ Q (.bl (decide (n = "int"))) H
/-- a whole number from lo to hi, any thing at all -/
def wholeV (v : V) (lo hi : Int) : Bool := match v with
  | .int i => decide (lo ≤ i) && decide (i ≤ hi)
  | _ => false
/-- what is asked of a thing of any type that is no object of the program's own -/
def AnyT (K : PySem.W.Frag) (H : Hp) (v : V) : Prop := ∃ n : String, TyX K H v (.type n) ∧ kitB n "int" = some (decide (n = "int" ∨ n = "bool")) ∧ kitB n "bool" = some (decide (n = "bool")) ∧ (n = "int" → ∃ i, v = .int i) ∧ ∀ i, v = .int i → n = "int"
def spIsWholeV (K : PySem.W.Frag) : Sp := fun vs H Q _ => ∃ (v : V) (lo hi : Int), vs = [v, .int lo, .int hi] ∧ AnyT K H v ∧ Q (.bl (wholeV v lo hi)) H
def spIsWhole (K : PySem.W.Frag) : Sp := fun vs H Q _ => ∃ (v : V) (d : PyData) (lo hi : Int), vs = [v, .int lo, .int hi] ∧ Dp K H v d ∧ Q (.bl (wholeIn d lo hi)) H
theorem any_dp {K : PySem.W.Frag} {H : Hp} {v : V} {d : PyData} (h : Dp K H v d) : AnyT K H v := by
  refine ⟨tyN d, dp_ty h, kit_int d, kit_bool d, fun e => ?_, fun i e => ?_⟩
  · cases h with
    | int i => exact ⟨i, rfl⟩
    | _ => simp [tyN] at e
  · subst e
    cases h
    rfl
theorem any_int {K : PySem.W.Frag} {H : Hp} (i : Int) : AnyT K H (.int i) := any_dp (.int i)
theorem whole_dp {K : PySem.W.Frag} {H : Hp} {v : V} {d : PyData} (h : Dp K H v d) (lo hi : Int) : wholeV v lo hi = wholeIn d lo hi := by
  cases h <;> rfl
/-- readings by their names, for a comprehension -/
def rLen (K : PySem.W.Frag) : List V → Hp → VK → Prop := fun xs H Q => ∃ p ys, xs = [V.ref p] ∧ (SqL K H p ys ∨ SqT K H p ys) ∧ Q (V.int ys.length) H
def rListOf (K : PySem.W.Frag) : List V → Hp → VK → Prop := fun xs H Q => ∃ p ys, xs = [.ref p] ∧ (SqL K H p ys ∨ SqT K H p ys) ∧ ∀ l, H l = none → Q (.ref l) (upd H l (.lst ys))
/-! ### data that may be laid -/
theorem canAll {ds : List PyData} (h : ∀ d ∈ ds, PyData.canLay0 d = true) : PyData.canLayAll0 ds = true := by
  induction ds with
  | nil => rfl
  | cons d ds ih =>
    show (PyData.canLay0 d && PyData.canLayAll0 ds) = true
    rw [h d List.mem_cons_self, ih fun e he => h e (List.mem_cons_of_mem _ he)]
    rfl
theorem depAll {n : Nat} {ds : List PyData} (h : ∀ d ∈ ds, PyData.depth d ≤ n) : PyData.depthAll ds ≤ n := by
  induction ds with
  | nil => exact Nat.zero_le _
  | cons d ds ih =>
    rw [PyData.depthAll]
    exact Nat.max_le.mpr ⟨h d List.mem_cons_self, ih fun e he => h e (List.mem_cons_of_mem _ he)⟩
/-- texts that may be laid, not deeper than n -/
def okD (n : Nat) (d : PyData) : Prop := PyData.canLay0 d = true ∧ PyData.depth d ≤ n
theorem okD.mono {n m : Nat} {d : PyData} (h : okD n d) (e : n ≤ m) : okD m d := ⟨h.1, Nat.le_trans h.2 e⟩
theorem okD.tup {n : Nat} {ds : List PyData} (h : ∀ d ∈ ds, okD n d) : okD (n + 1) (.tuple ds) :=
  ⟨canAll fun d hd => (h d hd).1, by rw [PyData.depth]; exact Nat.succ_le_succ (depAll fun d hd => (h d hd).2)⟩
theorem okD.lst {n : Nat} {ds : List PyData} (h : ∀ d ∈ ds, okD n d) : okD (n + 1) (.list ds) :=
  ⟨canAll fun d hd => (h d hd).1, by rw [PyData.depth]; exact Nat.succ_le_succ (depAll fun d hd => (h d hd).2)⟩
theorem okD.shaped {n : Nat} {d : PyData} (h : okD n d) (e : n ≤ 64) : SeqAt.shaped d = true := by
  unfold SeqAt.shaped
  rw [h.1, decide_eq_true (Nat.le_trans h.2 e)]
  rfl
theorem okD.int (n : Nat) (i : Int) : okD n (.int i) := ⟨rfl, Nat.zero_le _⟩
theorem okD.bl (n : Nat) (i : Bool) : okD n (.bool i) := ⟨rfl, Nat.zero_le _⟩
theorem okD.non (n : Nat) : okD n .none := ⟨rfl, Nat.zero_le _⟩
theorem okD.str (n : Nat) {z : Str} (h : PyData.strOk z = true) : okD n (.str z) := ⟨h, Nat.zero_le _⟩
theorem okD.ints {n : Nat} (ns : List Int) : ∀ d ∈ (ns.map V.int).map dOf, okD n d := fun d hd => by
  rw [List.map_map] at hd
  obtain ⟨i, _, rfl⟩ := List.mem_map.mp hd
  exact .int _ _
theorem dpA_int {K : PySem.W.Frag} {H : Hp} (ns : List Int) : DpAll K H (ns.map V.int) ((ns.map V.int).map dOf) := dpAll_flat2 (by rw [List.all_map]; exact List.all_eq_true.mpr fun _ _ => rfl)
/-- of each place one thing: a list of them -/
theorem choose_list {α : Type} (P : Nat → α → Prop) : ∀ n : Nat, (∀ j, j < n → ∃ x, P j x) → ∃ l : List α, l.length = n ∧ ∀ j x, l[j]? = some x → P j x
  | 0, _ => ⟨[], rfl, fun j x e => by simp at e⟩
  | n + 1, h => by
    obtain ⟨l, hl, hp⟩ := choose_list P n fun j hj => h j (Nat.lt_succ_of_lt hj)
    obtain ⟨y, hy⟩ := h n (Nat.lt_succ_self n)
    refine ⟨l ++ [y], by rw [List.length_append, hl]; rfl, fun j x e => ?_⟩
    by_cases hj : j < l.length
    · rw [List.getElem?_append_left hj] at e
      exact hp j x e
    · rw [List.getElem?_append_right (by omega)] at e
      have h0 : j - l.length = 0 := by
        have := (List.getElem?_eq_some_iff.mp e).1
        simp only [List.length_singleton] at this
        omega
      rw [h0] at e
      cases e
      rw [show j = n by omega]
      exact hy
/-- [a new tuple for x in a list]; of each tuple R is known -/
theorem lc_le {K : PySem.W.Frag} {g : TG} {tt : TT} {te : TE} {vs : List Nat} {σ : L2.St} {H1 : Hp} {D a : Addr} {Qd : Hp → Prop} {xs : List V} (R : Nat → List V → Prop) (hD : H1 D = none) (hq : SqL K H1 a xs) (hz : xs.length < sizeLine)
    (hs : ∀ i x H, xs[i]? = some x → Same H1 H → ∀ (k1 : VK) (k0 : Hp → Prop), (∀ p fx H', R i fx → H' p = some (.tup fx) → Same H H' → k1 (.ref p) H') →
      g x (wipe σ vs) H fun σ2 H2 => wipe σ2 vs = wipe σ vs ∧ tt σ2 H2 fun b H3 => if b = true then te σ2 H3 k1 else k0 H3)
    (hd : ∀ H acc, Same H1 H → H D = some (.lst acc) → acc.length = xs.length → (∀ j, j < xs.length → ∃ p fx, acc[j]? = some (.ref p) ∧ H p = some (.tup fx) ∧ R j fx) → Qd H) : LcW (Itl K a) g tt te vs σ H1 D Qd := by
  refine ⟨fun i m H => m = xs.length - i ∧ i ≤ xs.length ∧ Same H1 H ∧ ∃ acc, H D = some (.lst acc) ∧ acc.length = i ∧ ∀ j, j < i → ∃ p fx, acc[j]? = some (.ref p) ∧ H p = some (.tup fx) ∧ R j fx, ⟨xs.length, by simp, Nat.zero_le _, Same.new hD, [], upd_same, rfl, fun j h => absurd h (Nat.not_lt_zero _)⟩, ?_⟩
  rintro i m H ⟨rfl, hi, s1, acc, h1, hl, ha⟩
  by_cases hlt : i < xs.length
  · refine .inr ⟨⟨xs, xs[i], s1.seq hq, by simp [hlt]⟩, fun H' => Same H1 H' ∧ ∃ acc, H' D = some (.lst acc) ∧ acc.length = i + 1 ∧ ∀ j, j < i + 1 → ∃ p fx, acc[j]? = some (.ref p) ∧ H' p = some (.tup fx) ∧ R j fx, fun H' p' => ⟨xs.length - (i + 1), by omega, rfl, hlt, p'⟩, fun x H' y => ?_⟩
    obtain ⟨e, y⟩ := y
    subst e
    refine hs i x _ (y xs (s1.seq hq)) s1 _ _ (fun p fx H'' hR hp s3 => ?_)
    refine ⟨acc, s3 _ _ h1, by omega, (s1.trans s3).mut hD, acc ++ [.ref p], upd_same, by rw [List.length_append, hl]; rfl, fun j hj => ?_⟩
    have hne : ∀ q u, H'' q = some (.tup u) → q ≠ D := fun q u e z => by
      rw [z, s3 _ _ h1] at e
      cases e
    by_cases h : j < i
    · obtain ⟨q, fy, e1, e2, e4⟩ := ha j h
      have e3 := s3 _ _ e2
      exact ⟨q, fy, by rw [List.getElem?_append_left (by omega)]; exact e1, by rw [upd_ne (hne q _ e3)]; exact e3, e4⟩
    · have : j = i := by omega
      subst this
      exact ⟨p, fx, by rw [List.getElem?_append_right (by omega), hl, Nat.sub_self]; rfl, by rw [upd_ne (hne p _ hp)]; exact hp, hR⟩
  · have e : i = xs.length := by omega
    subst e
    exact .inl ⟨⟨xs, s1.seq hq, Nat.le_refl _⟩, hd H acc s1 h1 hl ha⟩
/-- a slice of a list of whole numbers -/
theorem cutV_int (ns : List Int) (lo hi : Option Int) : ∃ cs : List Int, cutV (ns.map V.int) lo hi = cs.map V.int ∧ cs.length ≤ ns.length := by
  unfold cutV
  rw [← List.map_drop, ← List.map_take]
  refine ⟨_, rfl, ?_⟩
  rw [List.length_take, List.length_drop]
  omega
end Nl

set_option linter.all false
namespace Nl
/-! ### lines by their last touch, the longest ago first -/
def ordS (o : List Int) (x : Int) : List Int := o.filter (fun y => y != x) ++ [x]
def ordL (ls : List Int) : List Int := ls.foldl ordS []
theorem ordL_snoc (ls : List Int) (x : Int) : ordL (ls ++ [x]) = ordS (ordL ls) x := by
  unfold ordL
  rw [List.foldl_append]
  rfl
theorem flt_id {o : List Int} {x : Int} (h : x ∉ o) : o.filter (fun y => y != x) = o := List.filter_eq_self.mpr fun a ha => by
  have : a ≠ x := fun e => h (e ▸ ha)
  simpa using this
theorem mem_ordS {o : List Int} {x y : Int} : y ∈ ordS o x ↔ y ∈ o ∨ y = x := by
  unfold ordS
  rw [List.mem_append, List.mem_filter, List.mem_singleton]
  by_cases h : y = x <;> simp [h]
theorem mem_ordF {y : Int} : ∀ {ls o : List Int}, y ∈ ls.foldl ordS o ↔ y ∈ o ∨ y ∈ ls
  | [], o => by simp
  | x :: ls, o => by
    rw [List.foldl_cons, mem_ordF, mem_ordS, List.mem_cons]
    exact or_assoc
theorem mem_ordL {y : Int} {ls : List Int} : y ∈ ordL ls ↔ y ∈ ls := by
  unfold ordL
  rw [mem_ordF]
  simp
theorem nd_ordS {o : List Int} {x : Int} (h : o.Nodup) : (ordS o x).Nodup := by
  unfold ordS
  rw [List.nodup_append]
  refine ⟨h.filter _, by simp, fun a ha b hb => ?_⟩
  rw [List.mem_singleton] at hb
  rw [hb]
  have := (List.mem_filter.mp ha).2
  simpa using this
theorem nd_ordF : ∀ {ls o : List Int}, o.Nodup → (ls.foldl ordS o).Nodup
  | [], o, h => h
  | x :: ls, o, h => nd_ordF (ls := ls) (nd_ordS h)
theorem nd_ordL (ls : List Int) : (ordL ls).Nodup := nd_ordF List.nodup_nil
theorem ordF_front {y : Int} : ∀ {seg o : List Int}, y ∉ o → seg.foldl ordS (y :: o) = if y ∈ seg then seg.foldl ordS o else y :: seg.foldl ordS o
  | [], o, h => by simp
  | z :: seg, o, h => by
    rw [List.foldl_cons, List.foldl_cons]
    by_cases e : y = z
    · subst e
      have : ordS (y :: o) y = ordS o y := by
        unfold ordS
        rw [List.filter_cons]
        simp
      rw [this, if_pos List.mem_cons_self]
    · have h1 : ordS (y :: o) z = y :: ordS o z := by
        unfold ordS
        rw [List.filter_cons]
        simp [e]
      have h2 : y ∉ ordS o z := fun hm => (mem_ordS.mp hm).elim h e
      rw [h1, ordF_front h2]
      simp [List.mem_cons, e]
theorem ordL_cons {y : Int} {seg : List Int} : ordL (y :: seg) = if y ∈ seg then ordL seg else y :: ordL seg := by
  have := ordF_front (y := y) (seg := seg) (o := []) (by simp)
  unfold ordL
  rw [List.foldl_cons]
  show seg.foldl ordS (ordS [] y) = _
  rw [show ordS [] y = [y] by rfl]
  exact this
theorem ordF_mid {x : Int} : ∀ {seg A B : List Int}, x ∉ seg → x ∉ A → x ∉ B → ∃ A', x ∉ A' ∧ seg.foldl ordS (A ++ x :: B) = A' ++ x :: seg.foldl ordS B
  | [], A, B, h, ha, hb => ⟨A, ha, rfl⟩
  | z :: seg, A, B, h, ha, hb => by
    have hz : x ≠ z := fun e => h (e ▸ List.mem_cons_self)
    have e1 : ordS (A ++ x :: B) z = A.filter (fun y => y != z) ++ x :: ordS B z := by
      unfold ordS
      rw [List.filter_append, List.filter_cons]
      simp [hz]
    rw [List.foldl_cons, e1, List.foldl_cons]
    exact ordF_mid (fun hm => h (List.mem_cons_of_mem _ hm)) (fun hm => ha (List.mem_filter.mp hm).1) (fun hm => (mem_ordS.mp hm).elim hb hz)
/-- the depth of a touch of x behind lines of which o tells the order -/
def depO (o : List Int) (x : Int) : Option Nat := if x ∈ o then some (o.length - 1 - o.idxOf x) else none
theorem idx_mid {x : Int} : ∀ {A B : List Int}, x ∉ A → (A ++ x :: B).idxOf x = A.length
  | [], B, h => by simp
  | a :: A, B, h => by
    have : a ≠ x := fun e => h (e ▸ List.mem_cons_self)
    rw [List.cons_append, List.idxOf_cons, show (a == x) = false by simpa using this, List.length_cons, ← idx_mid (A := A) (B := B) fun hm => h (List.mem_cons_of_mem _ hm)]
    rfl
theorem dep_mid {x : Int} {A B : List Int} (h : x ∉ A) : depO (A ++ x :: B) x = some B.length := by
  unfold depO
  rw [if_pos (by simp), idx_mid h]
  congr 1
  simp only [List.length_append, List.length_cons]
  omega
/-- by the lines between a touch and the last one of its own line -/
theorem dep_seg {x : Int} {pre seg : List Int} (h : x ∉ seg) : depO (ordL (pre ++ x :: seg)) x = some (ordL seg).length := by
  unfold ordL
  rw [List.foldl_append, List.foldl_cons]
  obtain ⟨A', h1, h2⟩ := ordF_mid (x := x) (seg := seg) (A := (pre.foldl ordS []).filter (fun y => y != x)) (B := []) h (fun hm => by simpa using (List.mem_filter.mp hm).2) (by simp)
  rw [show ordS (pre.foldl ordS []) x = (pre.foldl ordS []).filter (fun y => y != x) ++ x :: [] from rfl, h2, dep_mid h1]
theorem dep_none {x : Int} {ls : List Int} (h : x ∉ ls) : depO (ordL ls) x = none := by
  unfold depO
  rw [if_neg fun hm => h (mem_ordL.mp hm)]
/-! ### room for R lines by the rule least -/
def lastN (R : Nat) (o : List Int) : List Int := o.drop (o.length - R)
def nearS (R : Nat) (near : List Int) (x : Int) : List Int := if x ∈ near then near.filter (fun y => y != x) ++ [x] else (if near.length = R then near.drop 1 else near) ++ [x]
theorem lastN_of {R : Nat} {A B : List Int} (h : B.length = R ∨ (A = [] ∧ B.length ≤ R)) : lastN R (A ++ B) = B := by
  unfold lastN
  rcases h with h | ⟨h, h2⟩
  · rw [List.length_append, show A.length + B.length - R = A.length by omega]
    simp
  · subst h
    rw [List.nil_append, show B.length - R = 0 by omega]
    rfl
theorem lastN_split (R : Nat) (o : List Int) : ∃ A, o = A ++ lastN R o ∧ ((lastN R o).length = R ∨ (A = [] ∧ (lastN R o).length ≤ R)) := by
  refine ⟨o.take (o.length - R), (List.take_append_drop _ _).symm, ?_⟩
  unfold lastN
  rw [List.length_drop]
  by_cases h : R ≤ o.length
  · exact .inl (by omega)
  · refine .inr ⟨?_, by omega⟩
    rw [show o.length - R = 0 by omega]
    rfl
theorem near_last {R : Nat} (hR : 1 ≤ R) {o : List Int} (ho : o.Nodup) (x : Int) : nearS R (lastN R o) x = lastN R (ordS o x) := by
  obtain ⟨A, e, hs⟩ := lastN_split R o
  generalize lastN R o = B at e hs
  subst e
  have hAB := List.nodup_append.mp ho
  by_cases hB : x ∈ B
  · have hA : x ∉ A := fun h => hAB.2.2 x h x hB rfl
    have e1 : ordS (A ++ B) x = A ++ (B.filter (fun y => y != x) ++ [x]) := by
      unfold ordS
      rw [List.filter_append, flt_id hA, List.append_assoc]
    have hl : (B.filter (fun y => y != x) ++ [x]).length = B.length := by
      have e2 : B.filter (fun y => y != x) = B.erase x := by rw [hAB.2.1.erase_eq_filter]
      rw [e2, List.length_append, List.length_erase_of_mem hB]
      have := List.length_pos_of_mem hB
      simp only [List.length_singleton]
      omega
    rw [e1, lastN_of (by rw [hl]; exact hs)]
    unfold nearS
    rw [if_pos hB]
  · unfold nearS
    rw [if_neg hB]
    have e1 : ordS (A ++ B) x = A.filter (fun y => y != x) ++ (B ++ [x]) := by
      unfold ordS
      rw [List.filter_append, flt_id hB, List.append_assoc]
    rw [e1]
    by_cases hf : B.length = R
    · rw [if_pos hf]
      cases B with
      | nil => simp only [List.length_nil] at hf; omega
      | cons b B =>
        rw [show A.filter (fun y => y != x) ++ (b :: B ++ [x]) = (A.filter (fun y => y != x) ++ [b]) ++ (B ++ [x]) by simp]
        rw [lastN_of (.inl (by rw [List.length_append]; exact hf))]
        rfl
    · rw [if_neg hf]
      rcases hs with hs | ⟨hA, hs⟩
      · exact absurd hs hf
      · subst hA
        rw [show List.filter (fun y => y != x) ([] : List Int) = [] from rfl]
        exact (lastN_of (.inr ⟨rfl, by rw [List.length_append, List.length_singleton]; omega⟩)).symm
theorem mem_last {R : Nat} {o : List Int} (ho : o.Nodup) (x : Int) : x ∈ lastN R o ↔ ∃ d, depO o x = some d ∧ d < R := by
  obtain ⟨A, e, hs⟩ := lastN_split R o
  generalize lastN R o = B at e hs
  subst e
  have hAB := List.nodup_append.mp ho
  constructor
  · intro hB
    have hA : x ∉ A := fun h => hAB.2.2 x h x hB rfl
    obtain ⟨B1, B2, rfl⟩ := List.append_of_mem hB
    have h1 : x ∉ B1 := fun h => by
      have := (List.nodup_append.mp hAB.2.1).2.2 x h x List.mem_cons_self
      exact this rfl
    rw [← List.append_assoc]
    refine ⟨B2.length, dep_mid fun h => (List.mem_append.mp h).elim hA h1, ?_⟩
    simp only [List.length_append, List.length_cons] at hs
    rcases hs with hs | ⟨_, hs⟩ <;> omega
  · rintro ⟨d, hd, hlt⟩
    by_cases hB : x ∈ B
    · exact hB
    · by_cases hA : x ∈ A
      · obtain ⟨A1, A2, rfl⟩ := List.append_of_mem hA
        have h1 : x ∉ A1 := fun h => by
          have := (List.nodup_append.mp hAB.1).2.2 x h x List.mem_cons_self
          exact this rfl
        rw [List.append_assoc, List.cons_append, dep_mid h1] at hd
        cases hd
        rw [List.length_append] at hlt
        rcases hs with hs | ⟨hs, _⟩
        · omega
        · simp at hs
      · unfold depO at hd
        rw [if_neg fun h => (List.mem_append.mp h).elim hA hB] at hd
        cases hd
theorem last_sub {R : Nat} {o : List Int} {x : Int} (h : x ∈ lastN R o) : x ∈ lastN (R + 1) o := by
  unfold lastN at h ⊢
  obtain ⟨k, hk, e⟩ := List.mem_iff_getElem.mp h
  have hl : k < o.length - (o.length - R) := by rw [List.length_drop] at hk; exact hk
  refine List.mem_iff_getElem.mpr ⟨k + (o.length - R - (o.length - (R + 1))), by rw [List.length_drop]; omega, ?_⟩
  rw [List.getElem_drop] at e ⊢
  rw [← e]
  congr 1
  omega
end Nl

set_option Elab.async false
set_option linter.all false
set_option maxRecDepth 100000
set_option maxHeartbeats 4000000
namespace Nl
open PySem PySem.Spec PyProof.Rows L2 L2H
/-! ### rows of touches -/
/-- us are the touches ts -/
def TsAt (H : Hp) (us : List V) (ts : List (Str × Int)) : Prop := us.length = ts.length ∧ ∀ (j : Nat) (t : Str × Int), ts[j]? = some t → ∃ q, us[j]? = some (V.ref q) ∧ H q = some (.tup [.str t.1, .int t.2])
theorem TsAt.same {H H' : Hp} {us : List V} {ts : List (Str × Int)} (h : TsAt H us ts) (s : Same H H') : TsAt H' us ts := ⟨h.1, fun j t e => by
  obtain ⟨q, e1, e2⟩ := h.2 j t e
  exact ⟨q, e1, s _ _ e2⟩⟩
/-- while the list at a changes -/
theorem TsAt.mut {H H' : Hp} {us : List V} {ts : List (Str × Int)} {a : Addr} {ux : List V} (h : TsAt H us ts) (ha : H a = some (.lst ux)) (f : ∀ q o, H q = some o → q ≠ a → H' q = some o) : TsAt H' us ts := ⟨h.1, fun j t e => by
  obtain ⟨q, e1, e2⟩ := h.2 j t e
  exact ⟨q, e1, f _ _ e2 fun z => by rw [z, ha] at e2; cases e2⟩⟩
theorem TsAt.snoc {H : Hp} {us : List V} {ts : List (Str × Int)} {t : Str × Int} {q : Addr} (h : TsAt H us ts) (hq : H q = some (.tup [.str t.1, .int t.2])) : TsAt H (us ++ [.ref q]) (ts ++ [t]) := by
  refine ⟨by rw [List.length_append, List.length_append, h.1]; rfl, fun j t' e => ?_⟩
  have hl := h.1
  by_cases hj : j < ts.length
  · rw [List.getElem?_append_left hj] at e
    obtain ⟨q', e1, e2⟩ := h.2 j t' e
    exact ⟨q', by rw [List.getElem?_append_left (by omega)]; exact e1, e2⟩
  · rw [List.getElem?_append_right (by omega)] at e
    have hj0 : j - ts.length = 0 := by
      have := (List.getElem?_eq_some_iff.mp e).1
      simp only [List.length_singleton] at this
      omega
    rw [hj0] at e
    cases e
    exact ⟨q, by rw [List.getElem?_append_right (by omega), show j - us.length = 0 by omega]; rfl, hq⟩
def RW (t : Str × Int) : Prop := t.1 = "read" ∨ t.1 = "write"
def tsD (t : Str × Int) : PyData := .tuple [.str t.1, .int t.2]
theorem ts_ok {t : Str × Int} (h : RW t) : okD 1 (tsD t) := .tup fun d hd => by
  rcases List.mem_cons.mp hd with rfl | hd
  · exact .str _ (by rcases h with h | h <;> rw [h] <;> decide +kernel)
  · cases List.mem_singleton.mp hd
    exact .int _ _
theorem tsl_ok {ts : List (Str × Int)} (h : ∀ t ∈ ts, RW t) : okD 2 (.list (ts.map tsD)) := .lst fun d hd => by
  obtain ⟨t, ht, rfl⟩ := List.mem_map.mp hd
  exact ts_ok (h t ht)
theorem TsAt.dp {K : PySem.W.Frag} {H : Hp} {us : List V} {ts : List (Str × Int)} (h : TsAt H us ts) : DpAll K H us (ts.map tsD) := by
  refine dpA_by (by rw [List.length_map]; exact h.1) fun j v e => ?_
  have hj : j < ts.length := by
    obtain ⟨hj, _⟩ := List.getElem?_eq_some_iff.mp e
    have := h.1
    omega
  obtain ⟨q, e1, e2⟩ := h.2 j _ (List.getElem?_eq_getElem hj)
  rw [e] at e1
  cases e1
  exact ⟨tsD ts[j], by rw [List.getElem?_map, List.getElem?_eq_getElem hj]; rfl, .tup (SqT.of e2) (.cons (.str _) (.cons (.int _) .nil))⟩
theorem eqV_int {a b : Int} : eqV (.int a) (.int b) = true ↔ a = b := by
  show (a == b) = true ↔ a = b
  exact beq_iff_eq
theorem inV_int (y : Int) (os : List Int) : inV (.int y) (os.map V.int) = decide (y ∈ os) := by
  rw [Bool.eq_iff_iff, decide_eq_true_eq]
  unfold inV
  rw [List.any_map, List.any_eq_true]
  constructor
  · rintro ⟨z, hz, e⟩
    have := eqV_int.mp e
    first
    | (subst this; exact hz)
    | (rw [← this]; exact hz)
  · exact fun h => ⟨y, h, eqV_int.mpr rfl⟩
/-- the lines of touches -/
def linesOf (w : Int) (ts : List (Str × Int)) : List Int := ts.map fun t => t.2 / w
/-- over a list: what is made of item i is known by its place -/
theorem lc_fi {K : PySem.W.Frag} {g : TG} {tt : TT} {te : TE} {vs : List Nat} {σ : L2.St} {H1 : Hp} {D a : Addr} {Qd : Hp → Prop} {xs : List V} (fs : Nat → Option V) (hD : H1 D = none) (hq : SqL K H1 a xs) (hz : xs.length < sizeLine) (hs : ∀ (i : Nat) x H, xs[i]? = some x → Same H1 H → LcTurn g tt te vs σ x H (fs i))
    (hd : ∀ H, Same H1 H → H D = some (.lst ((List.range xs.length).filterMap fs)) → Qd H) : LcW (Itl K a) g tt te vs σ H1 D Qd :=
  lc_gen xs.length (fun i x _ => xs[i]? = some x) fs hD hz
    (fun i H hi s => ⟨xs, xs[i], s.seq hq, by simp [hi]⟩) (fun H s => ⟨xs, s.seq hq, Nat.le_refl _⟩) (fun i H x H' hi s y => by
      obtain ⟨e, y⟩ := y
      subst e
      exact ⟨Same.refl _, y xs (s.seq hq)⟩)
    (fun i x H hi s r k1 k0 h1 h0 => hs i x H r s k1 k0 h1 h0) hd
/-- what range_fm gives of whole numbers -/
theorem range_ints (ls : List Int) (n : Nat) (hn : n = ls.length) : (List.range n).filterMap (fun i => (ls[i]?).bind fun x => some (V.int x)) = ls.map V.int := by
  rw [hn, range_fm, fm_some]
/-- a whole number or None -/
def ovV : Option Nat → V
  | none => .non
  | some d => .int (d : Nat)
theorem flat_ov (o : Option Nat) : flatV (ovV o) = true := by cases o <;> rfl
def depsL (ls : List Int) : List (Option Nat) := (List.range ls.length).map fun k => depO (ordL (ls.take k)) (ls.getD k 0)
theorem depO_le {o : List Int} {x : Int} {d : Nat} (h : depO o x = some d) : d ≤ o.length := by
  unfold depO at h
  split at h
  · cases h
    omega
  · cases h
theorem ordL_len (ls : List Int) : (ordL ls).length ≤ ls.length := by
  have h : ∀ (ls o : List Int), (ls.foldl ordS o).length ≤ o.length + ls.length := by
    intro ls
    induction ls with
    | nil => intro o; simp
    | cons x ls ih =>
      intro o
      have h1 := ih (ordS o x)
      have h2 : (ordS o x).length ≤ o.length + 1 := by
        unfold ordS
        rw [List.length_append]
        have := List.length_filter_le (fun y => y != x) o
        simp only [List.length_singleton]
        omega
      rw [List.foldl_cons, List.length_cons]
      omega
  have := h ls []
  simpa [ordL] using this
end Nl

set_option Elab.async false
set_option linter.all false
set_option maxRecDepth 100000
set_option maxHeartbeats 4000000
namespace Nl
open PySem PySem.Spec PyProof.Rows L2 L2H
/-! ### dicts whose keys are whole numbers -/
section
variable {α : Type}
/-- the dict of the pairs ps, in their order -/
def dk (g : α → V) (ps : List (Int × α)) : List (Key × V) := ps.map fun p => (.inl p.1, g p.2)
def lkP (ps : List (Int × α)) (l : Int) : Option α := (ps.find? fun p => decide (p.1 = l)).map (·.2)
def putP (ps : List (Int × α)) (l : Int) (v : α) : List (Int × α) := if l ∈ ps.map (·.1) then ps.map (fun p => if p.1 = l then (p.1, v) else p) else ps ++ [(l, v)]
def dropP (ps : List (Int × α)) (l : Int) : List (Int × α) := ps.filter fun p => p.1 != l
theorem dk_len (g : α → V) (ps : List (Int × α)) : (dk g ps).length = ps.length := by
  unfold dk
  rw [List.length_map]
theorem dk_val (g : α → V) (l : Int) : ∀ ps : List (Int × α), valV (dk g ps) (.inl l) = (lkP ps l).map g
  | [] => rfl
  | p :: ps => by
    have h := dk_val g l ps
    by_cases e : p.1 = l
    · rw [show dk g (p :: ps) = (.inl p.1, g p.2) :: dk g ps from rfl, valV_pos (by rw [e])]
      unfold lkP
      rw [List.find?_cons_of_pos (by simpa using e)]
      rfl
    · rw [show dk g (p :: ps) = (.inl p.1, g p.2) :: dk g ps from rfl, valV_neg (fun z => e (Sum.inl.inj z)), h]
      unfold lkP
      rw [List.find?_cons_of_neg (by simpa using e)]
theorem dk_drop (g : α → V) (l : Int) : ∀ ps : List (Int × α), dropK (dk g ps) (.inl l) = dk g (dropP ps l)
  | [] => rfl
  | p :: ps => by
    have h := dk_drop g l ps
    unfold dropK dropP at h ⊢
    rw [show dk g (p :: ps) = (.inl p.1, g p.2) :: dk g ps from rfl, List.filter_cons, List.filter_cons, h]
    by_cases e : p.1 = l
    · rw [if_neg (by simp [e]), if_neg (by simp [e])]
    · rw [if_pos (by simpa using e), if_pos (by simpa using e)]
      rfl
theorem dk_any (g : α → V) (l : Int) (ps : List (Int × α)) : ((dk g ps).any fun kv => decide (kv.1 = Sum.inl l)) = decide (l ∈ ps.map (·.1)) := by
  rw [Bool.eq_iff_iff, decide_eq_true_eq, List.any_eq_true]
  unfold dk
  constructor
  · rintro ⟨kv, hm, e⟩
    obtain ⟨p, hp, rfl⟩ := List.mem_map.mp hm
    exact List.mem_map.mpr ⟨p, hp, Sum.inl.inj (of_decide_eq_true e)⟩
  · intro h
    obtain ⟨p, hp, rfl⟩ := List.mem_map.mp h
    exact ⟨_, List.mem_map.mpr ⟨p, hp, rfl⟩, decide_eq_true rfl⟩
theorem dk_put (g : α → V) (l : Int) (v : α) (ps : List (Int × α)) : putK (dk g ps) (.inl l) (g v) = dk g (putP ps l v) := by
  unfold putK putP
  rw [dk_any]
  by_cases h : l ∈ ps.map (·.1)
  · rw [if_pos (decide_eq_true h), if_pos h]
    unfold dk
    rw [List.map_map, List.map_map]
    refine List.map_congr_left fun p _ => ?_
    show (if Sum.inl p.1 = Sum.inl l then (Sum.inl p.1, g v) else (Sum.inl p.1, g p.2)) = _
    by_cases e : p.1 = l
    · rw [if_pos (by rw [e])]
      simp [e]
    · rw [if_neg (fun z => e (Sum.inl.inj z))]
      simp [e]
  · rw [if_neg (fun z => h (of_decide_eq_true z)), if_neg h]
    unfold dk
    rw [List.map_append]
    rfl
theorem lk_some {ps : List (Int × α)} {l : Int} : (lkP ps l).isSome = decide (l ∈ ps.map (·.1)) := by
  unfold lkP
  rw [Option.isSome_map, Bool.eq_iff_iff, decide_eq_true_eq, List.find?_isSome]
  constructor
  · rintro ⟨p, hp, e⟩
    exact List.mem_map.mpr ⟨p, hp, of_decide_eq_true e⟩
  · intro h
    obtain ⟨p, hp, rfl⟩ := List.mem_map.mp h
    exact ⟨p, hp, decide_eq_true rfl⟩
theorem lk_none {ps : List (Int × α)} {l : Int} (h : l ∉ ps.map (·.1)) : lkP ps l = none := by
  have := lk_some (ps := ps) (l := l)
  rw [decide_eq_false h] at this
  exact Option.isNone_iff_eq_none.mp (by simpa using this)
theorem lk_mem {ps : List (Int × α)} {l : Int} {v : α} (h : lkP ps l = some v) : (l, v) ∈ ps := by
  unfold lkP at h
  obtain ⟨p, hp, rfl⟩ := Option.map_eq_some_iff.mp h
  have h1 := List.mem_of_find?_eq_some hp
  have h2 := List.find?_some hp
  rw [← of_decide_eq_true h2]
  exact h1
theorem drop_keys (ps : List (Int × α)) (l : Int) : (dropP ps l).map (·.1) = (ps.map (·.1)).filter (fun y => y != l) := by
  unfold dropP
  rw [List.filter_map]
  rfl
theorem put_new {ps : List (Int × α)} {l : Int} {v : α} (h : l ∉ ps.map (·.1)) : putP ps l v = ps ++ [(l, v)] := if_neg h
theorem put_keys (ps : List (Int × α)) (l : Int) (v : α) : (putP ps l v).map (·.1) = if l ∈ ps.map (·.1) then ps.map (·.1) else ps.map (·.1) ++ [l] := by
  unfold putP
  split
  · rw [List.map_map]
    refine List.map_congr_left fun p _ => ?_
    show (if p.1 = l then (p.1, v) else p).1 = p.1
    split <;> rfl
  · rw [List.map_append]
    rfl
end
/-- the dict that tells of lines that they are there -/
def tkP (near : List Int) : List (Int × Unit) := near.map fun l => (l, ())
def gT : Unit → V := fun _ => .bl true
theorem tk_keys (near : List Int) : (tkP near).map (·.1) = near := by
  unfold tkP
  rw [List.map_map]
  exact List.map_id' near
theorem tk_len (near : List Int) : (tkP near).length = near.length := by
  unfold tkP
  rw [List.length_map]
theorem tk_drop (near : List Int) (l : Int) : dropP (tkP near) l = tkP (near.filter fun y => y != l) := by
  unfold dropP tkP
  rw [List.filter_map]
  rfl
theorem tk_put {near : List Int} {l : Int} : putP (tkP near) l () = tkP (if l ∈ near then near else near ++ [l]) := by
  unfold putP
  rw [tk_keys]
  split
  · unfold tkP
    rw [List.map_map]
    refine List.map_congr_left fun p _ => ?_
    show (if p = l then (p, ()) else (p, ())) = (p, ())
    split <;> rfl
  · unfold tkP
    rw [List.map_append]
    rfl
theorem at_mapmod {α : Type} (f : α → V) (d : α) {ns : List α} (c : Int) {n : Int} (h : 0 < n) (e : (ns.length : Int) = n) : atI (ns.map f) (c % n) = some (f (ns.getD (c % n).toNat d)) := by
  have h0 := mod_nn c h
  have h1 := mod_lt c h
  refine at_in h0 ?_
  have : (c % n).toNat < ns.length := by omega
  rw [List.getElem?_map, List.getD_eq_getElem?_getD, List.getElem?_eq_getElem this]
  rfl
theorem at_map {α : Type} (f : α → V) {ns : List α} {k : Nat} {x : α} (e : ns[k]? = some x) : atI (ns.map f) (k : Nat) = some (f x) := at_in (by omega) (by rw [show ((k : Nat) : Int).toNat = k by omega, List.getElem?_map, e]; rfl)
theorem at_map0 {α : Type} (f : α → V) {ns : List α} {k : Nat} {x : α} (e : ns[k]? = some x) : atI (ns.map f) (0 + (k : Int)) = some (f x) := by
  rw [Int.zero_add]
  exact at_map f e
/-- a whole number or None -/
def oiV : Option Int → V
  | none => .non
  | some i => .int i
def oiD : Option Int → PyData
  | none => .none
  | some i => .int i
theorem oi_dp {K : PySem.W.Frag} {H : Hp} (o : Option Int) : Dp K H (oiV o) (oiD o) := by
  cases o with
  | none => exact .non
  | some i => exact .int i
theorem oi_ok (o : Option Int) (n : Nat) : okD n (oiD o) := by
  cases o with
  | none => exact .non n
  | some i => exact .int n i
theorem flat_oi (o : Option Int) : flatV (oiV o) = true := by cases o <;> rfl
theorem ois_dp {K : PySem.W.Frag} {H : Hp} : ∀ os : List (Option Int), DpAll K H (os.map oiV) (os.map oiD)
  | [] => .nil
  | o :: os => .cons (oi_dp o) (ois_dp os)
theorem ois_ok (os : List (Option Int)) : okD 1 (.list (os.map oiD)) := .lst fun d hd => by
  obtain ⟨o, _, rfl⟩ := List.mem_map.mp hd
  exact oi_ok o 0
end Nl

set_option Elab.async false
set_option linter.all false
set_option maxRecDepth 100000
set_option maxHeartbeats 4000000
namespace Nl
open PySem PySem.Spec PyProof.Rows L2 L2H
def top (i : Nat) : Stmt := PySem.Challenge.pw_nearlines_k13_plans_walked.main.body.getD i (.Pass ⟨0, 0, 0, 0⟩)
def inClass (st : Stmt) (i : Nat) : Stmt := match st with
  | .ClassDef (body := b) .. => b.getD i (.Pass ⟨0, 0, 0, 0⟩)
  | _ => .Pass ⟨0, 0, 0, 0⟩
theorem sz_ok {n : Nat} (h : Nat.ble n 1000 = true) : n ≤ sizeLine := Nat.le_trans (Nat.le_of_ble_eq_true h) (by decide)
local macro_rules | `(tactic| walk_at "rd") => `(tactic| first
  | refine ⟨_, rfl, ?_⟩
  | refine ⟨_, _, rfl, rfl, ⟨by decide, by decide⟩, ?_⟩
  | refine ⟨_, _, rfl, rfl, (by show (0 : Int) < _; decide), ?_⟩
  | refine ⟨_, _, rfl, rfl, .inr ⟨by decide, by decide⟩, ?_⟩
  | refine ⟨_, _, rfl, rfl, ?_⟩
  | refine ⟨rfl, ?_⟩)
theorem hu64_of {k : Nat} {A : Around} (hr : Room k A) : A.units + 64 < cLine := by
  have := hr.un
  omega

local macro_rules | `(tactic| walk_at "hp") => `(tactic| first
  | exact upd_same
  | assumption
  | (refine (upd_ne ?_).trans ?_; (first | assumption | exact Ne.symm (by assumption)); walk_at "hp"))

structure Txt (K : PySem.W.Frag) (w : World) (mg : Str → Option Value) : Prop extends Top K mg where
  len : mg "len" = none
  range : mg "range" = none
  isinstance : mg "isinstance" = none
  int : mg "int" = none
  list : mg "list" = none
  bool : mg "bool" = none
  zip : mg "zip" = none
section
variable {P : Program} {w : World} {K : PySem.W.Frag} {mg : Str → Option Value} {base : Heap}
def spLineOf : Sp := fun vs H Q _ => ∃ b wd : Int, vs = [.int b, .int wd] ∧ 0 < wd ∧ wd < 1073741824 ∧ Q (.int (b / wd)) H
abbrev s_line_of : Stmt := top 8
abbrev N_line_of : List Str := ["box", "width"]
theorem S_line_of : FnScope N_line_of ["box", "width"] (defScope s_line_of) := ⟨rfl, rfl, rfl, by decide +kernel, rfl, by decide +kernel, by decide +kernel⟩

theorem c_line_of (T : Txt K w mg) (D : DefAt K "line_of" s_line_of) : Cal P w K mg base CX0 1 "line_of" spLineOf := by
  have S := S_line_of
  refine cal_of T.toTop D S (fun _ _ _ _ _ _ us hl => match us, hl with | [_, _], _ => rfl) (fun vs H Q E h => ?_) (fun f cdv A outer s H vs Q E hr h => ?_)
  · obtain ⟨b, wd, rfl, _⟩ := h
    rfl
  · obtain ⟨b, wd, rfl, h0, h1, q⟩ := h
    refine ⟨_, (pss_one (ps_ret (pe_op op_fdiv (pv 0) (pv 1)))), ?_⟩
    exact ⟨_, rfl, _, rfl, _, _, rfl, rfl, ⟨h0, h1⟩, q⟩
def spLinesOf (K : PySem.W.Frag) : Sp := fun vs H Q _ => ∃ (a : Addr) (us : List V) (ts : List (Str × Int)) (wd : Int), vs = [.ref a, .int wd] ∧ SqL K H a us ∧ TsAt H us ts ∧ 0 < wd ∧ wd < 1073741824 ∧ us.length ≤ 900 ∧
  ∀ H' p, Same H H' → H p = none → H' p = some (.lst ((linesOf wd ts).map V.int)) → Q (.ref p) H'
abbrev s_lines_of : Stmt := top 9
abbrev N_lines_of : List Str := ["touches", "width", "_", "box"]
theorem S_lines_of : FnScope N_lines_of ["touches", "width"] (defScope s_lines_of) := ⟨rfl, rfl, rfl, by decide +kernel, rfl, by decide +kernel, by decide +kernel⟩

theorem c_lines_of (T : Txt K w mg) (D : DefAt K "lines_of" s_lines_of) (C_line_of : Cal P w K mg base CX0 1 "line_of" spLineOf) : Cal P w K mg base CX0 2 "lines_of" (spLinesOf K) := by
  have S := S_lines_of
  refine cal_of T.toTop D S (fun _ _ _ _ _ _ us hl => match us, hl with | [_, _], _ => rfl) (fun vs H Q E h => ?_) (fun f cdv A outer s H vs Q E hr h => ?_)
  · obtain ⟨a, us, ts, wd, rfl, _⟩ := h
    rfl
  · obtain ⟨a, us, ts, wd, rfl, hS, hT, h0, h1, hl, q⟩ := h
    refine ⟨_, (pss_one (ps_ret (pe_lc (own := [("_", 2), ("box", 3)]) (g := gTup K 2 (gCons (gName 2) (gCons (gName 3) gNil))) (tt := tYes) rfl S.nd (pi_list (pv 0)) (blkOk_by (own := [("_", 2), ("box", 3)]) (N := N_lines_of) (sc := defScope s_lines_of) (by decide +kernel)) (fun _ _ _ _ _ => by exact pg_tup rfl (pgs_cons (pg_name (i := 2) S.nd rfl (Or.inl rfl)) (pgs_cons (pg_name (i := 3) S.nd rfl (Or.inl rfl)) pgs_nil))) (fun _ _ _ _ _ => pts_nil) (fun _ _ _ _ _ => (pe_c C_line_of hr (by decide) rfl (pa_cons (pv 3) (pa_cons (pv 1) pa_nil))))))), ?_⟩
    refine ⟨_, rfl, a, rfl, ⟨_, hS⟩, fun D nD => lc_fi (fun i => ((linesOf wd ts)[i]?).bind fun x => some (V.int x)) nD hS (Nat.lt_of_le_of_lt hl (by decide)) (fun i x H' ex s k1 k0 k h0' => ?_) (fun H' s g => ?_)⟩
    · have hi : i < ts.length := by
        obtain ⟨hi, _⟩ := List.getElem?_eq_some_iff.mp ex
        have := hT.1
        omega
      obtain ⟨q1, e1, e2⟩ := hT.2 i _ (List.getElem?_eq_getElem hi)
      rw [ex] at e1
      cases e1
      refine ⟨q1, _, rfl, SqT.of (s _ _ e2), rfl, _, _, rfl, _, _, rfl, rfl, rfl, _, rfl, _, rfl, _, wd, rfl, h0, h1, ?_⟩
      exact k _ _ (by unfold linesOf; rw [List.getElem?_map, List.getElem?_eq_getElem hi]; rfl) (Same.refl _)
    · rw [range_ints _ _ (by unfold linesOf; rw [List.length_map]; exact hT.1)] at g
      exact q _ _ s nD g

def goB (near : List Int) : Option Int → Bool
  | none => false
  | some y => decide (y ∈ near)
/-- what goes at a touch of l: as it must, or not -/
def okGo (near : List Int) (room : Int) (l : Int) (g : Option Int) : Bool :=
  if l ∉ near ∧ (near.length : Nat) = room then goB near g else g.isNone
/-- the lines near behind it -/
def nearGo (near : List Int) (l : Int) (g : Option Int) : List Int :=
  let m := match g with | none => near | some y => near.filter (fun z => z != y)
  if l ∈ m then m else m ++ [l]
def walkP (room : Int) : List Int → Nat → List (Int × Option Int) → Option Nat
  | _, n, [] => some n
  | near, n, (l, g) :: r => if okGo near room l g = true then walkP room (nearGo near l g) (if l ∈ near then n else n + 1) r else none
def dOk (ps : List (Int × V)) (room l : Int) (g : Option Int) : Bool := okGo (ps.map (·.1)) room l g
abbrev s_is_any_whole : Stmt := top 11
abbrev N_is_any_whole : List Str := ["thing"]
theorem S_is_any_whole : FnScope N_is_any_whole ["thing"] (defScope s_is_any_whole) := ⟨rfl, rfl, rfl, by decide +kernel, rfl, by decide +kernel, by decide +kernel⟩

theorem c_any_whole (T : Txt K w mg) (D : DefAt K "is_any_whole" s_is_any_whole) : Cal P w K mg base CX0 1 "is_any_whole" (spWhole K) := by
  have S := S_is_any_whole
  refine cal_of T.toTop D S (fun _ _ _ _ _ _ us hl => match us, hl with | [_], _ => rfl) (fun vs H Q E h => ?_) (fun f cdv A outer s H vs Q E hr h => ?_)
  · obtain ⟨v, n, rfl, _⟩ := h
    rfl
  · obtain ⟨v, n, rfl, ty, k1, k2, q⟩ := h
    refine ⟨_, (pss_one (ps_ret (pe_and (pe_callB call_isi (by rfl) T.isinstance (by decide +kernel) (pa_cons (pv 0) (pa_cons ((pe_bltn (v := .ty "int") (u := .type "int") rfl T.int (by decide +kernel) rfl)) pa_nil))) (pe_one (pe_not (pe_callB call_isi (by rfl) T.isinstance (by decide +kernel) (pa_cons (pv 0) (pa_cons ((pe_bltn (v := .ty "bool") (u := .type "bool") rfl T.bool (by decide +kernel) rfl)) pa_nil)))))))), ?_⟩
    refine ⟨_, rfl, _, _, _, _, _, rfl, .ty _, ty, kit_ty k1, _, rfl, ?_⟩
    refine ite2 (fun h => ?_) (fun h => ?_)
    · refine ⟨_, rfl, _, _, _, _, _, rfl, .ty _, ty, kit_ty k2, _, rfl, ?_⟩
      have h := of_decide_eq_true h
      have e : (!decide (n = "bool")) = decide (n = "int") := by
        rcases h with h | h <;> subst h <;> rfl
      show Q (V.bl (!decide (n = "bool"))) H
      rw [e]
      exact q
    · have e : decide (n = "int") = false := decide_eq_false fun z => h (decide_eq_true (.inl z))
      rw [e] at q
      exact q

def spOneMustGo (K : PySem.W.Frag) : Sp := fun vs H Q _ => ∃ (l room : Int) (d : Addr) (α : Type) (gv : α → V) (ps : List (Int × α)), vs = [.int l, .ref d, .int room] ∧ H d = some (.dK (dk gv ps)) ∧ Q (.bl (decide (l ∉ ps.map (·.1)) && decide ((ps.length : Nat) = room))) H
abbrev s__one_must_go : Stmt := top 14
abbrev N__one_must_go : List Str := ["line", "near", "room"]
theorem S__one_must_go : FnScope N__one_must_go ["line", "near", "room"] (defScope s__one_must_go) := ⟨rfl, rfl, rfl, by decide +kernel, rfl, by decide +kernel, by decide +kernel⟩

theorem c_one_must_go (T : Txt K w mg) (D : DefAt K "_one_must_go" s__one_must_go) : Cal P w K mg base CX0 1 "_one_must_go" (spOneMustGo K) := by
  have S := S__one_must_go
  refine cal_of T.toTop D S (fun _ _ _ _ _ _ us hl => match us, hl with | [_, _, _], _ => rfl) (fun vs H Q E h => ?_) (fun f cdv A outer s H vs Q E hr h => ?_)
  · obtain ⟨l, room, d, α, gv, ps, rfl, _⟩ := h
    rfl
  · obtain ⟨l, room, d, α, gv, ps, rfl, hd, q⟩ := h
    refine ⟨_, (pss_one (ps_ret (pe_and (pe_cmp (pc_dnotin (hu_of hr) (pv 0) (pv 1)) rfl) (pe_one (pe_cmpR op_eq (pe_callB call_lenD (by rfl) T.len PySem.boot_len (pa_cons (pv 1) pa_nil)) (pv 2) (nomark _)))))), ?_⟩
    refine ⟨_, rfl, _, rfl, d, _, rfl, DGet.k (k := Sum.inl l) hd, ?_⟩
    rw [dk_val, Option.isSome_map, lk_some]
    refine ⟨_, rfl, ?_⟩
    by_cases h1 : l ∈ ps.map (·.1)
    · refine (if_neg (by rw [decide_eq_true h1]; decide)).mpr ?_
      rw [decide_eq_false (not_not_intro h1), Bool.false_and] at q
      exact q
    · refine (if_pos (by rw [decide_eq_false h1]; rfl)).mpr ?_
      refine ⟨_, rfl, d, _, rfl, hd, _, rfl, rfl, ?_⟩
      rw [decide_eq_true h1, Bool.true_and] at q
      rw [dk_len]
      rw [show decide (V.int ((ps.length : Nat) : Int) = V.int room) = decide (((ps.length : Nat) : Int) = room) from decide_eq_decide.mpr ⟨V.int.inj, congrArg V.int⟩]
      exact q
def spCheckStep (K : PySem.W.Frag) (CB : Addr) : Sp := fun vs H Q E => ∃ (l room : Int) (g : Option Int) (d : Addr) (α : Type) (gv : α → V) (ps : List (Int × α)), vs = [.int l, oiV g, .ref d, .int room] ∧ H d = some (.dK (dk gv ps)) ∧
  (okGo (ps.map (·.1)) room l g = true → Q .non H) ∧ (okGo (ps.map (·.1)) room l g = false → E (.ref CB) none H)
abbrev s__check_step : Stmt := top 15
abbrev N__check_step : List Str := ["line", "gone", "near", "room"]
theorem S__check_step : FnScope N__check_step ["line", "gone", "near", "room"] (defScope s__check_step) := ⟨rfl, rfl, rfl, by decide +kernel, rfl, by decide +kernel, by decide +kernel⟩

theorem c_check_step {CB : Addr} (T : Txt K w mg) (X_BadPlan : ExcT K mg "BadPlan" CB) (D : DefAt K "_check_step" s__check_step) (C__one_must_go : Cal P w K mg base CX0 1 "_one_must_go" (spOneMustGo K)) (C_is_any_whole : Cal P w K mg base CX0 1 "is_any_whole" (spWhole K)) : Cal P w K mg base (L2.CX P w) 2 "_check_step" (spCheckStep K CB) := by
  have S := S__check_step
  refine cal_ofX T.toTop D S (fun _ _ _ _ _ _ us hl => match us, hl with | [_, _, _, _], _ => rfl) (fun vs H Q E h => ?_) (fun f cdv A outer s H vs Q E hr h => ?_)
  · obtain ⟨l, room, g, d, α, gv, ps, rfl, _⟩ := h
    rfl
  · obtain ⟨l, room, g, d, α, gv, ps, rfl, hd, hq, he⟩ := h
    refine ⟨_, (pss_one (ps_if (pt_val (pe_c C__one_must_go hr (by decide) rfl (pa_cons (pv 0) (pa_cons (pv 2) (pa_cons (pv 3) pa_nil))))) (pss_one (ps_if (PW.pt (pw_or (pt_not (pt_val (pe_c C_is_any_whole hr (by decide) rfl (pa_cons (pv 1) pa_nil)))) (pw_or1 (pt_cmp (pc_dnotin (hu_of hr) (pv 1) (pv 2)))))) (pss_one (ps_raise rfl (takes_of rfl rfl rfl rfl) (SkE.pmk_own1 PySem.F.excBase_ValueError X_BadPlan.x X_BadPlan.g X_BadPlan.k (raises_own X_BadPlan.b X_BadPlan.t) rfl pe_str))) pss_nil)) (pss_one (ps_if (pt_cmpR op_notN (pv 1) pe_non (nomark _)) (pss_one (ps_raise rfl (takes_of rfl rfl rfl rfl) (SkE.pmk_own1 PySem.F.excBase_ValueError X_BadPlan.x X_BadPlan.g X_BadPlan.k (raises_own X_BadPlan.b X_BadPlan.t) rfl pe_str))) pss_nil)))), ?_⟩
    refine ⟨_, rfl, _, rfl, _, rfl, l, room, d, α, gv, ps, rfl, hd, _, rfl, ?_⟩
    by_cases hm : l ∉ ps.map (·.1) ∧ (ps.length : Nat) = room
    · have ek : ((ps.map (·.1)).length : Nat) = room := by rw [List.length_map]; exact hm.2
      have eo : okGo (ps.map (·.1)) room l g = goB (ps.map (·.1)) g := if_pos ⟨hm.1, ek⟩
      refine (if_pos (by rw [decide_eq_true hm.1, decide_eq_true hm.2]; rfl)).mpr ?_
      cases g with
      | none =>
        refine ⟨_, rfl, .non, "NoneType", rfl, .base .non, by decide +kernel, by decide +kernel, _, rfl, ?_⟩
        exact he eo
      | some y =>
        refine ⟨_, rfl, .int y, "int", rfl, .base (.int _), by decide +kernel, by decide +kernel, _, rfl, ?_⟩
        refine ⟨_, rfl, _, rfl, d, _, rfl, DGet.k (k := Sum.inl y) hd, ?_⟩
        rw [dk_val, Option.isSome_map, lk_some]
        by_cases hy : y ∈ ps.map (·.1)
        · exact ⟨false, bl_of (by rw [decide_eq_true hy]; rfl), hq (eo.trans (decide_eq_true hy))⟩
        · exact ⟨true, bl_of (by rw [decide_eq_false hy]; rfl), he (eo.trans (decide_eq_false hy))⟩
    · have eo : okGo (ps.map (·.1)) room l g = g.isNone := if_neg fun h => hm ⟨h.1, by rw [← h.2, List.length_map]⟩
      refine (if_neg (fun z => hm ?_)).mpr ?_
      · simp only [Bool.and_eq_true, decide_eq_true_eq] at z
        exact z
      cases g with
      | none => exact ⟨_, rfl, rfl, false, rfl, hq eo⟩
      | some y => exact ⟨_, rfl, rfl, true, rfl, he eo⟩

def txtOf (n : Int) : Str := Str.ofString (toString n)
theorem txt_len {n : Int} (h0 : 0 ≤ n) (h1 : n < 1000000) : (txtOf n).length ≤ 6 := by
  have e : n = ((n.toNat : Nat) : Int) := (Int.toNat_of_nonneg h0).symm
  unfold txtOf
  rw [e]
  have q : (TL.tl (Str.ofString (toString ((n.toNat : Nat) : Int)))).length ≤ 6 := by
    rw [TL.tl_num]
    exact TL.numL_len (by decide) (by omega)
  exact q
theorem log_small {n : Int} (h0 : 0 ≤ n) (h1 : n < 1000000) : n.natAbs.log2 < 1920 := by
  have h : n.natAbs < 2 ^ 20 := by omega
  rcases Nat.eq_zero_or_pos n.natAbs with e | e
  · rw [e]; decide
  · have := (Nat.log2_lt (by omega)).mpr h
    omega

theorem app_sz {a b : Str} {n m k : Nat} (ha : a.length ≤ n) (hb : b.length ≤ m) (h : n + m ≤ k) : (a ++ b).length ≤ k := by
  have e : (a ++ b).length = a.length + b.length := by
    show (a.cps ++ b.cps).size = a.cps.size + b.cps.size
    exact Array.size_append
  omega

def resP (room : Int) (ls : List Int) (gs : List (Option Int)) : Option Nat := if gs.length = ls.length then walkP room [] 0 (ls.zip gs) else none
theorem nearGo_len (near : List Int) (l : Int) (g : Option Int) : (nearGo near l g).length ≤ near.length + 1 := by
  have h : ∀ m : List Int, m.length ≤ near.length → (if l ∈ m then m else m ++ [l]).length ≤ near.length + 1 := fun m hm => by
    split
    · omega
    · rw [List.length_append, List.length_singleton]
      omega
  unfold nearGo
  cases g with
  | none => exact h _ (Nat.le_refl _)
  | some y => exact h _ (List.length_filter_le _ _)
theorem go_mem {near : List Int} {room l : Int} {y : Int} (h : okGo near room l (some y) = true) : l ∉ near ∧ y ∈ near := by
  unfold okGo at h
  split at h
  · rename_i h1
    exact ⟨h1.1, of_decide_eq_true h⟩
  · cases h
theorem dk_tk_in (near : List Int) (l : Int) : (valV (dk gT (tkP near)) (.inl l)).isSome = decide (l ∈ near) := by
  rw [dk_val, Option.isSome_map, lk_some, tk_keys]
def spWalked (K : PySem.W.Frag) (CB : Addr) : Sp := fun vs H Q E => ∃ (a pl : Addr) (us : List V) (ts : List (Str × Int)) (wd room : Int) (gs : List (Option Int)), vs = [.ref a, .int room, .int wd, .ref pl] ∧ SqL K H a us ∧ TsAt H us ts ∧ 0 < wd ∧ wd < 1073741824 ∧ us.length ≤ 900 ∧ SqL K H pl (gs.map oiV) ∧ gs.length ≤ 900 ∧
  (∀ n, resP room (linesOf wd ts) gs = some n → ∀ H', Same H H' → Q (.int (n : Nat)) H') ∧ (resP room (linesOf wd ts) gs = none → ∀ H', Same H H' → E (.ref CB) none H')
abbrev s_walked : Stmt := top 13
abbrev N_walked : List Str := ["touches", "room", "width", "plan", "near", "missed", "line", "gone"]
theorem S_walked : FnScope N_walked ["touches", "room", "width", "plan"] (defScope s_walked) := ⟨rfl, rfl, rfl, by decide +kernel, rfl, by decide +kernel, by decide +kernel⟩

theorem c_walked {CB : Addr} (T : Txt K w mg) (X_BadPlan : ExcT K mg "BadPlan" CB) (D : DefAt K "walked" s_walked) (C_lines_of : Cal P w K mg base CX0 2 "lines_of" (spLinesOf K)) (C__check_step : Cal P w K mg base (L2.CX P w) 2 "_check_step" (spCheckStep K CB)) : Cal P w K mg base (L2.CX P w) 3 "walked" (spWalked K CB) := by
  have S := S_walked
  refine cal_ofX T.toTop D S (fun _ _ _ _ _ _ us hl => match us, hl with | [_, _, _, _], _ => rfl) (fun vs H Q E h => ?_) (fun f cdv A outer s H vs Q E hr h => ?_)
  · obtain ⟨a, pl, us, ts, wd, room, gs, rfl, _⟩ := h
    rfl
  · obtain ⟨a, pl, us, ts, wd, room, gs, rfl, hS, hT, h0, h1, hl, hG, hgl, hq, he⟩ := h
    refine ⟨_, (pss_cons (ps_if (pt_cmpR op_ne (pe_callB call_len_seq (by rfl) T.len PySem.boot_len (pa_cons (pv 3) pa_nil)) (pe_callB call_len_seq (by rfl) T.len PySem.boot_len (pa_cons (pv 0) pa_nil)) (nomark _)) (pss_one (ps_raise rfl (takes_of rfl rfl rfl rfl) (SkE.pmk_own1 PySem.F.excBase_ValueError X_BadPlan.x X_BadPlan.g X_BadPlan.k (raises_own X_BadPlan.b X_BadPlan.t) rfl (pe_joined (.cons pe_str (.cons (pe_fmt (pe_callB call_len_seq (by rfl) T.len PySem.boot_len (pa_cons (pv 0) pa_nil))) (.cons pe_str (.cons (pe_fmt (pe_callB call_len_seq (by rfl) T.len PySem.boot_len (pa_cons (pv 3) pa_nil))) .nil)))))))) pss_nil)
  (pss_cons (ps_set (i := 4) S.nd rfl (Or.inl rfl) pe_dnewK)
  (pss_cons (ps_set (i := 5) S.nd rfl (Or.inl rfl) pe_int)
  (pss_cons (ps_for (g := gTup K 2 (gCons (gName 6) (gCons (gName 7) gNil))) (passes_of rfl) rfl (RZ.pi_zipA (by rfl) T.zip (pa_cons (pe_c C_lines_of hr (by decide) rfl (pa_cons (pv 0) (pa_cons (pv 2) pa_nil))) (pa_cons (pv 3) pa_nil))) (by exact (pg_tup rfl (pgs_cons (pg_name (i := 6) S.nd rfl (Or.inl rfl)) (pgs_cons (pg_name (i := 7) S.nd rfl (Or.inl rfl)) pgs_nil))))
  (pss_cons (ps_expr (pe_cx C__check_step (takes_of rfl rfl rfl rfl) hr (by decide) rfl (pa_cons (pv 6) (pa_cons (pv 7) (pa_cons (pv 4) (pa_cons (pv 1) pa_nil))))))
  (pss_cons (ps_if (pt_cmpR op_notN (pv 7) pe_non (nomark _)) (pss_one (ps_ddel (pv 4) (pv 7))) pss_nil)
  (pss_one (ps_if (pt_cmp (pc_dnotin (hu_of hr) (pv 6) (pv 4))) (pss_cons (ps_aug (i := 5) S.nd rfl (Or.inl rfl) pe_int ip_add)
  (pss_one (ps_dput (hu_of hr) (pv 4) (pv 6) pe_bl rfl))) pss_nil)))))
  (pss_one (ps_ret (pv 5))))))), ?_⟩
    have hul := hT.1
    have hls : (linesOf wd ts).length = ts.length := by unfold linesOf; rw [List.length_map]
    refine ⟨_, rfl, pl, _, rfl, .inl hG, _, rfl, a, _, rfl, .inl hS, rfl, ?_⟩
    rw [List.length_map]
    by_cases hlen : gs.length = us.length
    case neg =>
      refine ⟨true, bl_of ?_, ?_⟩
      · rw [decide_eq_false (fun z => hlen (by have := V.int.inj z; omega))]
        rfl
      have hb : resP room (linesOf wd ts) gs = none := if_neg (by omega)
      refine ⟨_, rfl, by decide +kernel, ?_⟩
      refine ⟨_, rfl, a, _, rfl, .inl hS, .inr ⟨_, rfl, log_small (by omega) (by omega), _, rfl, ?_, ?_⟩⟩
      · exact app_sz (n := 20) (m := 6) (by decide +kernel) (txt_len (by omega) (by omega)) (by decide)
      refine ⟨_, rfl, app_sz (n := 30) (m := 50) (app_sz (n := 20) (m := 6) (by decide +kernel) (txt_len (by omega) (by omega)) (by decide)) (by decide +kernel) (by decide), ?_⟩
      refine ⟨_, rfl, pl, _, rfl, .inl hG, .inr ⟨_, rfl, log_small (by rw [List.length_map]; omega) (by rw [List.length_map]; omega), _, rfl, ?_, he hb _ (Same.refl _)⟩⟩
      exact app_sz (n := 100) (m := 6) (app_sz (n := 30) (m := 50) (app_sz (n := 20) (m := 6) (by decide +kernel) (txt_len (by omega) (by omega)) (by decide)) (by decide +kernel) (by decide)) (txt_len (by rw [List.length_map]; omega) (by rw [List.length_map]; omega)) (by decide)
    refine ⟨false, bl_of ?_, ?_⟩
    · rw [decide_eq_true (congrArg V.int (by omega))]
      rfl
    have eres : resP room (linesOf wd ts) gs = walkP room [] 0 ((linesOf wd ts).zip gs) := if_pos (by omega)
    rw [eres] at hq he
    generalize els : linesOf wd ts = ls at hq he hls
    refine fun dn nd => ?_
    refine ⟨_, rfl, _, rfl, a, us, ts, wd, rfl, (Same.new nd).seq hS, hT.same (Same.new nd), h0, h1, hl, fun H1 dl t1 nl g1 => ?_⟩
    rw [els] at g1
    have s1 := (Same.new nd).trans t1
    have gn1 : H1 dn = some (.dK (dk gT (tkP []))) := t1 _ _ upd_same
    have nld : dl ≠ dn := fun z => by rw [z, upd_same] at nl; cases nl
    refine ⟨_, rfl, dl, pl, _, _, rfl, .inl ⟨SqL.of g1, s1.seq hG, RZ.for_zipL (xs := ls.map V.int) (ys := gs.map oiV) (by rw [List.length_map, List.length_map]; omega) (fun i σ H' => ∃ (near : List Int) (n : Nat) (v6 v7 : Option V), σ = [some (.ref a), some (.int room), some (.int wd), some (.ref pl), some (.ref dn), some (.int (n : Nat)), v6, v7] ∧ Same H H' ∧ H' dl = some (.lst (ls.map V.int)) ∧ H' dn = some (.dK (dk gT (tkP near))) ∧
      walkP room near n ((ls.zip gs).drop i) = walkP room [] 0 (ls.zip gs) ∧ near.length ≤ i) ⟨[], 0, _, _, rfl, s1, g1, gn1, rfl, Nat.le_refl _⟩ (fun i σ H' h => ?_) (fun i x y T' σ H' ex ey h nT => ?_) (fun σ H' h => ?_)⟩⟩
    · obtain ⟨near, n, v6, v7, rfl, t, gl, _⟩ := h
      exact ⟨SqL.of gl, t.seq hG⟩
    · obtain ⟨near, n, v6, v7, rfl, t, gl, gn, hw, hnl⟩ := h
      obtain ⟨l, rfl, el⟩ : ∃ l, x = V.int l ∧ ls[i]? = some l := by
        rw [List.getElem?_map] at ex
        obtain ⟨y, e, e2⟩ := Option.map_eq_some_iff.mp ex
        exact ⟨y, e2.symm, e⟩
      obtain ⟨g, rfl, eg⟩ : ∃ g, y = oiV g ∧ gs[i]? = some g := by
        rw [List.getElem?_map] at ey
        obtain ⟨y, e, e2⟩ := Option.map_eq_some_iff.mp ey
        exact ⟨y, e2.symm, e⟩
      have hi : i < ls.length := (List.getElem?_eq_some_iff.mp el).1
      have hdr : (ls.zip gs).drop i = (l, g) :: (ls.zip gs).drop (i + 1) := by
        have hz : (ls.zip gs)[i]? = some (l, g) := by rw [List.getElem?_zip_eq_some]; exact ⟨el, eg⟩
        rw [List.drop_eq_getElem_cons (by rw [List.length_zip]; omega), (List.getElem?_eq_some_iff.mp hz).2]
      rw [hdr] at hw
      have tT : Same H' (upd H' T' (.tup [.int l, oiV g])) := Same.new nT
      have gT' : upd H' T' (.tup [.int l, oiV g]) T' = some (.tup [.int l, oiV g]) := upd_same
      generalize upd H' T' (.tup [.int l, oiV g]) = H2 at tT gT'
      have gl2 := tT _ _ gl
      have gn2 := tT _ _ gn
      have t2 := t.trans tT
      refine ⟨T', _, rfl, SqT.of gT', rfl, _, _, rfl, _, _, rfl, rfl, ?_⟩
      refine ⟨_, rfl, _, rfl, _, rfl, _, rfl, l, room, g, dn, Unit, gT, tkP near, rfl, gn2, fun hok => ?_, fun hok => ?_⟩
      · rw [tk_keys] at hok
        have hw2 : walkP room (nearGo near l g) (if l ∈ near then n else n + 1) ((ls.zip gs).drop (i + 1)) = walkP room [] 0 (ls.zip gs) := by
          rw [← hw]
          exact (if_pos hok).symm
        have hlen2 := nearGo_len near l g
        cases g with
        | none =>
          refine ⟨_, rfl, rfl, false, rfl, ?_⟩
          refine ⟨_, rfl, _, rfl, dn, _, rfl, DGet.k (k := Sum.inl l) gn2, ?_⟩
          rw [dk_tk_in]
          by_cases hm : l ∈ near
          · refine ⟨false, bl_of (by rw [decide_eq_true hm]; rfl), near, n, _, _, rfl, t2, gl2, gn2, ?_, by omega⟩
            rw [if_pos hm] at hw2
            rw [show nearGo near l none = near from if_pos hm] at hw2
            exact hw2
          · refine ⟨true, bl_of (by rw [decide_eq_false hm]; rfl), ?_⟩
            refine ⟨_, rfl, _, _, rfl, rfl, ?_⟩
            refine ⟨_, rfl, _, rfl, dn, _, rfl, DPut.k (k := Sum.inl l) gn2 (small1000 (by rw [dk_len, tk_len]; omega)), near ++ [l], n + 1, _, _, rfl, t2.mut nd, (by walk_at "hp"), ?_, ?_, by rw [List.length_append, List.length_singleton]; omega⟩
            · rw [show V.bl true = gT () from rfl, dk_put, tk_put, if_neg hm]
              exact upd_same
            · rw [if_neg hm] at hw2
              rw [show nearGo near l none = near ++ [l] from if_neg hm] at hw2
              exact hw2
        | some y =>
          obtain ⟨hm, hy⟩ := go_mem hok
          have hm2 : l ∉ near.filter (fun z => z != y) := fun h => hm (List.mem_filter.mp h).1
          refine ⟨_, rfl, rfl, true, rfl, ?_⟩
          refine ⟨_, rfl, _, rfl, dn, _, Sum.inl y, rfl, gn2, rfl, by rw [dk_tk_in, decide_eq_true hy], ?_⟩
          rw [dk_drop, tk_drop]
          have hfl := List.length_filter_le (fun z => z != y) near
          refine ⟨_, rfl, _, rfl, dn, _, rfl, DGet.k (k := Sum.inl l) upd_same, ?_⟩
          rw [dk_tk_in]
          refine ⟨true, bl_of (by rw [decide_eq_false hm2]; rfl), ?_⟩
          refine ⟨_, rfl, _, _, rfl, rfl, ?_⟩
          refine ⟨_, rfl, _, rfl, dn, _, rfl, DPut.k (k := Sum.inl l) upd_same (small1000 (by rw [dk_len, tk_len]; omega)), near.filter (fun z => z != y) ++ [l], n + 1, _, _, rfl, (t2.mut nd).mut nd, (by walk_at "hp"), ?_, ?_, by rw [List.length_append, List.length_singleton]; omega⟩
          · rw [show V.bl true = gT () from rfl, dk_put, tk_put, if_neg hm2]
            exact upd_same
          · rw [if_neg hm] at hw2
            rw [show nearGo near l (some y) = near.filter (fun z => z != y) ++ [l] from if_neg hm2] at hw2
            exact hw2
      · rw [tk_keys] at hok
        refine he ?_ _ t2
        rw [← hw]
        exact if_neg (by rw [hok]; decide)
    · obtain ⟨near, n, v6, v7, rfl, t, gl, gn, hw, hnl⟩ := h
      rw [List.length_map, List.drop_of_length_le (by rw [List.length_zip]; omega)] at hw
      exact ⟨_, rfl, hq n hw.symm _ t⟩

-- SPLIT
abbrev s__law_cell_at : Stmt := top 17
abbrev N__law_cell_at : List Str := ["_law_script", "_law_k"]
theorem S__law_cell_at : FnScope N__law_cell_at ["_law_script", "_law_k"] (defScope s__law_cell_at) := ⟨rfl, rfl, rfl, by decide +kernel, rfl, by decide +kernel, by decide +kernel⟩

theorem c_cell_at (T : Txt K w mg) (D : DefAt K "_law_cell_at" s__law_cell_at) : Cal P w K mg base CX0 1 "_law_cell_at" (spCellAt K) := by
  have S := S__law_cell_at
  refine cal_of T.toTop D S (fun _ _ _ _ _ _ us hl => match us, hl with | [_, _], _ => rfl) (fun vs H Q E h => ?_) (fun f cdv A outer s H vs Q E hr h => ?_)
  · obtain ⟨a, ns, k, rfl, _⟩ := h
    rfl
  · obtain ⟨a, ns, k, rfl, hS, hk, q⟩ := h
    refine ⟨_, (pss_cons (ps_if (pt_cmpR op_lt (pv 1) (pe_callB call_len_seq (by rfl) T.len PySem.boot_len (pa_cons (pv 0) pa_nil)) (nomark _)) (pss_one (ps_ret (pe_ix ix_list (pv 0) (pv 1) (fun _ _ => rfl)))) pss_nil)
  (pss_one (ps_ret pe_int))), ?_⟩
    refine ⟨_, rfl, _, rfl, a, _, rfl, .inl hS, _, _, rfl, rfl, _, rfl, ?_⟩
    rw [List.length_map]
    refine ite2 (fun h => ?_) (fun h => ?_)
    · have h := of_decide_eq_true h
      exact ⟨_, rfl, _, rfl, a, _, _, _, rfl, rfl, hS, at_ints hk h, q⟩
    · have h : ¬ k < (ns.length : Int) := fun z => h (decide_eq_true z)
      have e : cellAt ns k = 0 := by
        unfold cellAt
        rw [List.getD_eq_getElem?_getD, List.getElem?_eq_none (by omega)]; rfl
      rw [e] at q
      exact q

abbrev s__law_mixed : Stmt := top 19
abbrev N__law_mixed : List Str := ["_law_cell"]
theorem S__law_mixed : FnScope N__law_mixed ["_law_cell"] (defScope s__law_mixed) := ⟨rfl, rfl, rfl, by decide +kernel, rfl, by decide +kernel, by decide +kernel⟩

theorem c_mixed (T : Txt K w mg) (D : DefAt K "_law_mixed" s__law_mixed) : Cal P w K mg base CX0 1 "_law_mixed" spMixed := by
  have S := S__law_mixed
  refine cal_of T.toTop D S (fun _ _ _ _ _ _ us hl => match us, hl with | [_], _ => rfl) (fun vs H Q E h => ?_) (fun f cdv A outer s H vs Q E hr h => ?_)
  · obtain ⟨c, rfl, _⟩ := h
    rfl
  · obtain ⟨c, rfl, q⟩ := h
    refine ⟨_, (pss_one (ps_ret (pe_op op_mod (pe_op op_mul (pv 0) pe_int) pe_int))), ?_⟩
    repeat walk_at "rd"
    exact q

abbrev s__law_whole : Stmt := top 18
abbrev N__law_whole : List Str := ["_law_found"]
theorem S__law_whole : FnScope N__law_whole ["_law_found"] (defScope s__law_whole) := ⟨rfl, rfl, rfl, by decide +kernel, rfl, by decide +kernel, by decide +kernel⟩

theorem c_whole (T : Txt K w mg) (D : DefAt K "_law_whole" s__law_whole) : Cal P w K mg base CX0 1 "_law_whole" (spWhole K) := by
  have S := S__law_whole
  refine cal_of T.toTop D S (fun _ _ _ _ _ _ us hl => match us, hl with | [_], _ => rfl) (fun vs H Q E h => ?_) (fun f cdv A outer s H vs Q E hr h => ?_)
  · obtain ⟨v, n, rfl, _⟩ := h
    rfl
  · obtain ⟨v, n, rfl, ty, k1, k2, q⟩ := h
    refine ⟨_, (pss_one (ps_ret (pe_and (pe_callB call_isi (by rfl) T.isinstance (by decide +kernel) (pa_cons (pv 0) (pa_cons ((pe_bltn (v := .ty "int") (u := .type "int") rfl T.int (by decide +kernel) rfl)) pa_nil))) (pe_one (pe_not (pe_callB call_isi (by rfl) T.isinstance (by decide +kernel) (pa_cons (pv 0) (pa_cons ((pe_bltn (v := .ty "bool") (u := .type "bool") rfl T.bool (by decide +kernel) rfl)) pa_nil)))))))), ?_⟩
    refine ⟨_, rfl, _, _, _, _, _, rfl, .ty _, ty, kit_ty k1, _, rfl, ?_⟩
    refine ite2 (fun h => ?_) (fun h => ?_)
    · refine ⟨_, rfl, _, _, _, _, _, rfl, .ty _, ty, kit_ty k2, _, rfl, ?_⟩
      have h := of_decide_eq_true h
      have e : (!decide (n = "bool")) = decide (n = "int") := by
        rcases h with h | h <;> subst h <;> rfl
      show Q (V.bl (!decide (n = "bool"))) H
      rw [e]
      exact q
    · have e : decide (n = "int") = false := decide_eq_false fun z => h (decide_eq_true (.inl z))
      rw [e] at q
      exact q

def spTouchesBy (K : PySem.W.Frag) : Sp := fun vs H Q _ => ∃ (a : Addr) (cs : List Int), vs = [.ref a] ∧ SqL K H a (cs.map V.int) ∧ cs.length ≤ 63 ∧ ∀ H' p us ts, Same H H' → H' p = some (.lst us) → TsAt H' us ts → ts.length = cs.length → (∀ t ∈ ts, RW t ∧ 0 ≤ t.2 ∧ t.2 < 1000000) → Q (.ref p) H'
abbrev s__law_touches_by : Stmt := top 20
abbrev N__law_touches_by : List Str := ["_law_cells", "_law_touches", "_law_cell", "_law_box", "_law_back"]
theorem S__law_touches_by : FnScope N__law_touches_by ["_law_cells"] (defScope s__law_touches_by) := ⟨rfl, rfl, rfl, by decide +kernel, rfl, by decide +kernel, by decide +kernel⟩

theorem c_touches_by (T : Txt K w mg) (D : DefAt K "_law_touches_by" s__law_touches_by) (C__law_mixed : Cal P w K mg base CX0 1 "_law_mixed" spMixed) : Cal P w K mg base CX0 2 "_law_touches_by" (spTouchesBy K) := by
  have S := S__law_touches_by
  refine cal_of T.toTop D S (fun _ _ _ _ _ _ us hl => match us, hl with | [_], _ => rfl) (fun vs H Q E h => ?_) (fun f cdv A outer s H vs Q E hr h => ?_)
  · obtain ⟨a, cs, rfl, _⟩ := h
    rfl
  · obtain ⟨a, cs, rfl, hS, hl, q⟩ := h
    refine ⟨_, (pss_cons (ps_set (i := 1) S.nd rfl (Or.inl rfl) (pe_lst pa_nil))
  (pss_cons (ps_for PassesOwn.never rfl (pi_list (pv 0)) (pg_name (i := 2) S.nd rfl (Or.inl rfl))
  (pss_cons (ps_set (i := 3) S.nd rfl (Or.inl rfl) (pe_op op_mod (pe_c C__law_mixed hr (by decide) rfl (pa_cons (pv 2) pa_nil)) (pe_ix ix_list (pe_lst (pa_cons pe_int (pa_cons pe_int (pa_cons pe_int (pa_cons pe_int pa_nil))))) (pe_op op_mod (pe_op op_fdiv (pv 2) pe_int) pe_int) (fun _ _ => rfl))))
  (pss_cons (ps_set (i := 4) S.nd rfl (Or.inl rfl) (pe_op op_mod (pe_op op_fdiv (pv 2) pe_int) pe_int))
  (pss_cons (ps_if (PW.pt (pw_and (pt_chain op_lt op_lt pe_int (pv 4) pe_int) (pw_and1 (pt_cmpR op_le (pv 4) (pe_callB call_len_seq (by rfl) T.len PySem.boot_len (pa_cons (pv 1) pa_nil)) (nomark _))))) (pss_one (ps_set (i := 3) S.nd rfl (Or.inl rfl) (pe_ix ix_tup (pe_ix ix_list (pv 1) (pe_op op_sub (pe_callB call_len_seq (by rfl) T.len PySem.boot_len (pa_cons (pv 1) pa_nil)) (pv 4)) (fun _ _ => rfl)) pe_int (fun _ _ => rfl)))) pss_nil)
  (pss_one (ps_expr (pe_bm PySem.F.plainAttrs_list PySem.F.slot_list_append PySem.F.type_list_append mt_append (pv 1) (pa_cons (pe_tup (pa_cons (pe_ix ix_list (pe_lst (pa_cons pe_str (pa_cons pe_str pa_nil))) (pe_op op_mod (pv 2) pe_int) (fun _ _ => rfl)) (pa_cons (pv 3) pa_nil))) pa_nil))))))))
  (pss_one (ps_ret (pv 1))))), ?_⟩
    refine ⟨sz_ok rfl, fun p np => ?_⟩
    refine ⟨_, rfl, a, rfl, ⟨_, (Same.new np).seq hS⟩, for_list (xs := cs.map V.int) (fun i σ H' => (∃ v2 v3 v4, σ = [some (.ref a), some (.ref p), v2, v3, v4]) ∧ Same H H' ∧ ∃ us ts, H' p = some (.lst us) ∧ TsAt H' us ts ∧ ts.length = i ∧ ∀ t ∈ ts, RW t ∧ 0 ≤ t.2 ∧ t.2 < 1000000)
      ⟨⟨_, _, _, rfl⟩, Same.new np, [], [], upd_same, ⟨rfl, fun j t e => by simp at e⟩, rfl, fun t h => by cases h⟩ (fun i σ H' _ h => h.2.1.seq hS) (fun i y σ H' ey h => ?_) (fun σ H' h => ?_)⟩
    · obtain ⟨⟨v2, v3, v4, rfl⟩, t, us, ts, gp, hT, hts, hall⟩ := h
      obtain ⟨c, rfl⟩ : ∃ x, y = V.int x := by
        rw [List.getElem?_map] at ey
        obtain ⟨y, e, e2⟩ := Option.map_eq_some_iff.mp ey
        exact ⟨y, e2.symm⟩
      have hi : i < cs.length := by
        have := (List.getElem?_eq_some_iff.mp ey).1
        rw [List.length_map] at this
        exact this
      clear ey
      refine ⟨_, rfl, _, rfl, sz_ok rfl, fun p1 n1 => ?_⟩
      generalize e1 : upd H' p1 _ = H1
      have t1 : Same H' H1 := e1 ▸ Same.new n1
      have g1 : H1 p1 = some (.lst (([8, 30, 1000000, 8] : List Int).map V.int)) := e1 ▸ upd_same
      clear e1
      obtain ⟨m, hm, m0, m1⟩ : ∃ m : Int, ([8, 30, 1000000, 8] : List Int).getD (c / 2 % 4).toNat 0 = m ∧ 0 < m ∧ m ≤ 1000000 := by
        have h : (c / 2 % 4).toNat = 0 ∨ (c / 2 % 4).toNat = 1 ∨ (c / 2 % 4).toNat = 2 ∨ (c / 2 % 4).toNat = 3 := by omega
        rcases h with h | h | h | h <;> rw [h] <;> exact ⟨_, rfl, by decide, by decide⟩
      refine ⟨_, rfl, _, _, rfl, rfl, ⟨by decide, by decide⟩, _, _, rfl, rfl, (by show (0 : Int) < 4; decide), p1, _, _, _, rfl, rfl, SqL.of g1, at_ints_mod (ns := [8, 30, 1000000, 8]) (c / 2) (by decide) rfl, ?_⟩
      rw [hm]
      refine ⟨_, _, rfl, rfl, m0, _, rfl, _, _, rfl, rfl, ⟨by decide, by decide⟩, _, _, rfl, rfl, (by show (0 : Int) < 8; decide), ?_⟩
      have b0 := mod_nn (mixed c) m0
      have b1 : mixed c % m < 1000000 := by have := mod_lt (mixed c) m0; omega
      have k0 : 0 ≤ c / 8 % 8 := by omega
      have k1 : c / 8 % 8 < 8 := by omega
      obtain ⟨bx, hbx⟩ : ∃ bx, mixed c % m = bx := ⟨_, rfl⟩
      rw [hbx] at b0 b1
      have gp1 := t1 _ _ gp
      have hT1 := hT.same t1
      have hul := hT.1
      by_cases h1 : 0 < (c / 8 % 8)
      case' neg =>
        refine ⟨_, rfl, _, _, rfl, rfl, _, rfl, ?_⟩
        refine (if_neg (fun z => h1 (of_decide_eq_true z))).mpr ?_
        refine ⟨_, rfl, ?_⟩
      case' pos =>
        refine ⟨_, rfl, _, _, rfl, rfl, _, rfl, ?_⟩
        refine (if_pos (decide_eq_true h1)).mpr ?_
        refine ⟨_, _, rfl, rfl, ?_⟩
        by_cases h2 : (c / 8 % 8) < 5
        case' neg => refine ⟨false, bl_of (decide_eq_false h2), ?_⟩
        case' pos =>
          refine ⟨true, bl_of (decide_eq_true h2), _, rfl, _, rfl, p, _, rfl, .inl (SqL.of gp1), _, _, rfl, rfl, ?_⟩
          by_cases h3 : (c / 8 % 8) ≤ (us.length : Nat)
          case' neg => refine ⟨false, bl_of (decide_eq_false h3), ?_⟩
          case' pos =>
            refine ⟨true, bl_of (decide_eq_true h3), ?_⟩
            have hj : us.length - (c / 8 % 8).toNat < ts.length := by omega
            obtain ⟨q1, e1, e2⟩ := hT1.2 _ _ (List.getElem?_eq_getElem hj)
            have hbb := hall _ (List.getElem_mem hj)
            refine ⟨_, rfl, _, rfl, p, _, rfl, .inl (SqL.of gp1), _, rfl, _, _, rfl, rfl, p, us, _, .ref q1, rfl, rfl, SqL.of gp1, at_in (by omega) (by rw [show ((us.length : Nat) - (c / 8 % 8) : Int).toNat = us.length - (c / 8 % 8).toNat by omega]; exact e1), q1, _, _, _, rfl, rfl, SqT.of e2, at_in (by decide) rfl, ?_⟩
            replace b0 := hbb.2.1
            replace b1 := hbb.2.2
            clear hbx
            obtain ⟨bx, hbx⟩ : ∃ bx, ts[us.length - (c / 8 % 8).toNat].2 = bx := ⟨_, rfl⟩
            rw [hbx] at b0 b1
      all_goals
        refine ⟨_, rfl, .inl ⟨rfl, _, SqL.of gp1⟩, sz_ok rfl, fun p2 n2 => ?_⟩
        generalize e3 : upd H1 p2 _ = H2
        have t2 : Same H1 H2 := e3 ▸ Same.new n2
        have g2 : H2 p2 = some (.lst (([("read" : Str), "write"] : List Str).map V.str)) := e3 ▸ upd_same
        clear e3
        obtain ⟨k, hk, hrw⟩ : ∃ k : Str, ([("read" : Str), "write"] : List Str).getD (c % 2).toNat Str.empty = k ∧ (k = "read" ∨ k = "write") := by
          have h : (c % 2).toNat = 0 ∨ (c % 2).toNat = 1 := by omega
          rcases h with h | h <;> rw [h]
          · exact ⟨_, rfl, .inl rfl⟩
          · exact ⟨_, rfl, .inr rfl⟩
        refine ⟨_, rfl, _, _, rfl, rfl, (by show (0 : Int) < 2; decide), p2, _, _, _, rfl, rfl, SqL.of g2, at_strs_mod (ns := ["read", "write"]) c (by decide) rfl, ?_⟩
        rw [hk]
        refine ⟨_, rfl, sz_ok rfl, fun p3 n3 => ?_⟩
        generalize e4 : upd H2 p3 _ = H3
        have t3 : Same H2 H3 := e4 ▸ Same.new n3
        have g3 : H3 p3 = some (.tup [.str k, .int bx]) := by
          rw [← hbx]
          exact e4 ▸ upd_same
        clear e4
        have t13 := (t1.trans t2).trans t3
        have gp3 := t13 _ _ gp
        refine ⟨p, us, _, rfl, rfl, gp3, small1000 (by omega), ?_⟩
        refine ⟨⟨_, _, _, rfl⟩, (t.trans t13).mut np, us ++ [.ref p3], ts ++ [(k, bx)], upd_same, ?_, by rw [List.length_append, hts]; rfl, fun t ht => ?_⟩
        · exact ((hT.same t13).snoc (t := (k, bx)) g3).mut gp3 fun q o e n => (upd_ne n).trans e
        · rcases List.mem_append.mp ht with h | h
          · exact hall t h
          · cases List.mem_singleton.mp h
            exact ⟨hrw, b0, b1⟩
    · obtain ⟨⟨v2, v3, v4, rfl⟩, t, us, ts, gp, hT, hts, hall⟩ := h
      rw [List.length_map] at hts
      exact ⟨_, rfl, q _ _ us ts t gp hT hts hall⟩

theorem scal_oi (i : Int) (g : Option Int) : scal (.int i) (oiV g) = true ↔ True := ⟨fun _ => trivial, fun _ => by cases g <;> rfl⟩
/-- near without what goes -/
def outV (g : Option Int) : V → Option V := fun v => if v = oiV g then none else some v
def outL (near : List Int) (g : Option Int) : List Int := match g with | none => near | some y => near.filter (fun z => z != y)
theorem out_map (g : Option Int) : ∀ near : List Int, (near.map V.int).filterMap (outV g) = (outL near g).map V.int
  | [] => by cases g <;> rfl
  | x :: near => by
    have h := out_map g near
    rw [List.map_cons]
    by_cases e : V.int x = oiV g
    · rw [List.filterMap_cons_none (f := outV g) (if_pos e), h]
      cases g with
      | none => cases e
      | some y =>
        have e := V.int.inj e
        show ((near.filter (fun z => z != y)).map V.int) = ((x :: near).filter (fun z => z != y)).map V.int
        rw [List.filter_cons_of_neg (by simp [e])]
    · rw [List.filterMap_cons_some (f := outV g) (b := V.int x) (if_neg e), h]
      cases g with
      | none => rfl
      | some y =>
        have e : x ≠ y := fun z => e (congrArg V.int z)
        show V.int x :: ((near.filter (fun z => z != y)).map V.int) = ((x :: near).filter (fun z => z != y)).map V.int
        rw [List.filter_cons_of_pos (by simpa using e)]
        rfl
theorem out_len (near : List Int) (g : Option Int) : (outL near g).length ≤ near.length := by
  cases g with
  | none => exact Nat.le_refl _
  | some y => exact List.length_filter_le _ _
def spPlanBy (K : PySem.W.Frag) : Sp := fun vs H Q _ => ∃ (a b : Addr) (cs ls : List Int) (room : Int), vs = [.ref a, .ref b, .int room] ∧ SqL K H a (cs.map V.int) ∧ SqL K H b (ls.map V.int) ∧ cs.length = ls.length ∧ ls.length ≤ 900 ∧ 0 < room ∧
  ∀ (H' : Hp) (p : Addr) (gs : List (Option Int)), Same H H' → H p = none → H' p = some (.lst (gs.map oiV)) → gs.length = ls.length → Q (.ref p) H'
abbrev s__law_plan_by : Stmt := top 21
abbrev N__law_plan_by : List Str := ["_law_cells", "_law_lines", "_law_room", "_law_near", "_law_plan", "_law_k", "_law_goes", "_law_line"]
theorem S__law_plan_by : FnScope N__law_plan_by ["_law_cells", "_law_lines", "_law_room"] (defScope s__law_plan_by) := ⟨rfl, rfl, rfl, by decide +kernel, rfl, by decide +kernel, by decide +kernel⟩

theorem c_plan_by (T : Txt K w mg) (D : DefAt K "_law_plan_by" s__law_plan_by) (C__law_mixed : Cal P w K mg base CX0 1 "_law_mixed" spMixed) : Cal P w K mg base CX0 2 "_law_plan_by" (spPlanBy K) := by
  have S := S__law_plan_by
  refine cal_of T.toTop D S (fun _ _ _ _ _ _ us hl => match us, hl with | [_, _, _], _ => rfl) (fun vs H Q E h => ?_) (fun f cdv A outer s H vs Q E hr h => ?_)
  · obtain ⟨a, b, cs, ls, room, rfl, _⟩ := h
    rfl
  · obtain ⟨a, b, cs, ls, room, rfl, hA, hB, hcl, hl, hroom, q⟩ := h
    refine ⟨_, (pss_cons (ps_set (i := 3) S.nd rfl (Or.inl rfl) (pe_lst pa_nil))
  (pss_cons (ps_set (i := 4) S.nd rfl (Or.inl rfl) (pe_lst pa_nil))
  (pss_cons (ps_for PassesOwn.never rfl (pi_range1 rfl T.range (pa_cons (pe_callB call_len_seq (by rfl) T.len PySem.boot_len (pa_cons (pv 1) pa_nil)) pa_nil)) (pg_name (i := 5) S.nd rfl (Or.inl rfl))
  (pss_cons (ps_set (i := 6) S.nd rfl (Or.inr rfl) pe_non)
  (pss_cons (ps_if (pt_cmpR op_notIn_seq (pe_ix ix_list (pv 1) (pv 5) (fun _ _ => rfl)) (pv 3) (by with_unfolding_all rfl)) (pss_cons (ps_if (pt_cmpR op_eq (pe_callB call_len_seq (by rfl) T.len PySem.boot_len (pa_cons (pv 3) pa_nil)) (pv 2) (nomark _)) (pss_one (ps_set (i := 6) S.nd rfl (Or.inr rfl) (pe_ix ix_list (pv 3) (pe_op op_mod (pe_c C__law_mixed hr (by decide) rfl (pa_cons (pe_op op_add (pe_ix ix_list (pv 0) (pv 5) (fun _ _ => rfl)) pe_int) pa_nil)) (pe_callB call_len_seq (by rfl) T.len PySem.boot_len (pa_cons (pv 3) pa_nil))) (fun _ _ => rfl)))) pss_nil)
  (pss_one (ps_set (i := 3) S.nd rfl (Or.inl rfl) (pe_op op_cat (pe_lc (own := [("_law_line", 7)]) (g := gName 7)  rfl S.nd (pi_list (pv 3)) (blkOk_by (own := [("_law_line", 7)]) (N := N__law_plan_by) (sc := defScope s__law_plan_by) (by decide +kernel)) (fun _ _ _ _ _ => pg_name (i := 7) S.nd rfl (Or.inl rfl)) (fun _ _ _ _ _ => pts_one (pt_cmpR op_ne (pv 7) (pv 6) (nomark _))) (fun _ _ _ _ _ => (pv 7))) (pe_lst (pa_cons (pe_ix ix_list (pv 1) (pv 5) (fun _ _ => rfl)) pa_nil)))))) pss_nil)
  (pss_one (ps_expr (pe_bm PySem.F.plainAttrs_list PySem.F.slot_list_append PySem.F.type_list_append mt_append (pv 4) (pa_cons (pv 6) pa_nil)))))))
  (pss_one (ps_ret (pv 4)))))), ?_⟩
    refine ⟨sz_ok rfl, fun pn0 nn => ?_⟩
    have t0 : Same H (upd H pn0 (.lst [])) := Same.new nn
    have g0 : upd H pn0 (.lst []) pn0 = some (.lst (([] : List Int).map V.int)) := upd_same
    generalize upd H pn0 (.lst []) = H0 at t0 g0
    refine ⟨sz_ok rfl, fun pp np => ?_⟩
    have npH : H pp = none := t0.free np
    have t1 : Same H0 (upd H0 pp (.lst [])) := Same.new np
    have g1 : upd H0 pp (.lst []) pp = some (.lst (([] : List (Option Int)).map oiV)) := upd_same
    have g01 := t1 _ _ g0
    have nne : pn0 ≠ pp := ne_of_none g0 np
    generalize upd H0 pp (.lst []) = H1 at t1 g1 g01
    refine ⟨_, rfl, b, _, rfl, .inl ((t0.trans t1).seq hB), _, rfl, by omega, by rw [List.length_map]; omega, for_range (n := (ls.map V.int).length) (fun i σ H' => ∃ (pn : Addr) (near : List Int) (gs : List (Option Int)) (v5 v6 : Option V), σ = [some (.ref a), some (.ref b), some (.int room), some (.ref pn), some (.ref pp), v5, v6, none] ∧ Same H H' ∧ pn ≠ pp ∧
      H' pn = some (.lst (near.map V.int)) ∧ H' pp = some (.lst (gs.map oiV)) ∧ near.length ≤ i ∧ gs.length = i) ⟨pn0, [], [], _, _, rfl, t0.trans t1, nne, g01, g1, Nat.le_refl _, rfl⟩ (fun i σ H' hi h => ?_) (fun σ H' h => ?_)⟩
    · obtain ⟨pn, near, gs, v5, v6, rfl, t, ne, gn, gp, hnl, hgl⟩ := h
      rw [List.length_map] at hi
      have hlat : atI (ls.map V.int) (0 + (i : Int)) = some (.int ls[i]) := at_map0 _ (List.getElem?_eq_getElem hi)
      have hcat : atI (cs.map V.int) (0 + (i : Int)) = some (.int (cs[i]'(by omega))) := at_map0 _ (List.getElem?_eq_getElem (by omega))
      have hfl : (near.map V.int).all flatV = true := by
        rw [List.all_map]
        exact List.all_eq_true.mpr fun _ _ => rfl
      refine ⟨_, rfl, _, rfl, b, _, _, _, rfl, rfl, t.seq hB, hlat, _, rfl, pn, _, rfl, .inl (SqL.of gn), rfl, hfl, ?_⟩
      rw [inV_int]
      by_cases hm : ls[i] ∈ near
      · refine ⟨false, bl_of (by rw [decide_eq_true hm]; rfl), ?_⟩
        refine ⟨_, rfl, .inl ⟨rfl, _, SqL.of gp⟩, _, rfl, pp, _, _, rfl, rfl, gp, small1000 (by rw [List.length_map]; omega), ?_⟩
        exact ⟨pn, near, gs ++ [none], _, _, rfl, t.mut npH, ne, by walk_at "hp", by rw [List.map_append]; exact upd_same, by omega, by rw [List.length_append, hgl]; rfl⟩
      · refine ⟨true, bl_of (by rw [decide_eq_false hm]; rfl), ?_⟩
        refine ⟨_, rfl, pn, _, rfl, .inl (SqL.of gn), _, rfl, rfl, ?_⟩
        by_cases hf : ((near.length : Nat) : Int) = room
        case' neg =>
          refine ⟨false, bl_of (decide_eq_false (by rw [List.length_map]; exact fun z => hf (V.int.inj z))), ?_⟩
          obtain ⟨g, hg⟩ : ∃ g : Option Int, V.non = oiV g := ⟨none, rfl⟩
          rw [hg]
        case' pos =>
          refine ⟨true, bl_of (decide_eq_true (by rw [List.length_map, hf])), ?_⟩
          refine ⟨_, rfl, _, rfl, _, rfl, a, _, _, _, rfl, rfl, t.seq hA, hcat, _, _, rfl, rfl, _, rfl, _, rfl, pn, _, rfl, .inl (SqL.of gn), _, _, rfl, rfl, ?_⟩
          rw [List.length_map]
          refine ⟨by omega, pn, _, _, _, rfl, rfl, SqL.of gn, at_ints_mod (ns := near) _ (by omega) rfl, ?_⟩
          obtain ⟨g, hg⟩ : ∃ g : Option Int, V.int (near.getD (mixed (cs[i]'(by omega) + 3) % ((near.length : Nat) : Int)).toNat 0) = oiV g := ⟨some _, rfl⟩
          rw [hg]
        all_goals
          refine ⟨_, rfl, pn, rfl, ⟨_, SqL.of gn⟩, fun D nD => lc_fl (outV g) nD (SqL.of gn) (small1000 (by rw [List.length_map]; omega)) (fun j x H'' ex s k1 k0 h1 h0 => ?_) (fun H2 t2 g2 => ?_)⟩
          · obtain ⟨y, rfl⟩ : ∃ y, x = V.int y := by
              rw [List.getElem?_map] at ex
              obtain ⟨y, _, e⟩ := Option.map_eq_some_iff.mp ex
              exact ⟨y, e.symm⟩
            refine ⟨rfl, _, rfl, _, rfl, (scal_oi y g).mpr trivial, ?_⟩
            by_cases hy : V.int y = oiV g
            · exact ⟨false, bl_of (by rw [decide_eq_true hy]; rfl), h0 _ (if_pos hy) (Same.refl _)⟩
            · exact ⟨true, bl_of (by rw [decide_eq_false hy]; rfl), _, rfl, h1 _ _ (if_neg hy) (Same.refl _)⟩
          rw [out_map] at g2
          have t02 := t.trans t2
          have hol := out_len near g
          refine ⟨_, rfl, _, rfl, b, _, _, _, rfl, rfl, t02.seq hB, hlat, sz_ok rfl, fun p3 n3 => ?_⟩
          generalize e3 : upd H2 p3 _ = H3
          have t3 : Same H2 H3 := e3 ▸ Same.new n3
          have g3 : H3 p3 = some (.lst [.int ls[i]]) := e3 ▸ upd_same
          clear e3
          refine ⟨D, p3, _, _, rfl, rfl, t3 _ _ g2, g3, Nat.le_trans (by rw [List.length_map]; show _ + 1 ≤ 1000; omega) (by decide), fun p4 n4 => ?_⟩
          rw [show (outL near g).map V.int ++ [V.int ls[i]] = (outL near g ++ [ls[i]]).map V.int by rw [List.map_append]; rfl]
          generalize e4 : upd H3 p4 _ = H4
          have t4 : Same H3 H4 := e4 ▸ Same.new n4
          have g4 : H4 p4 = some (.lst ((outL near g ++ [ls[i]]).map V.int)) := e4 ▸ upd_same
          clear e4
          have t24 := (t2.trans t3).trans t4
          have gp4 := t24 _ _ gp
          have ne4 : p4 ≠ pp := (ne_of_none ((t2.trans t3) _ _ gp) n4).symm
          refine ⟨_, rfl, .inl ⟨rfl, _, SqL.of gp4⟩, _, rfl, pp, _, _, rfl, rfl, gp4, small1000 (by rw [List.length_map]; omega), ?_⟩
          exact ⟨p4, outL near g ++ [ls[i]], gs ++ [g], _, _, rfl, (t.trans t24).mut npH, ne4, by walk_at "hp", by rw [List.map_append]; exact upd_same, by rw [List.length_append, List.length_singleton]; omega, by rw [List.length_append, hgl]; rfl⟩
    · obtain ⟨pn, near, gs, v5, v6, rfl, t, ne, gn, gp, hnl, hgl⟩ := h
      rw [List.length_map] at hgl
      exact ⟨_, rfl, q _ pp gs t npH gp hgl⟩

def spLawMissed (K : PySem.W.Frag) : Sp := fun vs H Q _ => ∃ (b pl : Addr) (ls : List Int) (gs : List (Option Int)) (room : Int), vs = [.ref b, .int room, .ref pl] ∧ SqL K H b (ls.map V.int) ∧ SqL K H pl (gs.map oiV) ∧ ls.length ≤ 900 ∧ 0 ≤ room ∧ ∀ H', Same H H' → Q (ovV (resP room ls gs)) H'
theorem ok_law_way {near : List Int} {room l : Int} {g : Option Int} (h : (near.length : Nat) ≤ room) : okGo near room l g = if l ∈ near ∨ (near.length : Nat) < room then g.isNone else goB near g := by
  unfold okGo
  by_cases h1 : l ∈ near
  · rw [if_neg (fun z => z.1 h1), if_pos (.inl h1)]
  · by_cases h2 : (near.length : Nat) < room
    · rw [if_neg (fun z => by omega), if_pos (.inr h2)]
    · rw [if_pos ⟨h1, by omega⟩, if_neg (fun z => z.elim h1 h2)]
theorem nearGo_out {near : List Int} {l : Int} (h : l ∉ near) (g : Option Int) : nearGo near l g = outL near g ++ [l] := by
  have hm : l ∉ outL near g := by
    cases g with
    | none => exact h
    | some y => exact fun z => h (List.mem_filter.mp z).1
  unfold nearGo
  cases g with
  | none => exact if_neg h
  | some y => exact if_neg hm
theorem filter_lt {y : Int} : ∀ {near : List Int}, y ∈ near → (near.filter (fun z => z != y)).length < near.length
  | x :: near, h => by
    have hl := List.length_filter_le (fun z => z != y) near
    by_cases e : x = y
    · rw [List.filter_cons_of_neg (by simp [e]), List.length_cons]
      omega
    · have := filter_lt ((List.mem_cons.mp h).resolve_left (fun z => e z.symm))
      rw [List.filter_cons_of_pos (by simpa using e), List.length_cons, List.length_cons]
      omega
/-- the room is enough behind each touch -/
theorem nearGo_room {near : List Int} {room l : Int} {g : Option Int} (h : (near.length : Nat) ≤ room) (ok : okGo near room l g = true) : ((nearGo near l g).length : Nat) ≤ room := by
  by_cases h1 : l ∈ near
  · rw [ok_law_way h, if_pos (.inl h1)] at ok
    cases g with
    | none =>
      rw [show nearGo near l none = near from if_pos h1]
      exact h
    | some y => cases ok
  · rw [nearGo_out h1]
    by_cases h2 : (near.length : Nat) < room
    · have := out_len near g
      rw [List.length_append, List.length_singleton]
      omega
    · rw [ok_law_way h, if_neg (fun z => z.elim h1 h2)] at ok
      cases g with
      | none => cases ok
      | some y =>
        have := filter_lt (of_decide_eq_true ok)
        show (((near.filter (fun z => z != y)) ++ [l]).length : Int) ≤ room
        rw [List.length_append, List.length_singleton]
        omega
abbrev s__law_missed : Stmt := top 22
abbrev N__law_missed : List Str := ["_law_lines", "_law_room", "_law_plan", "_law_near", "_law_many", "_law_k", "_law_line"]
theorem S__law_missed : FnScope N__law_missed ["_law_lines", "_law_room", "_law_plan"] (defScope s__law_missed) := ⟨rfl, rfl, rfl, by decide +kernel, rfl, by decide +kernel, by decide +kernel⟩

theorem c_law_missed (T : Txt K w mg) (D : DefAt K "_law_missed" s__law_missed) : Cal P w K mg base CX0 1 "_law_missed" (spLawMissed K) := by
  have S := S__law_missed
  refine cal_of T.toTop D S (fun _ _ _ _ _ _ us hl => match us, hl with | [_, _, _], _ => rfl) (fun vs H Q E h => ?_) (fun f cdv A outer s H vs Q E hr h => ?_)
  · obtain ⟨b, pl, ls, gs, room, rfl, _⟩ := h
    rfl
  · obtain ⟨b, pl, ls, gs, room, rfl, hB, hG, hl, hroom, q⟩ := h
    refine ⟨_, (pss_cons (ps_set (i := 3) S.nd rfl (Or.inl rfl) (pe_lst pa_nil))
  (pss_cons (ps_set (i := 4) S.nd rfl (Or.inl rfl) pe_int)
  (pss_cons (ps_if (pt_cmpR op_ne (pe_callB call_len_seq (by rfl) T.len PySem.boot_len (pa_cons (pv 2) pa_nil)) (pe_callB call_len_seq (by rfl) T.len PySem.boot_len (pa_cons (pv 0) pa_nil)) (nomark _)) (pss_one (ps_ret pe_non)) pss_nil)
  (pss_cons (ps_for PassesOwn.never rfl (pi_range1 rfl T.range (pa_cons (pe_callB call_len_seq (by rfl) T.len PySem.boot_len (pa_cons (pv 0) pa_nil)) pa_nil)) (pg_name (i := 5) S.nd rfl (Or.inr rfl))
  (pss_cons (ps_if (PW.pt (pw_or (pt_cmpR op_in_seq (pe_ix ix_list (pv 0) (pv 5) (fun _ _ => rfl)) (pv 3) (by with_unfolding_all rfl)) (pw_or1 (pt_cmpR op_lt (pe_callB call_len_seq (by rfl) T.len PySem.boot_len (pa_cons (pv 3) pa_nil)) (pv 1) (nomark _))))) (pss_one (ps_if (pt_cmpR op_notN (pe_ix ix_list (pv 2) (pv 5) (fun _ _ => rfl)) pe_non (nomark _)) (pss_one (ps_ret pe_non)) pss_nil)) (pss_one (ps_if (PW.pt (pw_or (pt_cmpR op_isN (pe_ix ix_list (pv 2) (pv 5) (fun _ _ => rfl)) pe_non (nomark _)) (pw_or1 (pt_cmpR op_notIn_seq (pe_ix ix_list (pv 2) (pv 5) (fun _ _ => rfl)) (pv 3) (by with_unfolding_all rfl))))) (pss_one (ps_ret pe_non)) pss_nil)))
  (pss_one (ps_if (pt_cmpR op_notIn_seq (pe_ix ix_list (pv 0) (pv 5) (fun _ _ => rfl)) (pv 3) (by with_unfolding_all rfl)) (pss_cons (ps_set (i := 4) S.nd rfl (Or.inl rfl) (pe_op op_add (pv 4) pe_int))
  (pss_one (ps_set (i := 3) S.nd rfl (Or.inl rfl) (pe_op op_cat (pe_lc (own := [("_law_line", 6)]) (g := gName 6)  rfl S.nd (pi_list (pv 3)) (blkOk_by (own := [("_law_line", 6)]) (N := N__law_missed) (sc := defScope s__law_missed) (by decide +kernel)) (fun _ _ _ _ _ => pg_name (i := 6) S.nd rfl (Or.inl rfl)) (fun _ _ _ _ _ => pts_one (pt_cmpR op_ne (pv 6) (pe_ix (r := rIxL K) ix_list (pv 2) (pv 5) (fun _ _ => rfl)) (nomark _))) (fun _ _ _ _ _ => (pv 6))) (pe_lst (pa_cons (pe_ix ix_list (pv 0) (pv 5) (fun _ _ => rfl)) pa_nil)))))) pss_nil))))
  (pss_one (ps_ret (pv 4))))))), ?_⟩
    refine ⟨sz_ok rfl, fun pn0 nn => ?_⟩
    have t0 : Same H (upd H pn0 (.lst [])) := Same.new nn
    have g0 : upd H pn0 (.lst []) pn0 = some (.lst (([] : List Int).map V.int)) := upd_same
    generalize upd H pn0 (.lst []) = H0 at t0 g0
    refine ⟨_, rfl, pl, _, rfl, .inl (t0.seq hG), _, rfl, b, _, rfl, .inl (t0.seq hB), rfl, ?_⟩
    rw [List.length_map, List.length_map]
    by_cases hlen : gs.length = ls.length
    case neg =>
      refine ⟨true, bl_of ?_, ?_⟩
      · rw [decide_eq_false (fun z => hlen (by have := V.int.inj z; omega))]
        rfl
      have := q H0 t0
      rw [show resP room ls gs = none from if_neg hlen] at this
      exact this
    refine ⟨false, bl_of ?_, ?_⟩
    · rw [hlen, decide_eq_true rfl]
      rfl
    rw [show resP room ls gs = walkP room [] 0 (ls.zip gs) from if_pos hlen] at q
    refine ⟨_, rfl, b, _, rfl, .inl (t0.seq hB), _, rfl, by omega, by rw [List.length_map]; omega, for_range (n := (ls.map V.int).length) (fun i σ H' => ∃ (pn : Addr) (near : List Int) (n : Nat) (v5 : Option V), σ = [some (.ref b), some (.int room), some (.ref pl), some (.ref pn), some (.int (n : Nat)), v5, none] ∧ Same H H' ∧
      H' pn = some (.lst (near.map V.int)) ∧ near.length ≤ i ∧ (near.length : Nat) ≤ room ∧ walkP room near n ((ls.zip gs).drop i) = walkP room [] 0 (ls.zip gs)) ⟨pn0, [], 0, _, rfl, t0, g0, Nat.le_refl _, hroom, rfl⟩ (fun i σ H' hi h => ?_) (fun σ H' h => ?_)⟩
    · obtain ⟨pn, near, n, v5, rfl, t, gn, hnl, hnr, hw⟩ := h
      rw [List.length_map] at hi
      obtain ⟨l, el⟩ : ∃ l, ls[i]? = some l := ⟨_, List.getElem?_eq_getElem hi⟩
      obtain ⟨g, eg⟩ : ∃ g, gs[i]? = some g := ⟨_, List.getElem?_eq_getElem (by omega)⟩
      have hlat : atI (ls.map V.int) (0 + (i : Int)) = some (.int l) := at_map0 _ el
      have hgat : atI (gs.map oiV) (0 + (i : Int)) = some (oiV g) := at_map0 _ eg
      have hdr : (ls.zip gs).drop i = (l, g) :: (ls.zip gs).drop (i + 1) := by
        have hz : (ls.zip gs)[i]? = some (l, g) := by rw [List.getElem?_zip_eq_some]; exact ⟨el, eg⟩
        rw [List.drop_eq_getElem_cons (by rw [List.length_zip]; omega), (List.getElem?_eq_some_iff.mp hz).2]
      rw [hdr] at hw
      have hfl : (near.map V.int).all flatV = true := by
        rw [List.all_map]
        exact List.all_eq_true.mpr fun _ _ => rfl
      have bad : okGo near room l g = false → Q .non H' := fun hok => by
        have := q H' t
        rw [← hw, show walkP room near n ((l, g) :: (ls.zip gs).drop (i + 1)) = none from if_neg (by rw [hok]; decide)] at this
        exact this
      have way := ok_law_way (l := l) (g := g) hnr
      have hisn : ∀ g : Option Int, decide (oiV g = .non) = g.isNone := fun g => by cases g <;> rfl
      -- the touch, when it goes as it must
      have good : okGo near room l g = true → walkP room (nearGo near l g) (if l ∈ near then n else n + 1) ((ls.zip gs).drop (i + 1)) = walkP room [] 0 (ls.zip gs) ∧ ((nearGo near l g).length : Nat) ≤ room := fun hok => by
        refine ⟨?_, nearGo_room hnr hok⟩
        rw [← hw]
        exact (if_pos hok).symm
      refine ⟨_, rfl, _, rfl, b, _, _, _, rfl, rfl, t.seq hB, hlat, _, rfl, pn, _, rfl, .inl (SqL.of gn), rfl, hfl, ?_⟩
      rw [inV_int]
      by_cases hm : l ∈ near
      · refine ⟨true, bl_of (decide_eq_true hm), ?_⟩
        rw [if_pos (.inl hm)] at way
        refine ⟨_, rfl, _, rfl, pl, _, _, _, rfl, rfl, t.seq hG, hgat, rfl, ?_⟩
        rw [hisn]
        cases g with
        | some y => exact ⟨true, rfl, bad way⟩
        | none =>
          refine ⟨false, rfl, ?_⟩
          refine ⟨_, rfl, _, rfl, b, _, _, _, rfl, rfl, t.seq hB, hlat, _, rfl, pn, _, rfl, .inl (SqL.of gn), rfl, hfl, ?_⟩
          rw [inV_int]
          refine ⟨false, bl_of (by rw [decide_eq_true hm]; rfl), ?_⟩
          have hg := (good way).1
          rw [if_pos hm, show nearGo near l none = near from if_pos hm] at hg
          exact ⟨pn, near, n, _, rfl, t, gn, by omega, hnr, hg⟩
      · refine ⟨false, bl_of (decide_eq_false hm), ?_⟩
        refine ⟨_, rfl, pn, _, rfl, .inl (SqL.of gn), _, rfl, _, _, rfl, rfl, ?_⟩
        rw [List.length_map]
        by_cases hf : (near.length : Nat) < room
        case' pos =>
          refine ⟨true, bl_of (decide_eq_true hf), ?_⟩
          rw [if_pos (.inr hf)] at way
          refine ⟨_, rfl, _, rfl, pl, _, _, _, rfl, rfl, t.seq hG, hgat, rfl, ?_⟩
          rw [hisn]
          by_cases hok : okGo near room l g = true
          case neg => exact ⟨true, bl_of (by rw [← way, Bool.eq_false_iff.mpr hok]; rfl), bad (Bool.eq_false_iff.mpr hok)⟩
          refine ⟨false, bl_of (by rw [← way, hok]; rfl), ?_⟩
        case' neg =>
          refine ⟨false, bl_of (decide_eq_false hf), ?_⟩
          rw [if_neg (fun z => z.elim hm hf)] at way
          refine ⟨_, rfl, _, rfl, pl, _, _, _, rfl, rfl, t.seq hG, hgat, rfl, ?_⟩
          rw [hisn]
          by_cases hok : okGo near room l g = true
          case neg =>
            cases g with
            | none => exact ⟨true, rfl, bad way⟩
            | some y =>
              refine ⟨false, rfl, ?_⟩
              refine ⟨_, rfl, _, rfl, pl, _, _, _, rfl, rfl, t.seq hG, hgat, _, rfl, pn, _, rfl, .inl (SqL.of gn), rfl, hfl, ?_⟩
              rw [show oiV (some y) = .int y from rfl, inV_int]
              refine ⟨true, bl_of ?_, bad (Bool.eq_false_iff.mpr hok)⟩
              rw [show decide (y ∈ near) = goB near (some y) from rfl, ← way, Bool.eq_false_iff.mpr hok]
              rfl
          obtain ⟨y, rfl⟩ : ∃ y, g = some y := by
            cases g with
            | none => rw [way] at hok; cases hok
            | some y => exact ⟨y, rfl⟩
          refine ⟨false, rfl, ?_⟩
          refine ⟨_, rfl, _, rfl, pl, _, _, _, rfl, rfl, t.seq hG, hgat, _, rfl, pn, _, rfl, .inl (SqL.of gn), rfl, hfl, ?_⟩
          rw [show oiV (some y) = .int y from rfl, inV_int]
          refine ⟨false, bl_of ?_, ?_⟩
          · rw [show decide (y ∈ near) = goB near (some y) from rfl, ← way, hok]
            rfl
          obtain ⟨g, hg⟩ : ∃ g, some y = g := ⟨_, rfl⟩
          rw [hg] at good hok hgat
        all_goals
          obtain ⟨g1, g2⟩ := good hok
          rw [if_neg hm] at g1
          rw [nearGo_out hm] at g1 g2
          refine ⟨_, rfl, _, rfl, b, _, _, _, rfl, rfl, t.seq hB, hlat, _, rfl, pn, _, rfl, .inl (SqL.of gn), rfl, hfl, ?_⟩
          rw [inV_int]
          refine ⟨true, bl_of (by rw [decide_eq_false hm]; rfl), ?_⟩
          refine ⟨_, rfl, _, _, rfl, rfl, ?_⟩
          refine ⟨_, rfl, pn, rfl, ⟨_, SqL.of gn⟩, fun D nD => lc_fl (outV g) nD (SqL.of gn) (small1000 (by rw [List.length_map]; omega)) (fun j x H'' ex s k1 k0 h1 h0 => ?_) (fun H2 t2 h2 => ?_)⟩
          · obtain ⟨y, rfl⟩ : ∃ y, x = V.int y := by
              rw [List.getElem?_map] at ex
              obtain ⟨y, _, e⟩ := Option.map_eq_some_iff.mp ex
              exact ⟨y, e.symm⟩
            refine ⟨rfl, _, rfl, _, rfl, _, rfl, pl, _, _, _, rfl, rfl, (t.trans s).seq hG, hgat, (scal_oi y g).mpr trivial, ?_⟩
            by_cases hy : V.int y = oiV g
            · exact ⟨false, bl_of (by rw [decide_eq_true hy]; rfl), h0 _ (if_pos hy) (Same.refl _)⟩
            · exact ⟨true, bl_of (by rw [decide_eq_false hy]; rfl), _, rfl, h1 _ _ (if_neg hy) (Same.refl _)⟩
          rw [out_map] at h2
          have t02 := t.trans t2
          have hol := out_len near g
          refine ⟨_, rfl, _, rfl, b, _, _, _, rfl, rfl, t02.seq hB, hlat, sz_ok rfl, fun p3 n3 => ?_⟩
          have t3 : Same H2 (upd H2 p3 (.lst [.int l])) := Same.new n3
          refine ⟨D, p3, _, _, rfl, rfl, t3 _ _ h2, upd_same, Nat.le_trans (by rw [List.length_map]; show _ + 1 ≤ 1000; omega) (by decide), fun p4 n4 => ?_⟩
          rw [show (outL near g).map V.int ++ [V.int l] = (outL near g ++ [l]).map V.int by rw [List.map_append]; rfl]
          exact ⟨p4, outL near g ++ [l], n + 1, _, rfl, ((t02.trans t3).trans (Same.new n4)), upd_same, by rw [List.length_append, List.length_singleton]; omega, g2, g1⟩
    · obtain ⟨pn, near, n, v5, rfl, t, gn, hnl, hnr, hw⟩ := h
      rw [List.length_map, List.drop_of_length_le (by rw [List.length_zip]; omega)] at hw
      have := q H' t
      rw [← hw] at this
      exact ⟨_, rfl, this⟩

abbrev s__law_alone : Stmt := top 23
abbrev N__law_alone : List Str := ["_law_e", "_law_own", "_law_some"]
theorem S__law_alone : FnScope N__law_alone ["_law_e", "_law_own"] (defScope s__law_alone) := ⟨rfl, rfl, rfl, by decide +kernel, rfl, by decide +kernel, by decide +kernel⟩

theorem c_alone {cs : List Addr} {C0 C1 C2 C3 C4 cL : Addr} (ecs : cs = [C0, C1, C2, C3, C4]) (T : Txt K w mg) (D : DefAt K "_law_alone" s__law_alone) (g0 : mg "BadRow" = some (.ref C0)) (g1 : mg "BadBoxes" = some (.ref C1)) (g2 : mg "BadShape" = some (.ref C2)) (g3 : mg "NoBox" = some (.ref C3)) (g4 : mg "BadPlan" = some (.ref C4)) (gL : mg "LineError" = some (.ref cL)) (nV : mg "ValueError" = none) :
    CalS P w K mg base 1 "_law_alone" (spAlone K cs cL) := by
  have S := S__law_alone
  refine calS_of T.toTop D S (fun _ _ _ _ _ _ us hl => match us, hl with | [_, _], _ => rfl) (fun D a vs H Q E h => ?_) (fun f cdv A outer s H vs Q E p D hz hf hr h => ?_)
  · obtain ⟨own, rfl, _⟩ := h
    rfl
  · obtain ⟨own, rfl, ho, hA, q⟩ := h
    subst ecs
    refine ⟨_, (pss_cons (ps_set (i := 2) S.nd rfl (Or.inl rfl) (pe_lst (pa_cons (pe_callB (call_isP (q := p) List.mem_cons_self hA.ex hz hf) (by rfl) T.isinstance (by decide +kernel) (pa_cons (pv 0) (pa_cons ((pe_glob (v := .ref C0) rfl g0 rfl)) pa_nil))) (pa_cons (pe_callB (call_isP (q := p) List.mem_cons_self hA.ex hz hf) (by rfl) T.isinstance (by decide +kernel) (pa_cons (pv 0) (pa_cons ((pe_glob (v := .ref C1) rfl g1 rfl)) pa_nil))) (pa_cons (pe_callB (call_isP (q := p) List.mem_cons_self hA.ex hz hf) (by rfl) T.isinstance (by decide +kernel) (pa_cons (pv 0) (pa_cons ((pe_glob (v := .ref C2) rfl g2 rfl)) pa_nil))) (pa_cons (pe_callB (call_isP (q := p) List.mem_cons_self hA.ex hz hf) (by rfl) T.isinstance (by decide +kernel) (pa_cons (pv 0) (pa_cons ((pe_glob (v := .ref C3) rfl g3 rfl)) pa_nil))) pa_nil))))))
  (pss_cons (ps_expr (pe_bm PySem.F.plainAttrs_list PySem.F.slot_list_append PySem.F.type_list_append mt_append (pv 2) (pa_cons (pe_callB (call_isP (q := p) List.mem_cons_self hA.ex hz hf) (by rfl) T.isinstance (by decide +kernel) (pa_cons (pv 0) (pa_cons ((pe_glob (v := .ref C4) rfl g4 rfl)) pa_nil))) pa_nil)))
  (pss_one (ps_ret (pe_and (pe_cmpR op_eq (pe_bm PySem.F.plainAttrs_list PySem.F.slot_list_count PySem.F.type_list_count mt_countV (pv 2) (pa_cons pe_bl pa_nil)) pe_int (nomark _)) (pe_and (pe_ix ix_list (pv 2) (pv 1) (fun _ _ => rfl)) (pe_and (pe_callB (call_isP (q := p) List.mem_cons_self hA.ex hz hf) (by rfl) T.isinstance (by decide +kernel) (pa_cons (pv 0) (pa_cons ((pe_glob (v := .ref cL) rfl gL rfl)) pa_nil))) (pe_one (pe_callB (call_isP (q := p) List.mem_cons_self hA.ex hz hf) (by rfl) T.isinstance (by decide +kernel) (pa_cons (pv 0) (pa_cons ((pe_bltn (v := .ty "ValueError") (u := .type "ValueError") rfl nV (by decide +kernel) rfl)) pa_nil))))))))))), ?_⟩
    have ref1 : ∀ c : Addr, ∀ u, RelV (.ref c) u → u = .ref c := fun _ _ h => h
    refine ⟨_, rfl, _, _, _, rfl, ref1 _, hA.k 0 _ rfl, ?_⟩
    refine ⟨_, rfl, _, _, _, rfl, ref1 _, hA.k 1 _ rfl, ?_⟩
    refine ⟨_, rfl, _, _, _, rfl, ref1 _, hA.k 2 _ rfl, ?_⟩
    refine ⟨_, rfl, _, _, _, rfl, ref1 _, hA.k 3 _ rfl, ?_⟩
    refine ⟨sz_ok rfl, fun p1 n1 => ?_⟩
    refine ⟨_, rfl, .inl ⟨rfl, _, SqL.of upd_same⟩, _, rfl, _, _, _, rfl, ref1 _, hA.k 4 _ rfl, p1, _, _, rfl, rfl, upd_same, Nat.lt_of_lt_of_le (by simp : _ < 10) (by decide), ?_⟩
    have s1 := (Same.new (o := .lst [.bl (decide (0 = own)), .bl (decide (1 = own)), .bl (decide (2 = own)), .bl (decide (3 = own))]) n1).mut (o := .lst ([.bl (decide (0 = own)), .bl (decide (1 = own)), .bl (decide (2 = own)), .bl (decide (3 = own))] ++ [.bl (decide (4 = own))])) n1
    refine ⟨_, rfl, .inl ⟨rfl, _, SqL.of upd_same⟩, p1, _, .bl true, rfl, rfl, SqL.of upd_same, rfl, rfl, rfl, _, rfl, ?_⟩
    have h5 : own = 0 ∨ own = 1 ∨ own = 2 ∨ own = 3 ∨ own = 4 := by omega
    rcases h5 with rfl | rfl | rfl | rfl | rfl <;> exact ⟨_, rfl, _, rfl, p1, _, _, .bl true, rfl, rfl, SqL.of upd_same, rfl, _, rfl, _, rfl, _, _, _, rfl, ref1 _, hA.line, _, rfl, _, rfl, _, _, _, rfl, fun _ h => h, hA.val, q _ s1⟩

theorem alone5 {C0 C1 C2 C3 C4 cL D : Addr} {own : Nat} (ex : ExcC K D) (h0 : PySem.W.kitOne K (.ref D) (.ref C0) = some (decide (0 = own))) (h1 : PySem.W.kitOne K (.ref D) (.ref C1) = some (decide (1 = own)))
    (h2 : PySem.W.kitOne K (.ref D) (.ref C2) = some (decide (2 = own))) (h3 : PySem.W.kitOne K (.ref D) (.ref C3) = some (decide (3 = own))) (h4 : PySem.W.kitOne K (.ref D) (.ref C4) = some (decide (4 = own)))
    (hL : PySem.W.kitOne K (.ref D) (.ref cL) = some true) (hV : PySem.W.kitOne K (.ref D) (.type "ValueError") = some true) : AloneAt K [C0, C1, C2, C3, C4] cL D own := by
  refine ⟨ex, fun j c e => ?_, hL, hV⟩
  match j, e with
  | 0, e => cases e; exact h0
  | 1, e => cases e; exact h1
  | 2, e => cases e; exact h2
  | 3, e => cases e; exact h3
  | 4, e => cases e; exact h4
theorem excC_mk {D : Addr} (hg : PySem.W.findIn K (.ref D) "__getattribute__" = some (some (.builtin "BaseException.__getattribute__"))) (hk : PySem.W.findIn K (.ref D) "__getattr__" = some none)
    (hs : PySem.W.subIn K (.ref D) (.type "BaseException") = some true) (hd : PySem.W.hasDictIn K D = true) (ha : PySem.W.findIn K (.ref D) "__class__" = some (some (.builtin "object.__class__")))
    (hn : PySem.W.specialIn K (.builtin "object.__class__") "__get__" = some (some (.builtin "getset_descriptor.__get__"))) (ht : PySem.W.takesIn K (.builtin "object.__class__") = some true) (hm : PySem.W.mroIn K D (.type "object") = some true) : ExcC K D := ⟨hg, hk, hs, hd, ha, hn, ht, hm⟩

-- SPLIT
abbrev s_law : Stmt := top 24
abbrev N_law : List Str := ["_law_script", "_law_first", "_law_room", "_law_width", "_law_touches", "_law_lines", "_law_plan", "_law_how", "_law_at", "_law_due", "_law_given", "_law_told", "_law_many", "_law_e", "_law_touch"]
theorem S_law : FnScope N_law ["_law_script"] (defScope s_law) := ⟨rfl, rfl, rfl, by decide +kernel, rfl, by decide +kernel, by decide +kernel⟩

theorem ok_law {C4 cL : Addr} {cs5 : List Addr} (T : Txt K w mg) (D : DefAt K "law" s_law) (X_BadPlan : ExcT K mg "BadPlan" C4) (eP : PySem.W.exmOne K (.ref C4) (.ref C4) = some true) (hAl : AloneAt K cs5 cL C4 4)
    (c_cell : ∀ base, Cal P w K mg base CX0 1 "_law_cell_at" (spCellAt K)) (c_mix : ∀ base, Cal P w K mg base CX0 1 "_law_mixed" spMixed) (c_tb : ∀ base, Cal P w K mg base CX0 2 "_law_touches_by" (spTouchesBy K)) (c_pb : ∀ base, Cal P w K mg base CX0 2 "_law_plan_by" (spPlanBy K))
    (c_lm : ∀ base, Cal P w K mg base CX0 1 "_law_missed" (spLawMissed K)) (c_wh : ∀ base, Cal P w K mg base CX0 1 "_law_whole" (spWhole K)) (c_wk : ∀ base, Cal P w K mg base (L2.CX P w) 3 "walked" (spWalked K C4)) (c_al : ∀ base, CalS P w K mg base 1 "_law_alone" (spAlone K cs5 cL)) : LawOk P w K mg 4 := by
  have S := S_law
  refine law_of T.toTop D S (fun _ _ _ _ _ _ _ => rfl) (fun base f cdv A outer s H a ns Q E hr hS hlen q => ?_)
  have C__law_cell_at := c_cell base
  have C__law_mixed := c_mix base
  have C__law_touches_by := c_tb base
  have C__law_plan_by := c_pb base
  have C__law_missed := c_lm base
  have C__law_whole := c_wh base
  have C_walked := c_wk base
  have C__law_alone := c_al base
  have hu64 := hu64_of hr
  refine ⟨_, (pss_cons (ps_set (i := 1) S.nd rfl (Or.inl rfl) (pe_c C__law_cell_at hr (by decide) rfl (pa_cons (pv 0) (pa_cons pe_int pa_nil))))
  (pss_cons (ps_set (i := 2) S.nd rfl (Or.inl rfl) (pe_ix ix_list (pe_lst (pa_cons (pe_op op_add pe_int (pe_op op_mod (pe_op op_fdiv (pv 1) pe_int) pe_int)) (pa_cons (pe_op op_add pe_int (pe_op op_mod (pe_op op_fdiv (pv 1) pe_int) pe_int)) (pa_cons (pe_op op_add pe_int (pe_op op_mod (pe_op op_fdiv (pv 1) pe_int) pe_int)) (pa_cons pe_int pa_nil))))) (pe_op op_mod (pv 1) pe_int) (fun _ _ => rfl)))
  (pss_cons (ps_set (i := 3) S.nd rfl (Or.inr rfl) (pe_ix ix_list (pe_lst (pa_cons pe_int (pa_cons pe_int (pa_cons (pe_op op_add pe_int (pe_op op_mod (pe_op op_fdiv (pv 1) pe_int) pe_int)) (pa_cons (pe_op op_add pe_int (pe_op op_mod (pe_op op_fdiv (pv 1) pe_int) pe_int)) pa_nil))))) (pe_op op_mod (pe_c C__law_mixed hr (by decide) rfl (pa_cons (pv 1) pa_nil)) pe_int) (fun _ _ => rfl)))
  (pss_cons (ps_set (i := 4) S.nd rfl (Or.inl rfl) (pe_c C__law_touches_by hr (by decide) rfl (pa_cons (pe_slice sl_list (pv 0) (po_some pe_int) po_none) pa_nil)))
  (pss_cons (ps_setLc (i := 5) (own := [("_law_touch", 14)]) (g := gName 14) (tt := tYes) rfl S.nd rfl rfl (sw_true rfl rfl rfl (by decide +kernel)) (pi_list (pv 4)) (blkOk_by (own := [("_law_touch", 14)]) (N := N_law) (sc := defScope s_law) (by decide +kernel)) (fun _ _ _ _ _ => pg_name (i := 14) S.nd rfl (Or.inl rfl)) (fun _ _ _ _ _ => pts_nil) (fun _ _ _ _ _ => (pe_op op_fdiv (pe_ix (r := rIxT K) ix_tup (pv 14) pe_int (fun _ _ => rfl)) (pv 3))))
  (pss_cons (ps_set (i := 6) S.nd rfl (Or.inl rfl) (pe_c C__law_plan_by hr (by decide) rfl (pa_cons (pe_slice sl_list (pv 0) (po_some pe_int) po_none) (pa_cons (pv 5) (pa_cons (pv 2) pa_nil)))))
  (pss_cons (ps_set (i := 7) S.nd rfl (Or.inl rfl) (pe_c C__law_cell_at hr (by decide) rfl (pa_cons (pv 0) (pa_cons pe_int pa_nil))))
  (pss_cons (ps_if (PW.pt (pw_and (pt_cmpR op_eq (pe_op op_mod (pv 7) pe_int) pe_int (nomark _)) (pw_and1 (pt_cmpR op_eq (pe_op op_mod (pe_op op_fdiv (pv 7) pe_int) pe_int) pe_int (nomark _))))) (pss_one (ps_set (i := 6) S.nd rfl (Or.inl rfl) (pe_slice sl_list (pv 6) po_none (po_some (pe_un un_neg pe_int))))) (pss_one (ps_if (PW.pt (pw_and (pt_cmpR op_eq (pe_op op_mod (pv 7) pe_int) pe_int (nomark _)) (pw_and1 (pt_cmpR op_eq (pe_op op_mod (pe_op op_fdiv (pv 7) pe_int) pe_int) pe_int (nomark _))))) (pss_one (ps_set (i := 6) S.nd rfl (Or.inl rfl) (pe_op op_cat (pv 6) (pe_lst (pa_cons pe_non pa_nil))))) (pss_one (ps_if (PW.pt (pw_and (pt_cmpR op_eq (pe_op op_mod (pv 7) pe_int) pe_int (nomark _)) (pw_and1 (pt_cmpR op_gt (pe_callB call_len_seq (by rfl) T.len PySem.boot_len (pa_cons (pv 6) pa_nil)) pe_int (nomark _))))) (pss_cons (ps_set (i := 8) S.nd rfl (Or.inl rfl) (pe_op op_mod (pe_c C__law_cell_at hr (by decide) rfl (pa_cons (pv 0) (pa_cons pe_int pa_nil))) (pe_callB call_len_seq (by rfl) T.len PySem.boot_len (pa_cons (pv 6) pa_nil))))
  (pss_one (ps_asg (pe_ix ix_list (pe_lst (pa_cons pe_non (pa_cons (pe_ix ix_list (pv 5) (pv 8) (fun _ _ => rfl)) (pa_cons (pe_ix ix_list (pv 5) pe_int (fun _ _ => rfl)) (pa_cons (pe_op op_sub pe_int pe_int) (pa_cons (pe_ix ix_list (pv 5) (pe_op op_fdiv (pv 8) pe_int) (fun _ _ => rfl)) (pa_cons pe_non pa_nil))))))) (pe_op op_mod (pe_op op_fdiv (pv 7) pe_int) pe_int) (fun _ _ => rfl)) (pg_sub (pv 6) (pv 8) set_list)))) pss_nil)))))
  (pss_cut (D := { nx := fun _ H' => Q .non H', rt := Q }) (P := fun σ H' => ∃ (c room wd how : Int) (pt pl pp : Addr) (us : List V) (ts : List (Str × Int)) (gs : List (Option Int)) (v8 : Option V), σ = [some (.ref a), some (.int c), some (.int room), some (.int wd), some (.ref pt), some (.ref pl), some (.ref pp), some (.int how), v8, none, none, none, none, none, none] ∧ H' pt = some (.lst us) ∧ TsAt H' us ts ∧ H' pl = some (.lst ((linesOf wd ts).map V.int)) ∧ H' pp = some (.lst (gs.map oiV)) ∧ gs.length ≤ 64 ∧ 0 < room ∧ 0 < wd ∧ wd < 1073741824 ∧ ts.length ≤ 63 ∧ ∀ t ∈ ts, RW t) ?tail))))))))), ?_⟩
  case tail =>
    refine ⟨_, (pss_cons (ps_set (i := 9) S.nd rfl (Or.inl rfl) (pe_c C__law_missed hr (by decide) rfl (pa_cons (pv 5) (pa_cons (pv 2) (pa_cons (pv 6) pa_nil)))))
  (pss_cons (ps_set (i := 10) S.nd rfl (Or.inl rfl) (pe_callTy call_list_of (by rfl) T.list (by decide +kernel) (pa_cons (pv 4) pa_nil)))
  (pss_cons (ps_set (i := 11) S.nd rfl (Or.inl rfl) (pe_callTy call_list_of (by rfl) T.list (by decide +kernel) (pa_cons (pv 6) pa_nil)))
  (pss_cons (ps_try_as (i := 13) rfl rfl S.nd rfl rfl ⟨rfl, by decide, .inl X_BadPlan.g⟩ takes0 (fun W pn xe tk _ => (pss_one (ps_set (i := 12) S.nd rfl (Or.inl rfl) (pe_cx C_walked tk hr (by decide) rfl (pa_cons (pv 10) (pa_cons (pv 2) (pa_cons (pv 3) (pa_cons (pv 11) pa_nil)))))))) (fun a oe cls d pn hz hf => (pss_one (ps_ret (pe_and (pe_cmpR op_isN (pv 9) pe_non (nomark _)) (pe_one (pe_su C__law_alone hz hf hr (by decide) rfl (pa_cons (pv 13) (pa_cons pe_int pa_nil)))))))))
  (pss_one (ps_ret (pe_and (pe_cmpR op_notN (pv 9) pe_non (nomark _)) (pe_and (pe_c C__law_whole hr (by decide) rfl (pa_cons (pv 12) pa_nil)) (pe_and (pe_cmpR op_eq (pv 12) (pv 9) (nomark _)) (pe_and (pe_cmpR (op_eqD hu64) (pv 10) (pv 4) (nomark _)) (pe_one (pe_cmpR (op_eqD hu64) (pv 11) (pv 6) (nomark _))))))))))))), fun σ H1 h => ?_⟩
    obtain ⟨c, room, wd, how, pt, pl, pp, us, ts, gs, v8, rfl, gt, hT, gl, gp, hgl, hroom, w0, w1, htl, hrw⟩ := h
    have hul := hT.1
    have hll : (linesOf wd ts).length = ts.length := by unfold linesOf; rw [List.length_map]
    refine ⟨_, rfl, _, rfl, _, rfl, pl, pp, linesOf wd ts, gs, room, rfl, SqL.of gl, SqL.of gp, by omega, by omega, fun H2 t2 => ?_⟩
    refine ⟨_, rfl, pt, _, rfl, .inl (SqL.of (t2 _ _ gt)), fun pg ng => ?_⟩
    have t3 : Same H2 (upd H2 pg (.lst us)) := Same.new ng
    have g3 : upd H2 pg (.lst us) pg = some (.lst us) := upd_same
    generalize upd H2 pg (.lst us) = H3 at t3 g3
    have t13 := t2.trans t3
    refine ⟨_, rfl, pp, _, rfl, .inl (SqL.of (t13 _ _ gp)), fun pf nf => ?_⟩
    have t4 : Same H3 (upd H3 pf (.lst (gs.map oiV))) := Same.new nf
    have g4 : upd H3 pf (.lst (gs.map oiV)) pf = some (.lst (gs.map oiV)) := upd_same
    generalize upd H3 pf (.lst (gs.map oiV)) = H4 at t4 g4
    have t14 := t13.trans t4
    refine ⟨_, rfl, _, rfl, _, rfl, _, rfl, pg, pf, us, ts, wd, room, gs, rfl, SqL.of (t4 _ _ g3), hT.same t14, w0, w1, by omega, SqL.of g4, by omega, fun n hn H5 t5 => ?_, fun hn H5 t5 => ?_⟩
    · rw [hn]
      have t15 := t14.trans t5
      have hT5 := hT.same t15
      have hsh := (tsl_ok hrw).shaped (by decide)
      have hso := (ois_ok gs).shaped (by decide)
      refine ⟨_, rfl, rfl, true, rfl, ?_⟩
      refine (if_pos rfl).mpr ?_
      refine ⟨_, rfl, _, "int", rfl, .base (.int _), by decide +kernel, by decide +kernel, true, bl_of rfl, ?_⟩
      refine (if_pos rfl).mpr ?_
      refine ⟨_, rfl, _, rfl, rfl, true, bl_of (decide_eq_true rfl), ?_⟩
      refine (if_pos rfl).mpr ?_
      refine ⟨_, rfl, _, rfl, _, _, .lst (SqL.of (t5 _ _ (t4 _ _ g3))) hT5.dp, .lst (SqL.of (t15 _ _ gt)) hT5.dp, hsh, hsh, true, bl_of (eqv_same hsh), ?_⟩
      refine (if_pos rfl).mpr ?_
      refine ⟨_, rfl, _, rfl, _, _, .lst (SqL.of (t5 _ _ g4)) (ois_dp gs), .lst (SqL.of (t15 _ _ gp)) (ois_dp gs), hso, hso, ?_⟩
      rw [eqv_same hso]
      exact q _
    · rw [hn]
      refine ⟨true, eP, fun _ px npx => ?_, fun q => nomatch q⟩
      refine ⟨_, rfl, rfl, true, rfl, ?_⟩
      refine (if_pos rfl).mpr ?_
      exact ⟨_, rfl, C4, rfl, rfl, 4, rfl, by decide, hAl, fun H6 s6 => q _⟩
  refine ⟨_, rfl, a, ns, 0, rfl, hS, by decide, ?_⟩
  generalize cellAt ns 0 = c
  refine ⟨_, rfl, _, _, rfl, rfl, ⟨by decide, by decide⟩, _, _, rfl, rfl, (by show (0 : Int) < 5; decide), _, _, rfl, rfl, ?_⟩
  refine ⟨_, rfl, _, _, rfl, rfl, ⟨by decide, by decide⟩, _, _, rfl, rfl, (by show (0 : Int) < 14; decide), _, _, rfl, rfl, ?_⟩
  refine ⟨_, rfl, _, _, rfl, rfl, ⟨by decide, by decide⟩, _, _, rfl, rfl, (by show (0 : Int) < 3; decide), _, _, rfl, rfl, sz_ok rfl, fun p1 n1 => ?_⟩
  generalize e1 : upd H p1 _ = H1
  have t1 : Same H H1 := e1 ▸ Same.new n1
  have g1 : H1 p1 = some (.lst (([1 + c / 4 % 5, 1 + c / 4 % 14, 1 + c / 4 % 3, 2] : List Int).map V.int)) := e1 ▸ upd_same
  clear e1
  obtain ⟨room, hroom, r0⟩ : ∃ m : Int, ([1 + c / 4 % 5, 1 + c / 4 % 14, 1 + c / 4 % 3, 2] : List Int).getD (c % 4).toNat 0 = m ∧ 0 < m := by
    have h : (c % 4).toNat = 0 ∨ (c % 4).toNat = 1 ∨ (c % 4).toNat = 2 ∨ (c % 4).toNat = 3 := by omega
    rcases h with h | h | h | h <;> rw [h]
    · exact ⟨1 + c / 4 % 5, rfl, by omega⟩
    · exact ⟨1 + c / 4 % 14, rfl, by omega⟩
    · exact ⟨1 + c / 4 % 3, rfl, by omega⟩
    · exact ⟨2, rfl, by decide⟩
  refine ⟨_, rfl, _, _, rfl, rfl, (by show (0 : Int) < 4; decide), p1, _, _, _, rfl, rfl, SqL.of g1, at_ints_mod (ns := [1 + c / 4 % 5, 1 + c / 4 % 14, 1 + c / 4 % 3, 2]) c (by decide) rfl, ?_⟩
  rw [hroom]
  refine ⟨_, rfl, _, _, rfl, rfl, ⟨by decide, by decide⟩, _, _, rfl, rfl, (by show (0 : Int) < 4; decide), _, _, rfl, rfl, ?_⟩
  refine ⟨_, rfl, _, _, rfl, rfl, ⟨by decide, by decide⟩, _, _, rfl, rfl, (by show (0 : Int) < 200; decide), _, _, rfl, rfl, sz_ok rfl, fun p2 n2 => ?_⟩
  generalize e2 : upd H1 p2 _ = H2
  have t2 : Same H1 H2 := e2 ▸ Same.new n2
  have g2 : H2 p2 = some (.lst (([1, 2, 1 + c / 56 % 4, 1 + c / 56 % 200] : List Int).map V.int)) := e2 ▸ upd_same
  clear e2
  obtain ⟨wd, hwd, w0, w1⟩ : ∃ wd : Int, ([1, 2, 1 + c / 56 % 4, 1 + c / 56 % 200] : List Int).getD (mixed c % 4).toNat 0 = wd ∧ 0 < wd ∧ wd < 1073741824 := by
    have h : (mixed c % 4).toNat = 0 ∨ (mixed c % 4).toNat = 1 ∨ (mixed c % 4).toNat = 2 ∨ (mixed c % 4).toNat = 3 := by omega
    rcases h with h | h | h | h <;> rw [h]
    · exact ⟨1, rfl, by decide, by decide⟩
    · exact ⟨2, rfl, by decide, by decide⟩
    · exact ⟨1 + c / 56 % 4, rfl, by omega, by omega⟩
    · exact ⟨1 + c / 56 % 200, rfl, by omega, by omega⟩
  refine ⟨_, rfl, _, rfl, _, _, rfl, rfl, (by show (0 : Int) < 4; decide), p2, _, _, _, rfl, rfl, SqL.of g2, at_ints_mod (ns := [1, 2, 1 + c / 56 % 4, 1 + c / 56 % 200]) (mixed c) (by decide) rfl, ?_⟩
  rw [hwd]
  have s2 := t1.trans t2
  obtain ⟨cs, ecs, hcl⟩ := cutV_int ns (some 3) none
  refine ⟨_, rfl, _, rfl, a, _, rfl, s2.seq hS, fun pc nc => ?_⟩
  rw [ecs]
  refine ⟨pc, cs, rfl, SqL.of upd_same, by omega, fun H3 pt us ts t3' gt hT htl hall => ?_⟩
  have s3 := s2.trans ((Same.new nc).trans t3')
  have hul := hT.1
  refine ⟨_, rfl, pt, rfl, ⟨_, SqL.of gt⟩, fun pl npl => lc_fi (fun i => ((linesOf wd ts)[i]?).bind fun x => some (V.int x)) npl (SqL.of gt) (small1000 (by omega)) (fun i x H' ex s k1 k0 k h0' => ?_) (fun H4 t4 gl => ?_)⟩
  · have hi : i < ts.length := by
      obtain ⟨hi, _⟩ := List.getElem?_eq_some_iff.mp ex
      omega
    obtain ⟨q1, e1, e2⟩ := hT.2 i _ (List.getElem?_eq_getElem hi)
    rw [ex] at e1
    cases e1
    refine ⟨rfl, _, rfl, q1, _, _, _, rfl, rfl, SqT.of (s _ _ e2), at_in (by decide) rfl, _, rfl, _, _, rfl, rfl, ⟨w0, w1⟩, ?_⟩
    exact k _ _ (by unfold linesOf; rw [List.getElem?_map, List.getElem?_eq_getElem hi]; rfl) (Same.refl _)
  have hll : (linesOf wd ts).length = ts.length := by unfold linesOf; rw [List.length_map]
  rw [range_ints _ _ (by rw [hll]; exact hT.1)] at gl
  have gt4 := t4 _ _ gt
  have hT4 := hT.same t4
  have s4 := s3.trans t4
  refine ⟨_, rfl, _, rfl, a, _, rfl, s4.seq hS, fun pc2 nc2 => ?_⟩
  rw [ecs]
  have t5 : Same H4 (upd H4 pc2 (.lst (cs.map V.int))) := Same.new nc2
  have g5 : upd H4 pc2 (.lst (cs.map V.int)) pc2 = some (.lst (cs.map V.int)) := upd_same
  generalize upd H4 pc2 (.lst (cs.map V.int)) = H5 at t5 g5
  refine ⟨_, rfl, _, rfl, pc2, pl, cs, linesOf wd ts, room, rfl, SqL.of g5, SqL.of (t5 _ _ gl), by omega, by omega, r0, fun H6 pp gs t6 npp gp hgl => ?_⟩
  have t46 := t5.trans t6
  have gt6' := t5 _ _ gt4
  have gl6' := t5 _ _ gl
  have npp' := npp
  have gt6 := t46 _ _ gt4
  have hT6 := hT4.same t46
  have gl6 := t46 _ _ gl
  have s6 := s4.trans t46
  have hrw : ∀ t ∈ ts, RW t := fun t ht => (hall t ht).1
  refine ⟨_, rfl, a, ns, 1, rfl, s6.seq hS, by decide, ?_⟩
  generalize cellAt ns 1 = how
  have keep : ∀ v8, (fun σ H' => ∃ (c room wd how : Int) (pt pl pp : Addr) (us : List V) (ts : List (Str × Int)) (gs : List (Option Int)) (v8 : Option V), σ = [some (.ref a), some (.int c), some (.int room), some (.int wd), some (.ref pt), some (.ref pl), some (.ref pp), some (.int how), v8, none, none, none, none, none, none] ∧ H' pt = some (.lst us) ∧ TsAt H' us ts ∧ H' pl = some (.lst ((linesOf wd ts).map V.int)) ∧ H' pp = some (.lst (gs.map oiV)) ∧ gs.length ≤ 64 ∧ 0 < room ∧ 0 < wd ∧ wd < 1073741824 ∧ ts.length ≤ 63 ∧ ∀ t ∈ ts, RW t)
      [some (.ref a), some (.int c), some (.int room), some (.int wd), some (.ref pt), some (.ref pl), some (.ref pp), some (.int how), v8, none, none, none, none, none, none] H6 := fun v8 => ⟨c, room, wd, how, pt, pl, pp, us, ts, gs, v8, rfl, gt6, hT6, gl6, gp, by omega, r0, w0, w1, by omega, hrw⟩
  refine ⟨_, rfl, _, _, rfl, rfl, (by show (0 : Int) < 2; decide), rfl, ?_⟩
  by_cases hodd : how % 2 = 1
  case neg =>
    refine ⟨false, bl_of (decide_eq_false fun z => hodd (V.int.inj z)), ?_⟩
    refine ⟨_, rfl, _, _, rfl, rfl, (by show (0 : Int) < 2; decide), rfl, false, bl_of (decide_eq_false fun z => hodd (V.int.inj z)), ?_⟩
    refine ⟨_, rfl, _, _, rfl, rfl, (by show (0 : Int) < 2; decide), rfl, false, bl_of (decide_eq_false fun z => hodd (V.int.inj z)), ?_⟩
    exact ⟨rfl, keep _⟩
  refine ⟨true, bl_of (decide_eq_true (congrArg V.int hodd)), ?_⟩
  refine ⟨_, rfl, _, _, rfl, rfl, ⟨by decide, by decide⟩, _, _, rfl, rfl, (by show (0 : Int) < 6; decide), rfl, ?_⟩
  by_cases h0 : how / 2 % 6 = 0
  · refine ⟨true, bl_of (decide_eq_true (congrArg V.int h0)), ?_⟩
    refine ⟨_, rfl, _, rfl, _, rfl, pp, _, rfl, SqL.of gp, fun p7 n7 => ?_⟩
    have t7 := Same.new (o := .lst (cutV (gs.map oiV) none (some (-1)))) n7
    refine ⟨rfl, c, room, wd, how, pt, pl, p7, us, ts, ((gs.drop (HT.sIx (gs.map oiV).length 0 none)).take (HT.sIx (gs.map oiV).length (gs.map oiV).length (some (-1)) - HT.sIx (gs.map oiV).length 0 none)), none, rfl, t7 _ _ gt6, hT6.same t7, t7 _ _ gl6, ?_, ?_, r0, w0, w1, by omega, hrw⟩
    · rw [List.map_take, List.map_drop]
      exact upd_same
    · rw [List.length_take, List.length_drop]
      omega
  refine ⟨false, bl_of (decide_eq_false fun z => h0 (V.int.inj z)), ?_⟩
  refine ⟨_, rfl, _, _, rfl, rfl, (by show (0 : Int) < 2; decide), rfl, true, bl_of (decide_eq_true (congrArg V.int hodd)), ?_⟩
  refine ⟨_, rfl, _, _, rfl, rfl, ⟨by decide, by decide⟩, _, _, rfl, rfl, (by show (0 : Int) < 6; decide), rfl, ?_⟩
  by_cases h1 : how / 2 % 6 = 1
  · refine ⟨true, bl_of (decide_eq_true (congrArg V.int h1)), ?_⟩
    refine ⟨_, rfl, sz_ok rfl, fun p7 n7 => ?_⟩
    have t7 : Same H6 (upd H6 p7 (.lst [V.non])) := Same.new n7
    refine ⟨pp, p7, _, _, rfl, rfl, t7 _ _ gp, upd_same, Nat.le_trans (by rw [List.length_map]; show _ + 1 ≤ 1000; omega) (by decide), fun p8 n8 => ?_⟩
    have t8 := t7.trans (Same.new (o := .lst (gs.map oiV ++ [V.non])) n8)
    refine ⟨rfl, c, room, wd, how, pt, pl, p8, us, ts, gs ++ [none], none, rfl, t8 _ _ gt6, hT6.same t8, t8 _ _ gl6, ?_, ?_, r0, w0, w1, by omega, hrw⟩
    · rw [List.map_append]
      exact upd_same
    · rw [List.length_append, List.length_singleton]
      omega
  refine ⟨false, bl_of (decide_eq_false fun z => h1 (V.int.inj z)), ?_⟩
  refine ⟨_, rfl, _, _, rfl, rfl, (by show (0 : Int) < 2; decide), rfl, true, bl_of (decide_eq_true (congrArg V.int hodd)), ?_⟩
  refine ⟨_, rfl, pp, _, rfl, .inl (SqL.of gp), _, _, rfl, rfl, ?_⟩
  rw [List.length_map]
  by_cases hpos : ((gs.length : Nat) : Int) > 0
  case neg => exact ⟨false, bl_of (decide_eq_false hpos), rfl, keep _⟩
  refine ⟨true, bl_of (decide_eq_true hpos), ?_⟩
  refine ⟨_, rfl, a, ns, 2, rfl, s6.seq hS, by decide, _, rfl, pp, _, rfl, .inl (SqL.of gp), _, _, rfl, rfl, ?_⟩
  rw [List.length_map]
  refine ⟨by omega, ?_⟩
  have at0 := mod_nn (cellAt ns 2) (n := ((gs.length : Nat) : Int)) (by omega)
  have at1 := mod_lt (cellAt ns 2) (n := ((gs.length : Nat) : Int)) (by omega)
  obtain ⟨k, hk⟩ : ∃ k : Nat, cellAt ns 2 % ((gs.length : Nat) : Int) = (k : Nat) := ⟨(cellAt ns 2 % ((gs.length : Nat) : Int)).toNat, (Int.toNat_of_nonneg at0).symm⟩
  rw [hk] at at1
  have lat : ∀ j : Nat, j < ts.length → ∃ l, atI ((linesOf wd ts).map V.int) (j : Nat) = some (.int l) := fun j hj => ⟨_, at_map V.int (List.getElem?_eq_getElem (by omega))⟩
  obtain ⟨la, hla⟩ := lat k (by omega)
  obtain ⟨lb, hlb⟩ := lat 0 (by omega)
  obtain ⟨lc, hlc⟩ := lat (k / 2) (by omega)
  have ek2 : ((k : Nat) : Int) / 2 = ((k / 2 : Nat) : Int) := by omega
  refine ⟨_, rfl, _, rfl, pl, _, _, _, rfl, rfl, SqL.of gl6, by rw [hk]; exact hla, ?_⟩
  refine ⟨_, rfl, pl, _, _, _, rfl, rfl, SqL.of gl6, hlb, _, _, rfl, rfl, ?_⟩
  refine ⟨_, rfl, _, rfl, _, _, rfl, rfl, ⟨by decide, by decide⟩, pl, _, _, _, rfl, rfl, SqL.of gl6, by rw [hk, ek2]; exact hlc, sz_ok rfl, fun p7 n7 => ?_⟩
  generalize e7 : upd H6 p7 _ = H7
  have t7 : Same H6 H7 := e7 ▸ Same.new n7
  have g7 : H7 p7 = some (.lst (([none, some la, some lb, some (-1), some lc, none] : List (Option Int)).map oiV)) := e7 ▸ upd_same
  clear e7
  refine ⟨_, rfl, _, _, rfl, rfl, ⟨by decide, by decide⟩, _, _, rfl, rfl, (by show (0 : Int) < 6; decide), p7, _, _, _, rfl, rfl, SqL.of g7, at_mapmod oiV none (ns := [none, some la, some lb, some (-1), some lc, none]) (how / 12) (by decide) rfl, ?_⟩
  generalize ([none, some la, some lb, some (-1), some lc, none] : List (Option Int)).getD (how / 12 % 6).toNat none = gg
  have gp7 := t7 _ _ gp
  have gt7 := t7 _ _ gt6
  have gl7 := t7 _ _ gl6
  have hT7 := hT6.same t7
  have npp6 : ∀ x o, H6 x = some o → x ≠ pp → upd H7 pp (.lst ((gs.map oiV).set k (oiV gg))) x = some o := fun x o e n => by
    rw [upd_ne n]
    exact t7 _ _ e
  have n1 : pt ≠ pp := ne_of_none gt6' npp'
  have n2 : pl ≠ pp := ne_of_none gl6' npp'
  refine ⟨_, rfl, _, rfl, pp, _, _, k, rfl, rfl, gp7, ?_, ?_⟩
  · unfold ixN
    rw [List.length_map, hk, if_pos (by omega), if_pos (by omega)]
    rfl
  refine ⟨rfl, c, room, wd, how, pt, pl, pp, us, ts, gs.set k gg, _, rfl, npp6 _ _ gt6 n1, hT7.mut gp7 fun q o e n => (upd_ne n).trans e, npp6 _ _ gl6 n2, ?_, by rw [List.length_set]; omega, r0, w0, w1, by omega, hrw⟩
  rw [List.map_set]
  exact upd_same

-- SPLIT
theorem k13_all {C4 C0 C1 C2 C3 cL : Addr} (T : Top K mg)
    (D_line_of : DefAt K "line_of" s_line_of)
    (D_lines_of : DefAt K "lines_of" s_lines_of)
    (D_is_any_whole : DefAt K "is_any_whole" s_is_any_whole)
    (D_one_must_go : DefAt K "_one_must_go" s__one_must_go)
    (D_check_step : DefAt K "_check_step" s__check_step)
    (D_walked : DefAt K "walked" s_walked)
    (D_law_cell_at : DefAt K "_law_cell_at" s__law_cell_at)
    (D_law_mixed : DefAt K "_law_mixed" s__law_mixed)
    (D_law_whole : DefAt K "_law_whole" s__law_whole)
    (D_law_touches_by : DefAt K "_law_touches_by" s__law_touches_by)
    (D_law_plan_by : DefAt K "_law_plan_by" s__law_plan_by)
    (D_law_missed : DefAt K "_law_missed" s__law_missed)
    (D_law_alone : DefAt K "_law_alone" s__law_alone)
    (D_law : DefAt K "law" s_law)
    (m_len : PySem.W.nsIn K mainGlobals "len" = some none)
    (m_range : PySem.W.nsIn K mainGlobals "range" = some none)
    (m_isinstance : PySem.W.nsIn K mainGlobals "isinstance" = some none)
    (m_int : PySem.W.nsIn K mainGlobals "int" = some none)
    (m_list : PySem.W.nsIn K mainGlobals "list" = some none)
    (m_bool : PySem.W.nsIn K mainGlobals "bool" = some none)
    (m_zip : PySem.W.nsIn K mainGlobals "zip" = some none)
    (m_ValueError : PySem.W.nsIn K mainGlobals "ValueError" = some none)
    (gB_BadPlan : PySem.W.nsIn K mainGlobals "BadPlan" = some (some (.ref C4)))
    (xB_BadPlan : PySem.W.excIn K C4 [.type "ValueError", .type "Exception", .type "BaseException", .type "object"] "ValueError.__new__" = true)
    (kB_BadPlan : PySem.W.keepIn K (.ref C4) = true)
    (bB_BadPlan : PySem.W.subIn K (.ref C4) (.type "BaseException") = some true)
    (tB_BadPlan : PySem.W.typeIn K (.ref C4) = some (.type "type"))
    (gB_BadRow : PySem.W.nsIn K mainGlobals "BadRow" = some (some (.ref C0)))
    (gB_BadBoxes : PySem.W.nsIn K mainGlobals "BadBoxes" = some (some (.ref C1)))
    (gB_BadShape : PySem.W.nsIn K mainGlobals "BadShape" = some (some (.ref C2)))
    (gB_NoBox : PySem.W.nsIn K mainGlobals "NoBox" = some (some (.ref C3)))
    (gB_LineError : PySem.W.nsIn K mainGlobals "LineError" = some (some (.ref cL)))
    (sB_C4 : PySem.W.subIn K (.ref C4) (.ref C4) = some true)
    (ex_C4 : ExcC K C4)
    (h_C4_C0 : PySem.W.kitOne K (.ref C4) (.ref C0) = some false)
    (h_C4_C1 : PySem.W.kitOne K (.ref C4) (.ref C1) = some false)
    (h_C4_C2 : PySem.W.kitOne K (.ref C4) (.ref C2) = some false)
    (h_C4_C3 : PySem.W.kitOne K (.ref C4) (.ref C3) = some false)
    (h_C4_C4 : PySem.W.kitOne K (.ref C4) (.ref C4) = some true)
    (h_C4_cL : PySem.W.kitOne K (.ref C4) (.ref cL) = some true)
    (h_C4_V : PySem.W.kitOne K (.ref C4) (.type "ValueError") = some true) : LawOk P w K mg 4 := by
  have X : Txt K w mg := ⟨T, T.none m_len, T.none m_range, T.none m_isinstance, T.none m_int, T.none m_list, T.none m_bool, T.none m_zip⟩
  have hA : AloneAt K [C0, C1, C2, C3, C4] cL C4 4 := alone5 ex_C4 h_C4_C0 h_C4_C1 h_C4_C2 h_C4_C3 h_C4_C4 h_C4_cL h_C4_V
  have xB : ExcT K mg "BadPlan" C4 := ⟨T.of gB_BadPlan, xB_BadPlan, kB_BadPlan, bB_BadPlan, tB_BadPlan⟩
  have c1 := fun base => c_cell_at (P := P) (base := base) X D_law_cell_at
  have c2 := fun base => c_mixed (P := P) (base := base) X D_law_mixed
  have c3 := fun base => c_touches_by (P := P) (base := base) X D_law_touches_by (c2 base)
  have c4 := fun base => c_line_of (P := P) (base := base) X D_line_of
  have c5 := fun base => c_lines_of (P := P) (base := base) X D_lines_of (c4 base)
  have c6 := fun base => c_any_whole (P := P) (base := base) X D_is_any_whole
  have c7 := fun base => c_one_must_go (P := P) (base := base) X D_one_must_go
  have c8 := fun base => c_check_step (P := P) (base := base) X xB D_check_step (c7 base) (c6 base)
  have c9 := fun base => c_walked (P := P) (base := base) X xB D_walked (c5 base) (c8 base)
  have c10 := fun base => c_plan_by (P := P) (base := base) X D_law_plan_by (c2 base)
  have c11 := fun base => c_law_missed (P := P) (base := base) X D_law_missed
  have c12 := fun base => c_whole (P := P) (base := base) X D_law_whole
  have c13 := fun base => c_alone (P := P) (base := base) (cs := [C0, C1, C2, C3, C4]) rfl X D_law_alone (T.of gB_BadRow) (T.of gB_BadBoxes) (T.of gB_BadShape) (T.of gB_NoBox) (T.of gB_BadPlan) (T.of gB_LineError) (T.none m_ValueError)
  exact ok_law X D_law xB (PySem.W.exm_ref bB_BadPlan ex_C4.hd tB_BadPlan sB_C4) hA c1 c2 c3 c10 c11 c12 c9 c13
end
end Nl
open PySem PySem.W PyProof.Rows in
set_option maxRecDepth 100000 in
set_option maxHeartbeats 0 in
theorem PySem.Challenge.cw_nearlines_k13_plans_walked_holds : PySem.Challenge.rw_nearlines_k13_plans_walked.Holds := by
  w_on; o_law; k_head; (case hw => w_witness2)
  k_fill
  refine Nl.walk_end (l := PySem.Challenge.rw_nearlines_k13_plans_walked) 4 rfl rfl ⟨rfl, by decide, by decide⟩ rfl (fun w h Y => PySem.W.kIn_of Y) fun w mg T => ?F
  case F =>
    refine' Nl.k13_all T ?D_line_of ?D_lines_of ?D_is_any_whole ?D_one_must_go ?D_check_step ?D_walked ?D_law_cell_at ?D_law_mixed ?D_law_whole ?D_law_touches_by ?D_law_plan_by ?D_law_missed ?D_law_alone ?D_law ?m_len ?m_range ?m_isinstance ?m_int ?m_list ?m_bool ?m_zip ?m_ValueError ?gB_BadPlan ?xB_BadPlan ?kB_BadPlan ?bB_BadPlan ?tB_BadPlan ?gB_BadRow ?gB_BadBoxes ?gB_BadShape ?gB_NoBox ?gB_LineError ?sB_C4 ?ex_C4 ?h_C4_C0 ?h_C4_C1 ?h_C4_C2 ?h_C4_C3 ?h_C4_C4 ?h_C4_cL ?h_C4_V
    (case D_line_of => (refine' Nl.def_mk ?a ?l ?c ?k; (case a => k_is); (case l => k_is); (case c => k_is); (case k => k_is)))
    (case D_lines_of => (refine' Nl.def_mk ?a ?l ?c ?k; (case a => k_is); (case l => k_is); (case c => k_is); (case k => k_is)))
    (case D_is_any_whole => (refine' Nl.def_mk ?a ?l ?c ?k; (case a => k_is); (case l => k_is); (case c => k_is); (case k => k_is)))
    (case D_one_must_go => (refine' Nl.def_mk ?a ?l ?c ?k; (case a => k_is); (case l => k_is); (case c => k_is); (case k => k_is)))
    (case D_check_step => (refine' Nl.def_mk ?a ?l ?c ?k; (case a => k_is); (case l => k_is); (case c => k_is); (case k => k_is)))
    (case D_walked => (refine' Nl.def_mk ?a ?l ?c ?k; (case a => k_is); (case l => k_is); (case c => k_is); (case k => k_is)))
    (case D_law_cell_at => (refine' Nl.def_mk ?a ?l ?c ?k; (case a => k_is); (case l => k_is); (case c => k_is); (case k => k_is)))
    (case D_law_mixed => (refine' Nl.def_mk ?a ?l ?c ?k; (case a => k_is); (case l => k_is); (case c => k_is); (case k => k_is)))
    (case D_law_whole => (refine' Nl.def_mk ?a ?l ?c ?k; (case a => k_is); (case l => k_is); (case c => k_is); (case k => k_is)))
    (case D_law_touches_by => (refine' Nl.def_mk ?a ?l ?c ?k; (case a => k_is); (case l => k_is); (case c => k_is); (case k => k_is)))
    (case D_law_plan_by => (refine' Nl.def_mk ?a ?l ?c ?k; (case a => k_is); (case l => k_is); (case c => k_is); (case k => k_is)))
    (case D_law_missed => (refine' Nl.def_mk ?a ?l ?c ?k; (case a => k_is); (case l => k_is); (case c => k_is); (case k => k_is)))
    (case D_law_alone => (refine' Nl.def_mk ?a ?l ?c ?k; (case a => k_is); (case l => k_is); (case c => k_is); (case k => k_is)))
    (case D_law => (refine' Nl.def_mk ?a ?l ?c ?k; (case a => k_is); (case l => k_is); (case c => k_is); (case k => k_is)))
    (case m_len => k_is)
    (case m_range => k_is)
    (case m_isinstance => k_is)
    (case m_int => k_is)
    (case m_list => k_is)
    (case m_bool => k_is)
    (case m_zip => k_is)
    (case m_ValueError => k_is)
    (case gB_BadPlan => k_is)
    (case xB_BadPlan => k_exc)
    (case kB_BadPlan => k_is)
    (case bB_BadPlan => k_is)
    (case tB_BadPlan => k_is)
    (case gB_BadRow => k_is)
    (case gB_BadBoxes => k_is)
    (case gB_BadShape => k_is)
    (case gB_NoBox => k_is)
    (case gB_LineError => k_is)
    (case sB_C4 => k_is)
    (case ex_C4 => (refine' Nl.excC_mk ?hg ?hk ?hs ?hd ?ha ?hn ?ht ?hm; (case hg => k_is); (case hk => k_is); (case hs => k_is); (case hd => k_is); (case ha => k_is); (case hn => k_is); (case ht => k_is); (case hm => k_is)))
    (case h_C4_C0 => kit_is)
    (case h_C4_C1 => kit_is)
    (case h_C4_C2 => kit_is)
    (case h_C4_C3 => kit_is)
    (case h_C4_C4 => kit_is)
    (case h_C4_cL => kit_is)
    (case h_C4_V => kit_is)

