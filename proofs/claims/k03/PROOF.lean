import PyProof.Rows.All
import Wide.All
import OpenK.AllK
import Wide.FinOn
import HandS.ForMost
import HandS.Codes
import HandS.Exc
import HandS.ExcOwn
import HandS.TryOnly
import HandS.WordsExc
import HandS.IsInst
import HandS.RaiseMore
import HandS.Small
import HandS.FStr
import HandS.Star
import HandS.TupAny
import HandS.Deep
import HandS.Zip
import HandS.Conv
import HandS.HotCalls
import HandS.StrMore
import HandS.Flow
import KE.KUnpackStar
import HandS.ExcIs
import HandS.SetFor
import HandS.Replace
import PyProof.RulesMatch
import PyProof.RulesMatchSeq
import PyProof.Rows.MatchSeqLen
import PySem.Challenge.RW_nearlines_k03_rows_that_fit
set_option Elab.async false
set_option linter.all false
set_option maxRecDepth 100000
/-! the layer of our own over the hand layer -/
namespace Nl
open PySem PySem.Spec PyProof.Rows L2

/-! ### a def of the top, as it stands -/
def DefAt (K : PySem.W.Frag) (x : Str) (st : Stmt) : Prop :=
  ∃ (f : Addr) (oc : Value) (od an : Option Addr) (osl : Array (Option Value)) (kV doc pm cdv ct : Value),
    PySem.W.nsIn K mainGlobals x = some (some (.ref f)) ∧
    K.lookup f = some ⟨oc, od, .func (PySem.W.fnOf x x (defArgs st) (defBody st) (defScope st) .none kV doc pm an cdv ct), osl⟩ ∧
    PySem.W.codeIn K cdv x = true ∧ PySem.W.keepIn K (.ref f) = true
theorem def_mk {K : PySem.W.Frag} {x : Str} {st : Stmt} {f : Addr} {oc : Value} {od an : Option Addr} {osl : Array (Option Value)} {kV doc pm cdv ct : Value} (a : PySem.W.nsIn K mainGlobals x = some (some (.ref f)))
    (l : K.lookup f = some ⟨oc, od, .func (PySem.W.fnOf x x (defArgs st) (defBody st) (defScope st) .none kV doc pm an cdv ct), osl⟩) (c : PySem.W.codeIn K cdv x = true) (k : PySem.W.keepIn K (.ref f) = true) : DefAt K x st :=
  ⟨f, oc, od, an, osl, kV, doc, pm, cdv, ct, a, l, c, k⟩
/-- the module's names, as the top leaves them -/
structure Top (K : PySem.W.Frag) (mg : Str → Option Value) : Prop where
  ex : ∃ (h : Heap), K.In h ∧ h.Ns mainGlobals mg
theorem Top.of {K : PySem.W.Frag} {mg : Str → Option Value} (T : Top K mg) {x : Str} {v : Value} (a : PySem.W.nsIn K mainGlobals x = some (some v)) : mg x = some v := by
  obtain ⟨h, X, G⟩ := T.ex
  exact PySem.W.mg_of X G a
theorem Top.none {K : PySem.W.Frag} {mg : Str → Option Value} (T : Top K mg) {x : Str} (a : PySem.W.nsIn K mainGlobals x = some Option.none) : mg x = Option.none := by
  obtain ⟨h, X, G⟩ := T.ex
  exact PySem.W.mg_none_of X G a

section
variable {P : Program} {w : World} {K : PySem.W.Frag} {mg : Str → Option Value} {base : Heap}
abbrev BindOk (x : Str) (st : Stmt) (ps : List Str) : Prop := ∀ (kV doc pm : Value) (an : Option Addr) (cdv ct : Value) (us : List Value), us.length = ps.length →
  bindArgs (PySem.W.fnOf x x (defArgs st) (defBody st) (defScope st) .none kV doc pm an cdv ct) ⟨us, []⟩ = pure (ps.zip us)
/-- a def called by its name keeps sp -/
structure Cal (P : Program) (w : World) (K : PySem.W.Frag) (mg : Str → Option Value) (base : Heap) (CX : CXT) (k : Nat) (x : Str) (sp : Sp) : Prop where
  ex : ∃ (f : Addr) (fd : FuncData) (ps : List Str), FnOk P w K mg base CX k f fd ps sp ∧ mg x = some (.ref f) ∧ PySem.W.keepIn K (.ref f) = true ∧ Binds K fd ps []
theorem Cal.mono {CX : CXT} {j k : Nat} {x : Str} {sp : Sp} (c : Cal P w K mg base CX j x sp) (h : j ≤ k) : Cal P w K mg base CX k x sp := by
  obtain ⟨f, fd, ps, F, r⟩ := c.ex
  exact ⟨f, fd, ps, F.mono h, r⟩
/-- a def that lets no error out -/
theorem cal_of {x : Str} {st : Stmt} {N ps : List Str} {k : Nat} {sp : Sp} (T : Top K mg) (D : DefAt K x st) (S : FnScope N ps (defScope st)) (b : BindOk x st ps) (len : ∀ vs H Q E, sp vs H Q E → vs.length = ps.length)
    (hbody : ∀ (f : Addr) (cdv : Value) (A : Around) (outer : List Env) (s : Shared) (H : Hp) (vs : List V) (Q : VK) (E : XK), Room k (A.deeper (envOfC x (defScope st) s.heap.objs.size f cdv)) → sp vs H Q E →
      ∃ t, PSs (cxOf CX0 P w K mg base N x (defScope st) f cdv A outer s H E).nox (defBody st) t ∧ t { nx := fun _ H' => Q .non H', rt := Q } (start N vs) H) : Cal P w K mg base CX0 (k + 1) x sp := by
  obtain ⟨f, oc, od, an, osl, kV, doc, pm, cdv, ct, a, l, c, kp⟩ := D
  have F := fun_mk (st := st) l c kp
  exact ⟨f, _, ps, F.ok S len (fun cdv A outer s H vs Q E hr h => hbody f cdv A outer s H vs Q E hr h), T.of a, kp, F.binds b⟩
/-- .. that may raise -/
theorem cal_ofX {x : Str} {st : Stmt} {N ps : List Str} {k : Nat} {sp : Sp} (T : Top K mg) (D : DefAt K x st) (S : FnScope N ps (defScope st)) (b : BindOk x st ps) (len : ∀ vs H Q E, sp vs H Q E → vs.length = ps.length)
    (hbody : ∀ (f : Addr) (cdv : Value) (A : Around) (outer : List Env) (s : Shared) (H : Hp) (vs : List V) (Q : VK) (E : XK), Room k (A.deeper (envOfC x (defScope st) s.heap.objs.size f cdv)) → sp vs H Q E →
      ∃ t, PSs (cxOf (L2.CX P w) P w K mg base N x (defScope st) f cdv A outer s H E) (defBody st) t ∧ t { nx := fun _ H' => Q .non H', rt := Q } (start N vs) H) : Cal P w K mg base (L2.CX P w) (k + 1) x sp := by
  obtain ⟨f, oc, od, an, osl, kV, doc, pm, cdv, ct, a, l, c, kp⟩ := D
  have F := fun_mk (st := st) l c kp
  exact ⟨f, _, ps, F.okX S len (fun cdv A outer s H vs Q E hr h => hbody f cdv A outer s H vs Q E hr h), T.of a, kp, F.binds b⟩
end
section
variable {X : Cx} {k j : Nat} {x : Str} {sp : Sp} {p pos : Pos} {e : Expr} {es : List Expr} {t : TA}
/-- f(..), f lets no error out -/
theorem pe_c (c : Cal X.prog X.w X.K X.mg X.base CX0 k x sp) (hr : Room j X.A) (hk : k ≤ j) (hg : Gl X x) (ha : PA X (e :: es) t)
    (hdb : (x == ("__debug__" : Str)) = false := by decide) (he : starEach (e :: es) X.env = (false, eval e X.env) :: starEach es X.env := by rfl) (hpl : (backTo pos (starEach es X.env)).any (·.1) = false := by rfl) :
    PE X (.Call (.Name x p) (e :: es) [] pos) (tCall sp [] E0 t) := by
  obtain ⟨f, fd, ps, F, hm, kp, b⟩ := c.ex
  exact pe_call F (hr.mono hk) hg hm kp b .nil pass0 ha hdb he hpl
/-- f(..), f may raise: what is raised is wished for by W -/
theorem pe_cx {W : WX} (c : Cal X.prog X.w X.K X.mg X.base (L2.CX X.prog X.w) k x sp) (tk : Takes X W) (hr : Room j X.A) (hk : k ≤ j) (hg : Gl X x) (ha : PA X (e :: es) t)
    (hdb : (x == ("__debug__" : Str)) = false := by decide) (he : starEach (e :: es) X.env = (false, eval e X.env) :: starEach es X.env := by rfl) (hpl : (backTo pos (starEach es X.env)).any (·.1) = false := by rfl) :
    PE X (.Call (.Name x p) (e :: es) [] pos) (tCallS sp (WE W) t) := by
  obtain ⟨f, fd, ps, F, hm, kp, b⟩ := c.ex
  exact pe_callS F (hr.mono hk) hg hm kp b (fun σ => passAt tk σ) ha hdb he hpl
/-- .. where it does not raise -/
theorem pe_c0 (c : Cal X.prog X.w X.K X.mg X.base (L2.CX X.prog X.w) k x sp) (hr : Room j X.A) (hk : k ≤ j) (hg : Gl X x) (ha : PA X (e :: es) t)
    (hdb : (x == ("__debug__" : Str)) = false := by decide) (he : starEach (e :: es) X.env = (false, eval e X.env) :: starEach es X.env := by rfl) (hpl : (backTo pos (starEach es X.env)).any (·.1) = false := by rfl) :
    PE X (.Call (.Name x p) (e :: es) [] pos) (tCall sp [] E0 t) := by
  obtain ⟨f, fd, ps, F, hm, kp, b⟩ := c.ex
  exact pe_call F (hr.mono hk) hg hm kp b .nil passL ha hdb he hpl
end

/-! ### places -/
theorem at_in {α : Type} {xs : List α} {i : Int} {v : α} (h0 : 0 ≤ i) (h : xs[i.toNat]? = some v) : atI xs i = some v := by
  have e : i = ((i.toNat : Nat) : Int) := (Int.toNat_of_nonneg h0).symm
  rw [e]
  exact atI_nat (by simpa using h)
theorem at_getD {α : Type} {xs : List α} {i : Int} {d : α} (h0 : 0 ≤ i) (h : i < xs.length) : atI xs i = some (xs.getD i.toNat d) := by
  refine at_in h0 ?_
  have : i.toNat < xs.length := by omega
  rw [List.getD_eq_getElem?_getD, List.getElem?_eq_getElem this]; rfl
theorem at_ints {ns : List Int} {i : Int} (h0 : 0 ≤ i) (h : i < ns.length) : atI (ns.map V.int) i = some (.int (ns.getD i.toNat 0)) := by
  refine at_in h0 ?_
  have : i.toNat < ns.length := by omega
  rw [List.getElem?_map, List.getD_eq_getElem?_getD, List.getElem?_eq_getElem this]; rfl
theorem at_strs {ns : List Str} {i : Int} (h0 : 0 ≤ i) (h : i < ns.length) : atI (ns.map V.str) i = some (.str (ns.getD i.toNat Str.empty)) := by
  refine at_in h0 ?_
  have : i.toNat < ns.length := by omega
  rw [List.getElem?_map, List.getD_eq_getElem?_getD, List.getElem?_eq_getElem this]; rfl
theorem mod_nn (c : Int) {n : Int} (h : 0 < n) : 0 ≤ c % n := Int.emod_nonneg c (by omega)
theorem mod_lt (c : Int) {n : Int} (h : 0 < n) : c % n < n := Int.emod_lt_of_pos c h
theorem at_ints_mod {ns : List Int} (c : Int) {n : Int} (h : 0 < n) (e : (ns.length : Int) = n) : atI (ns.map V.int) (c % n) = some (.int (ns.getD (c % n).toNat 0)) :=
  at_ints (mod_nn c h) (by rw [e]; exact mod_lt c h)
theorem at_strs_mod {ns : List Str} (c : Int) {n : Int} (h : 0 < n) (e : (ns.length : Int) = n) : atI (ns.map V.str) (c % n) = some (.str (ns.getD (c % n).toNat Str.empty)) :=
  at_strs (mod_nn c h) (by rw [e]; exact mod_lt c h)
theorem _root_.L2.Same.sqt {K : PySem.W.Frag} {H H' : Hp} {a : Addr} {xs : List V} (e : Same H H') (h : SqT K H a xs) : SqT K H' a xs := by
  rcases h with (h | ⟨o, h⟩) | h
  · exact .inl (.inl (e _ _ h))
  · exact .inl (.inr ⟨o, e _ _ h⟩)
  · exact .inr h
theorem _root_.L2.Same.new {H : Hp} {p : Addr} {o : HO} (h : H p = none) : Same H (upd H p o) := fun a u e => by
  rw [upd_ne (ne_of_none e h)]
  exact e
theorem _root_.L2.Same.more {H0 H : Hp} {p : Addr} {o : HO} (s : Same H0 H) (h : H p = none) : Same H0 (upd H p o) := s.trans (Same.new h)
/-- an object that H0 does not know changes -/
theorem _root_.L2.Same.mut {H0 H : Hp} {p : Addr} {o : HO} (s : Same H0 H) (h : H0 p = none) : Same H0 (upd H p o) := fun a u e => by
  rw [upd_ne (ne_of_none e h)]
  exact s a u e
/-! ### comprehensions whose elements leave the tracked things as they are -/
/-- the new list keeps: at its address D what is made so far -/
theorem lc_gen {J : It} {g : TG} {tt : TT} {te : TE} {vs : List Nat} {σ : L2.St} {H1 : Hp} {D : Addr} {Qd : Hp → Prop} (n : Nat) (R : Nat → V → Hp → Prop) (fs : Nat → Option V) (hD : H1 D = none) (hz : n < sizeLine)
    (go : ∀ i H, i < n → Same H1 H → J.go i H) (stop : ∀ H, Same H1 H → J.stop n H) (yld : ∀ i H x H', i < n → Same H1 H → J.yld i H x H' → Same H H' ∧ R i x H')
    (hs : ∀ i x H, i < n → Same H1 H → R i x H → ∀ (k1 : VK) (k0 : Hp → Prop), (∀ v H', fs i = some v → Same H H' → k1 v H') → (∀ H', fs i = none → Same H H' → k0 H') →
      g x (wipe σ vs) H fun σ2 H2 => wipe σ2 vs = wipe σ vs ∧ tt σ2 H2 fun b H3 => if b = true then te σ2 H3 k1 else k0 H3)
    (hd : ∀ H, Same H1 H → H D = some (.lst ((List.range n).filterMap fs)) → Qd H) :
    ∃ W : Nat → Nat → Hp → Prop, (∃ m, W 0 m (upd H1 D (.lst []))) ∧ ∀ i m H, W i m H →
      (J.stop i H ∧ Qd H) ∨ (J.go i H ∧ ∃ Nx : Hp → Prop, (∀ H', Nx H' → ∃ m', m' < m ∧ W (i + 1) m' H') ∧ ∀ x H', J.yld i H x H' → g x (wipe σ vs) H' fun σ2 H2 => wipe σ2 vs = wipe σ vs ∧ tt σ2 H2 fun b H3 =>
        if b = true then te σ2 H3 fun y H4 => ∃ acc, H4 D = some (.lst acc) ∧ acc.length < sizeLine ∧ Nx (upd H4 D (.lst (acc ++ [y]))) else Nx H3) := by
  refine ⟨fun i m H => m = n - i ∧ i ≤ n ∧ Same H1 H ∧ H D = some (.lst ((List.range i).filterMap fs)), ⟨n, by simp, Nat.zero_le _, Same.new hD, upd_same⟩, ?_⟩
  rintro i m H ⟨rfl, hi, s1, h1⟩
  by_cases hlt : i < n
  · refine .inr ⟨go i H hlt s1, fun H' => Same H1 H' ∧ H' D = some (.lst ((List.range (i + 1)).filterMap fs)), fun H' p' => ⟨n - (i + 1), by omega, rfl, hlt, p'⟩, fun x H' y => ?_⟩
    obtain ⟨s2, r⟩ := yld i H x H' hlt s1 y
    refine hs i x H' hlt (s1.trans s2) r _ _ (fun v H'' e s3 => ?_) (fun H'' e s3 => ?_)
    · refine ⟨_, s3 _ _ (s2 _ _ h1), ?_, ((s1.trans s2).trans s3).mut hD, ?_⟩
      · exact Nat.lt_of_le_of_lt (Nat.le_trans (List.length_filterMap_le _ _) (by rw [List.length_range]; omega)) hz
      · rw [upd_same, List.range_succ, List.filterMap_append]
        simp [e]
    · refine ⟨(s1.trans s2).trans s3, ?_⟩
      rw [s3 _ _ (s2 _ _ h1), List.range_succ, List.filterMap_append]
      simp [e]
  · have e : i = n := by omega
    subst e
    exact .inl ⟨stop H s1, hd H s1 h1⟩
theorem range_fm {α β : Type} (xs : List α) (f : α → Option β) : (List.range xs.length).filterMap (fun i => (xs[i]?).bind f) = xs.filterMap f := by
  induction xs with
  | nil => rfl
  | cons x xs ih =>
    rw [List.length_cons, List.range_succ_eq_map, List.filterMap_cons, List.filterMap_map, List.filterMap_cons]
    have e : (List.range xs.length).filterMap ((fun i => ((x :: xs)[i]?).bind f) ∘ Nat.succ) = xs.filterMap f := by
      rw [← ih]
      rfl
    rw [e]
    rfl
section
variable {K : PySem.W.Frag} {g : TG} {tt : TT} {te : TE} {vs : List Nat} {σ : L2.St} {H1 : Hp} {D a : Addr} {Qd : Hp → Prop} {xs : List V}
abbrev LcW (J : It) (g : TG) (tt : TT) (te : TE) (vs : List Nat) (σ : L2.St) (H1 : Hp) (D : Addr) (Qd : Hp → Prop) : Prop :=
  ∃ W : Nat → Nat → Hp → Prop, (∃ m, W 0 m (upd H1 D (.lst []))) ∧ ∀ i m H, W i m H →
      (J.stop i H ∧ Qd H) ∨ (J.go i H ∧ ∃ Nx : Hp → Prop, (∀ H', Nx H' → ∃ m', m' < m ∧ W (i + 1) m' H') ∧ ∀ x H', J.yld i H x H' → g x (wipe σ vs) H' fun σ2 H2 => wipe σ2 vs = wipe σ vs ∧ tt σ2 H2 fun b H3 =>
        if b = true then te σ2 H3 fun y H4 => ∃ acc, H4 D = some (.lst acc) ∧ acc.length < sizeLine ∧ Nx (upd H4 D (.lst (acc ++ [y]))) else Nx H3)
abbrev LcTurn (g : TG) (tt : TT) (te : TE) (vs : List Nat) (σ : L2.St) (x : V) (H : Hp) (fx : Option V) : Prop := ∀ (k1 : VK) (k0 : Hp → Prop), (∀ v H', fx = some v → Same H H' → k1 v H') → (∀ H', fx = none → Same H H' → k0 H') →
      g x (wipe σ vs) H fun σ2 H2 => wipe σ2 vs = wipe σ vs ∧ tt σ2 H2 fun b H3 => if b = true then te σ2 H3 k1 else k0 H3
/-- over a list: [f x for x in xs if ..] -/
theorem lc_fl (f : V → Option V) (hD : H1 D = none) (hq : SqL K H1 a xs) (hz : xs.length < sizeLine) (hs : ∀ (i : Nat) x H, xs[i]? = some x → Same H1 H → LcTurn g tt te vs σ x H (f x))
    (hd : ∀ H, Same H1 H → H D = some (.lst (xs.filterMap f)) → Qd H) : LcW (Itl K a) g tt te vs σ H1 D Qd :=
  lc_gen xs.length (fun i x _ => xs[i]? = some x) (fun i => (xs[i]?).bind f) hD hz
    (fun i H hi s => ⟨xs, xs[i], s.seq hq, by simp [hi]⟩) (fun H s => ⟨xs, s.seq hq, Nat.le_refl _⟩) (fun i H x H' hi s y => by
      obtain ⟨e, y⟩ := y
      subst e
      exact ⟨Same.refl _, y xs (s.seq hq)⟩)
    (fun i x H hi s r k1 k0 h1 h0 => hs i x H r s k1 k0 (fun v H' e => h1 v H' (by rw [r]; exact e)) (fun H' e => h0 H' (by rw [r]; exact e))) (fun H s h => hd H s (by rw [h, range_fm]))
/-- over a tuple -/
theorem lc_ft (f : V → Option V) (hD : H1 D = none) (hq : SqT K H1 a xs) (hz : xs.length < sizeLine) (hs : ∀ (i : Nat) x H, xs[i]? = some x → Same H1 H → LcTurn g tt te vs σ x H (f x))
    (hd : ∀ H, Same H1 H → H D = some (.lst (xs.filterMap f)) → Qd H) : LcW (Itt K a) g tt te vs σ H1 D Qd :=
  lc_gen xs.length (fun i x _ => xs[i]? = some x) (fun i => (xs[i]?).bind f) hD hz
    (fun i H hi s => ⟨xs, xs[i], s.sqt hq, by simp [hi]⟩) (fun H s => ⟨xs, s.sqt hq, Nat.le_refl _⟩) (fun i H x H' hi s y => by
      obtain ⟨e, y⟩ := y
      subst e
      exact ⟨Same.refl _, y xs (s.sqt hq)⟩)
    (fun i x H hi s r k1 k0 h1 h0 => hs i x H r s k1 k0 (fun v H' e => h1 v H' (by rw [r]; exact e)) (fun H' e => h0 H' (by rw [r]; exact e))) (fun H s h => hd H s (by rw [h, range_fm]))
/-- over range(lo, lo + n) -/
theorem lc_fr {lo : Int} {n : Nat} (f : Nat → Option V) (hD : H1 D = none) (hz : n < sizeLine) (hs : ∀ (i : Nat) H, i < n → Same H1 H → LcTurn g tt te vs σ (.int (lo + i)) H (f i))
    (hd : ∀ H, Same H1 H → H D = some (.lst ((List.range n).filterMap f)) → Qd H) : LcW (Itr lo n) g tt te vs σ H1 D Qd :=
  lc_gen n (fun i x _ => x = .int (lo + i)) f hD hz (fun i H hi s => hi) (fun H s => Nat.le_refl _) (fun i H x H' hi s y => by
      obtain ⟨e, y⟩ := y
      subst e
      exact ⟨Same.refl _, y⟩)
    (fun i x H hi s r k1 k0 h1 h0 => by subst r; exact hs i H hi s k1 k0 h1 h0) hd
end
/-! ### the law's own def, the end -/
def spLaw (K : PySem.W.Frag) : Sp := fun vs H Q _ => ∃ (a : Addr) (ns : List Int), vs = [.ref a] ∧ SqL K H a (ns.map V.int) ∧ ns.length ≤ 63 ∧ ∀ H', Q (.bl true) H'
abbrev LawOk (P : Program) (w : World) (K : PySem.W.Frag) (mg : Str → Option Value) (k : Nat) : Prop :=
  ∃ (f : Addr) (fd : FuncData), mg "law" = some (.ref f) ∧ (∀ (s : Shared) (v : Value), BindsTo s fd ⟨[v], []⟩ [("_law_script", v)]) ∧ ∀ base : Heap, FnOk P w K mg base CX0 k f fd ["_law_script"] (spLaw K)
theorem law_of {P : Program} {w : World} {K : PySem.W.Frag} {mg : Str → Option Value} {st : Stmt} {N : List Str} {k : Nat} (T : Top K mg) (D : DefAt K "law" st) (S : FnScope N ["_law_script"] (defScope st))
    (b : ∀ (kV doc pm : Value) (an : Option Addr) (cdv ct v : Value), bindArgs (PySem.W.fnOf "law" "law" (defArgs st) (defBody st) (defScope st) .none kV doc pm an cdv ct) ⟨[v], []⟩ = pure [(("_law_script" : Str), v)])
    (hbody : ∀ (base : Heap) (f : Addr) (cdv : Value) (A : Around) (outer : List Env) (s : Shared) (H : Hp) (a : Addr) (ns : List Int) (Q : VK) (E : XK), Room k (A.deeper (envOfC "law" (defScope st) s.heap.objs.size f cdv)) → SqL K H a (ns.map V.int) → ns.length ≤ 63 → (∀ H', Q (.bl true) H') →
      ∃ t, PSs (cxOf CX0 P w K mg base N "law" (defScope st) f cdv A outer s H E).nox (defBody st) t ∧ t { nx := fun _ H' => Q .non H', rt := Q } (start N [.ref a]) H) : LawOk P w K mg (k + 1) := by
  obtain ⟨f, oc, od, an, osl, kV, doc, pm, cdv, ct, a, l, c, kp⟩ := D
  have F := fun_mk (st := st) l c kp
  refine ⟨f, _, T.of a, fun s v => .of_eq (b kV doc pm an cdv ct v), fun base => F.ok S (fun vs H Q E h => ?_) fun cdv A outer s H vs Q E hr h => ?_⟩
  · obtain ⟨_, _, rfl, _⟩ := h
    rfl
  · obtain ⟨a, ns, rfl, h1, h2, h3⟩ := h
    exact hbody base f cdv A outer s H a ns Q E hr h1 h2 h3
theorem walk_end {l : PySem.W.OpenLaw} {q : Program} {loose : List Str} {XP : (Str → Option Value) → Heap → Prop} {YP : World → Heap → Prop} {d : DefRec} {K : Params → PySem.W.Frag} (k : Nat) (hn : l.most = some 63) (hdf : d.params.defaults = []) (hr : Room k callerA) (hd : d.name = "law")
    (hY : ∀ (w : World) (h : Heap), YP w h → (K w.params).In h)
    (F : ∀ (w : World) (mg : Str → Option Value), Top (K w.params) mg → LawOk l.prog w (K w.params) mg k) :
    PySem.W.WalkO q loose XP YP l.row.toRowW d [] (fun f vs => PySem.call f vs) :=
  L2.walk_of (n := 63) (k := k) (x := "_law_script") (CX := fun _ => CX0) (sp := fun w => spLaw (K w.params)) hn (by decide) hdf hr hY (fun w mg fa h X G hm => by
    obtain ⟨f, fd, e, b, ok⟩ := F w mg ⟨h, X, G⟩
    rw [hd, e] at hm
    cases hm
    exact ⟨fd, b, fun base _ _ => ok base⟩) (fun _ _ a ns hl _ hS => ⟨a, ns, rfl, hS, hl, fun _ => rfl⟩) fun _ _ _ _ _ z => z
/-! ### a block cut in two: P is what holds between -/
def tCut (D : Ends) (P : L2.St → Hp → Prop) : TS := fun D' σ H => D' = D ∧ P σ H
theorem pss_cut {X : Cx} {rest : List Stmt} {D : Ends} {P : L2.St → Hp → Prop} (h : ∃ u, PSs X rest u ∧ ∀ σ H, P σ H → u D σ H) : PSs X rest (tCut D P) := by
  obtain ⟨u, hu, hP⟩ := h
  refine ⟨fun pins s σ H D' I h => ?_⟩
  obtain ⟨e, h⟩ := h
  subst e
  exact hu.run pins s σ H D' I (hP σ H h)
/-! ### texts -/
/-- for c in a text -/
theorem for_its {x : Str} {g : TG} {tb : TS} {D : Ends} {σ : L2.St} {H : Hp} (Pv : Nat → L2.St → Hp → Prop) (h0 : Pv 0 σ H)
    (hs : ∀ i c σ H, x.cps[i]? = some c → Pv i σ H → g (.str ⟨#[c]⟩) σ H fun σ2 H2 => tb { D with nx := Pv (i + 1), ct := Pv (i + 1), bk := D.nx } σ2 H2) (hd : ∀ σ H, Pv x.cps.size σ H → D.nx σ H) :
    ∃ W : Nat → Nat → L2.St → Hp → Prop, (∃ m, W 0 m σ H) ∧ ∀ i m σ H, W i m σ H →
      ((Its x).stop i H ∧ D.nx σ H) ∨ ((Its x).go i H ∧ ∃ N : L2.St → Hp → Prop, (∀ σ' H', N σ' H' → ∃ m', m' < m ∧ W (i + 1) m' σ' H') ∧ ∀ y H', (Its x).yld i H y H' → g y σ H' fun σ2 H2 => tb { D with nx := N, ct := N, bk := D.nx } σ2 H2) := by
  refine ⟨fun i m σ H => m = x.cps.size - i ∧ i ≤ x.cps.size ∧ Pv i σ H, ⟨x.cps.size, by simp, Nat.zero_le _, h0⟩, ?_⟩
  rintro i m σ H ⟨rfl, hi, p⟩
  by_cases hlt : i < x.cps.size
  · refine .inr ⟨hlt, Pv (i + 1), fun σ' H' p' => ⟨x.cps.size - (i + 1), by omega, rfl, hlt, p'⟩, fun y H' q => ?_⟩
    obtain ⟨e, c, hc, ey⟩ := q
    subst e ey
    exact hs i c σ _ hc p
  · have e : i = x.cps.size := by omega
    subst e
    exact .inl ⟨Nat.le_refl _, hd σ H p⟩
theorem cutS_len (z : Str) (lo hi : Option Int) : (cutS z lo hi).length ≤ z.length := by
  show (((z.cps.toList.drop _).take _).toArray).size ≤ z.cps.size
  rw [List.size_toArray, List.length_take, List.length_drop, Array.length_toList]
  omega
theorem app_len (a b : Str) : (a ++ b).length = a.length + b.length := by
  show (a.cps ++ b.cps).size = a.cps.size + b.cps.size
  exact Array.size_append
/-- a text some times over -/
theorem op_repS {X : Cx} : OpR X (binaryOp .Mult) (fun x y H Q => ∃ (z : Str) (n : Int), x = .str z ∧ y = .int n ∧ PySem.MulOk z n ∧ Q (.str (Txt.mul z n)) H) := by
  intro pins s σ H x y v u Q I rx ry h
  obtain ⟨z, n, rfl, rfl, ok, q⟩ := h
  obtain ⟨t, rfl⟩ := rx
  obtain ⟨t', rfl⟩ := ry
  exact PySem.SB.mul ok fun t2 k => ⟨.str _, H, I.tok k, ⟨t2, rfl⟩, q⟩
theorem bl_of {b c : Bool} (h : b = c) : V.bl b = V.bl c := congrArg V.bl h
theorem fm_some {α β : Type} (xs : List α) (f : α → β) : xs.filterMap (fun x => some (f x)) = xs.map f := by
  induction xs with
  | nil => rfl
  | cons x xs ih => simp
/-! ### the helpers every law has -/
def cellAt (ns : List Int) (k : Int) : Int := ns.getD k.toNat 0
def mixed (c : Int) : Int := c * 48271 % 2147483647
def spCellAt (K : PySem.W.Frag) : Sp := fun vs H Q _ => ∃ (a : Addr) (ns : List Int) (k : Int), vs = [.ref a, .int k] ∧ SqL K H a (ns.map V.int) ∧ 0 ≤ k ∧ Q (.int (cellAt ns k)) H
def spMixed : Sp := fun vs H Q _ => ∃ c : Int, vs = [.int c] ∧ Q (.int (mixed c)) H
end Nl

set_option Elab.async false
set_option linter.all false
set_option maxRecDepth 100000
set_option maxHeartbeats 1000000
namespace Nl
open PySem PySem.Spec PySem.Calls PyProof.Rows PySem.W
/-- a, *rest = a list: the rest is a new list -/
theorem star_list {prog : Program} {w : World} {A : Around} {E : Value → Shared → Prop} {s : Shared} {l : Addr} {items : Array Value} {first rest : List Value} {Q : List Value → Shared → Prop}
    (hl : s.heap.IsList l items) (hh : A.handled = none) (hn : 1 ≤ items.size) (hz : items.size ≤ 16384) (h1 : items.toList = first ++ rest) (h2 : first.length = 1)
    (h : ∀ (h₂ : Heap) (tk : Nat), (∀ b o, s.heap.get? b = some o → h₂.get? b = some o) → Q (first ++ [.ref h₂.objs.size]) { s with heap := h₂.push { cls := .type "list", data := .seq rest.toArray 0 }, toks := tk }) :
    wpAny (model prog w) A (unpackItems (.ref l) 2 (some 1)) Q E s := by
  have hlt : l ≠ s.heap.objs.size := by obtain ⟨o, ho, _⟩ := hl; exact Nat.ne_of_lt (Heap.lt_size ho)
  have hsz : items.toList.length = items.size := Array.length_toList
  have ht : items.toList.take 1 = first := by rw [h1, List.take_append_of_le_length (by omega), List.take_of_length_le (by omega)]
  have hd : items.toList.drop 1 = rest := by rw [h1, List.drop_append_of_le_length (by omega), List.drop_of_length_le (by omega)]; rfl
  unfold unpackItems
  refine wpAny_bind ?_
  unfold notIterableAtAll
  refine wpAny_bind (wpAny_specialOf hl.typeIs slot_list_iter.lookup ?_)
  refine wpAny_pure ?_
  simp only [Bool.false_eq_true, if_false]
  refine wpAny_bind (wpAny_holding (wpAny_pyIter_list hl ?_))
  refine wpAny_bind (wpAny_holding (kun_draw hlt 1 0 _ _ ⟨_, Heap.get?_push_size _ rfl, rfl, rfl⟩ (hl.push _) (by omega) fun h₁ hit₁ hs₁ => ?_))
  have hl₁ : h₁.IsList l items := (hl.push _).extBut hs₁.extBut hlt
  rw [Nat.zero_add] at hit₁
  have hit₁' := hit₁
  obtain ⟨oi, hoi, _⟩ := hit₁'
  have hl₁' := hl₁
  obtain ⟨ol, hol, _⟩ := hl₁'
  rw [List.drop_zero, ht]
  rw [if_neg (show ¬ (first.length < 1) by omega)]
  refine wpAny_bind (wpAny_holding (kun_collect (s := { s with heap := h₁ }) (T := "list_iterator") (.inr (.inr (.inl rfl))) (Walks.list (A := A.in1) hh s.heap.objs.size l hlt items) (fun j u st => st.1.typeIs) (k := 1) (by omega) ⟨hit₁, hl₁⟩ (Heap.lt_size hoi) (Heap.lt_size hol) (fun h₂ tk hk => ?_) (by rw [sizeLine_eq]; omega)))
  rw [hd]
  show wpAny _ _ (if rest.length < 0 then _ else _) _ _ _
  rw [if_neg (Nat.not_lt_zero _)]
  show wpAny _ _ (newList (rest.take (rest.length - 0)) >>= fun d => pure (first ++ [d] ++ rest.drop (rest.length - 0))) _ _ _
  rw [Nat.sub_zero, List.take_length, List.drop_length]
  have hr : rest.length ≤ items.size := by rw [← hsz, h1, List.length_append]; omega
  have he : ∀ b o, s.heap.get? b = some o → h₂.get? b = some o := fun b o e =>
    hk b o (Nat.ne_of_lt (Heap.lt_size e)) ((hs₁.2 b (Nat.ne_of_lt (Heap.lt_size e))).trans (Heap.get?_push_of_some _ e))
  refine wpAny_bind (wpAny_newObj_type ?_ (by show rest.toArray.size ≤ sizeLine; rw [List.size_toArray, sizeLine_eq]; omega))
  refine wpAny_pure ?_
  rw [List.append_nil]
  exact h h₂ tk he
end Nl
namespace Nl
open PySem PySem.Spec PyProof.Rows L2
/-- a, *rest = xs, a list; both names in slots -/
def gStar (K : PySem.W.Frag) (i j : Nat) : TG := fun v σ H Q => ∃ a x xs, v = .ref a ∧ SqL K H a (x :: xs) ∧ xs.length < 16384 ∧ ∀ p, H p = none → Q ((σ.set i (some x)).set j (some (.ref p))) (upd H p (.lst xs))
theorem pg_star {X : Cx} {i j : Nat} {x y : Str} {px py pp pos : Pos} {k1 : Nat} (hc : X.calm = true) (hN : X.N.Nodup) (hi : X.N[i]? = some x) (hx : Loc X.env.scope x) (hj : X.N[j]? = some y) (hy : Loc X.env.scope y)
    (fx : X.fn x = true ∨ X.env.scope.names.lookup x = some .local := by first | exact .inl rfl | exact .inr rfl | assumption) (fy : X.fn y = true ∨ X.env.scope.names.lookup y = some .local := by first | exact .inl rfl | exact .inr rfl | assumption) :
    PG X (.Tuple [.Name x px, .Starred (.Name y py) pp] k1 pos) (gStar X.K i j) := by
  refine ⟨fun pins s σ H v u Q I r h => ?_⟩
  obtain ⟨a, x1, xs, rfl, hs, hz, q⟩ := h
  cases r
  obtain ⟨its, rv, pl, hl⟩ := I.list hs
  have el : (x1 :: xs).length = its.length := rv.length
  cases rv with
  | cons r1 rr =>
    rename_i u1 us
    rw [PyProof.Rows.assign_Tuple]
    refine wpAny_bind (wpAny_standAt ?_)
    unfold unpack
    have h1 : (assignEach [.Name x px, .Starred (.Name y py) pp] X.env).length = 2 := rfl
    have h2 : (assignEach [.Name x px, .Starred (.Name y py) pp] X.env).findIdx? (·.1) = some 1 := rfl
    rw [h1, h2]
    refine wpAny_bind (wpAny_holding (star_list (first := [u1]) (rest := us) pl.isList (I.ok.hd hc) (by simp) (by simp at el ⊢; omega) (by simp) rfl fun h₂ tk hk => ?_))
    have I2 : Inv X pins σ H { s with heap := h₂, toks := tk } := I.kept hk
    have I3 := I2.laid (a := h₂.objs.size) (o := .lst xs) (h' := h₂.push { cls := .type "list", data := .seq us.toArray 0 }) (t' := tk) (fun b o e => Heap.get?_push_of_some _ e) (Nat.le_refl _) ⟨(by simp at hl; omega), us, 0, rr, Heap.get?_push_size _ rfl⟩
    have hf : H h₂.objs.size = none := I2.hok.fresh (Nat.le_refl _)
    show wpAny _ _ (assignInOrder [assign (.Name x px) X.env, assign (.Name y py) X.env] [u1, .ref h₂.objs.size]) _ _ _
    refine assignInOrder_cons (wpAny_assign_Name (store_ok I3 hN hi hx r1 (fun s4 I4 => ?_) fx))
    refine assignInOrder_cons (wpAny_assign_Name (store_ok (v := V.ref h₂.objs.size) I4 hN hj hy rfl (fun s5 I5 => assignInOrder_nil ⟨_, _, I5, q _ hf⟩) fy))
end Nl

set_option Elab.async false
set_option linter.all false
set_option maxRecDepth 100000
set_option maxHeartbeats 1000000
namespace Nl
open PySem PySem.Spec PyProof.Rows L2 L2H
/-! ### a def that is called while an error of the class at D, that stands at p, is handled -/
structure FnS (P : Program) (w : World) (K : PySem.W.Frag) (mg : Str → Option Value) (base : Heap) (k : Nat) (f : Addr) (fd : FuncData) (ps : List Str) (sp : Addr → Addr → Sp) : Prop where
  len : ∀ D a vs H Q E, sp D a vs H Q E → vs.length = ps.length
  run : ∀ (A : Around) (outer : List Env) (s : Shared) (H : Hp) (args : Args) (us : List Value) (vs : List V) (Q : VK) (E : XK) (p : Addr × Obj) (D : Addr), RoomH k A → Zc (.ref D) none p.2 → (∃ fs, p.2.data = .fields fs) → PinOk outer H s p → Env0 P w K mg base A outer s H →
    BindsTo s fd args (ps.zip us) → Vals vs us → sp D p.1 vs H Q E → codeAny (model P w) A (.call (.ref f) args) (CR CX0 outer P w H s Q E) s
theorem fn_ofS {P : Program} {w : World} {K : PySem.W.Frag} {mg : Str → Option Value} {base : Heap} {k : Nat} {f : Addr} {name qual : Str} {params : Arguments} {body : List Stmt} {scope : Scope} {dV kV doc pm cdv ct oc : Value} {an od : Option Addr}
    {osl : Array (Option Value)} {N ps : List Str} {sp : Addr → Addr → Sp} (lk : K.lookup f = some ⟨oc, od, .func (PySem.W.fnOf name qual params body scope dV kV doc pm an cdv ct), osl⟩) (hcd : PySem.W.codeIn K cdv qual = true) (S : FnScope N ps scope)
    (len : ∀ D a vs H Q E, sp D a vs H Q E → vs.length = ps.length)
    (hbody : ∀ (A : Around) (outer : List Env) (s : Shared) (H : Hp) (vs : List V) (Q : VK) (E : XK) (p : Addr × Obj) (D : Addr), Zc (.ref D) none p.2 → (∃ fs, p.2.data = .fields fs) → RoomH k (A.deeper (envOfC qual scope s.heap.objs.size f cdv)) → sp D p.1 vs H Q E →
      ∃ t, PSs (cxH CX0 P w K mg base N qual scope f cdv A outer s H E p) body t ∧ t { nx := fun _ H' => Q .non H', rt := Q } (L2.start N vs) H) :
    FnS P w K mg base (k + 1) f (PySem.W.fnOf name qual params body scope dV kV doc pm an cdv ct) ps sp := by
  refine ⟨len, fun A outer s H args us vs Q E p D hr hz hf hpin e0 hb r hsp => ?_⟩
  have hl := len _ _ _ _ _ _ hsp
  have stay := fun b o e => (e0.bs b o e).1
  have hkind : ∀ y ∈ ps.zip us, scope.names.lookup y.1 = some .local ∨ (scope.names.lookup y.1 = some .cell ∧ ((cellsFrom (s.heap.objs.size + 1) scope.names []).lookup y.1).isSome = true) := fun ⟨n, v⟩ hy =>
    (S.par n (List.of_mem_zip hy).1).elim (fun q => .inl q) fun q => .inr ⟨q, PySem.W.cellsFrom_some _ _ _ (.inl q)⟩
  have KX : K.In s.heap := e0.mod.kin.keeps stay
  have lim : s.heap.NoLimit := e0.mod.nolimit.keeps stay
  refine codeAny_call_function hr.depth (KX _ _ lk) rfl S.co S.gen rfl (PySem.W.codeRec_of KX hcd) (hb _ _ _ _ ?_)
  refine wpAny_newFunctionEnv_cells S.kind hkind fun env he s1 x => ?_
  subst he
  refine ⟨lim.keeps x.toInCall.keep, codeAny_func ?_⟩
  obtain ⟨t, ht, hq⟩ := hbody A outer s H vs Q E p D hz hf (hr.deeper _) hsp
  refine wpAny_mono (ht.run [] s1 (L2.start N vs) H _ (inv_startH S hpin e0 hl r x) hq) (fun fl s' hs => ?_) fun e s' hs => hs
  cases fl with
  | ret u =>
    obtain ⟨v, σ', H', J, rv, q⟩ := hs
    exact ⟨v, H', J.os, J.bare, J.base, J.hok, rv, q⟩
  | next =>
    obtain ⟨σ', H', J, q⟩ := hs
    exact ⟨V.non, H', J.os, J.bare, J.base, J.hok, rfl, q⟩
  | brk =>
    obtain ⟨_, _, _, q⟩ := hs
    exact q.elim
  | cont =>
    obtain ⟨_, _, _, q⟩ := hs
    exact q.elim
structure CalS (P : Program) (w : World) (K : PySem.W.Frag) (mg : Str → Option Value) (base : Heap) (k : Nat) (x : Str) (sp : Addr → Addr → Sp) : Prop where
  ex : ∃ (f : Addr) (fd : FuncData) (ps : List Str), FnS P w K mg base k f fd ps sp ∧ mg x = some (.ref f) ∧ PySem.W.keepIn K (.ref f) = true ∧ Binds K fd ps []
theorem calS_of {P : Program} {w : World} {K : PySem.W.Frag} {mg : Str → Option Value} {base : Heap} {x : Str} {st : Stmt} {N ps : List Str} {k : Nat} {sp : Addr → Addr → Sp} (T : Top K mg) (D : DefAt K x st) (S : FnScope N ps (defScope st)) (b : BindOk x st ps)
    (len : ∀ D a vs H Q E, sp D a vs H Q E → vs.length = ps.length)
    (hbody : ∀ (f : Addr) (cdv : Value) (A : Around) (outer : List Env) (s : Shared) (H : Hp) (vs : List V) (Q : VK) (E : XK) (p : Addr × Obj) (D : Addr), Zc (.ref D) none p.2 → (∃ fs, p.2.data = .fields fs) → RoomH k (A.deeper (envOfC x (defScope st) s.heap.objs.size f cdv)) → sp D p.1 vs H Q E →
      ∃ t, PSs (cxH CX0 P w K mg base N x (defScope st) f cdv A outer s H E p) (defBody st) t ∧ t { nx := fun _ H' => Q .non H', rt := Q } (L2.start N vs) H) : CalS P w K mg base (k + 1) x sp := by
  obtain ⟨f, oc, od, an, osl, kV, doc, pm, cdv, ct, a, l, c, kp⟩ := D
  have F := fun_mk (st := st) l c kp
  exact ⟨f, _, ps, fn_ofS l c S len fun A outer s H vs Q E p D hz hf hr h => hbody f cdv A outer s H vs Q E p D hz hf hr h, T.of a, kp, F.binds b⟩
section
variable {X : Cx} {k j : Nat} {x : Str} {sp : Addr → Addr → Sp} {p pos : Pos} {e : Expr} {es : List Expr} {t : TA}
/-- f(..) within the suite of a clause; the error at a, of the class cls -/
def tCallSu (sp : Addr → Addr → Sp) (a : Addr) (cls : Value) (d : Option Addr) (t : TA) : TE := fun σ H Q => t σ H fun vs H1 => ∃ D, cls = .ref D ∧ d = none ∧ sp D a vs H1 Q E0
theorem pe_su {a : Addr} {oe : Obj} {cls : Value} {d : Option Addr} {pn : List (Addr × Obj)} (c : CalS X.prog X.w X.K X.mg X.base k x sp) (hz : Zc cls d oe) (hf : ∃ fs, oe.data = .fields fs) (hr : Room j X.A) (hk : k ≤ j) (hg : Gl X x) (ha : PA (X.suite a ((a, oe) :: pn)) (e :: es) t)
    (hdb : (x == ("__debug__" : Str)) = false := by decide) (he : starEach (e :: es) X.env = (false, eval e X.env) :: starEach es X.env := by rfl) (hpl : (backTo pos (starEach es X.env)).any (·.1) = false := by rfl) :
    PE (X.suite a ((a, oe) :: pn)) (.Call (.Name x p) (e :: es) [] pos) (tCallSu sp a cls d t) := by
  obtain ⟨f, fd, ps, F, hm, kp, hb⟩ := c.ex
  refine ⟨fun pins s σ H Q I h => ?_⟩
  refine wpAny_Call_Name_kw (ld_glob I hg hm ?_ hdb)
  refine PySem.W.callWith_K (h₀ := X.base) I.ok.mod.kin kp (thn (ha.run pos pins s σ H _ I h) fun us s1 ⟨vs, H1, I1, r, D, ec, ed, q⟩ => ⟨I1.kIn, ?_⟩) he hpl
  subst ec ed
  have hl : us.length = ps.length := by rw [← r.length]; exact F.len _ _ _ _ _ _ q
  have b := hb s1 us I1.kIn (by rw [List.append_nil]; exact hl)
  rw [List.append_nil] at b
  have P1 := I1.pin (a, oe) (List.mem_append_left _ List.mem_cons_self)
  have hpin : PinOk (X.suite a ((a, oe) :: pn)).stack H1 s1 (a, oe) := ⟨P1.1, P1.2.1, fun hm => (List.mem_cons.mp (I1.stkSub a hm)).elim P1.2.2.1 P1.2.2.2.1, P1.2.2.2.2⟩
  have hr2 : RoomH k (X.suite a ((a, oe) :: pn)).A := ⟨(hr.mono hk).dp, (hr.mono hk).un⟩
  refine wpAny_call (codeAny_mono (F.run _ _ s1 H1 ⟨us, []⟩ us vs Q E0 (a, oe) D hr2 hz hf hpin I1.env0 b r q) fun r s' hq => ?_)
  cases r with
  | error e => exact hq.elim
  | ok fl =>
    cases fl with
    | ret u => exact I1.after hq
    | next => exact hq.elim
    | brk => exact hq.elim
    | cont => exact hq.elim
/-- isinstance of an error that is pinned -/
theorem call_isP {q : Addr × Obj} {D : Addr} (hq : q ∈ X.pn) (C : ExcC X.K D) (hz : Zc (.ref D) none q.2) (hf : ∃ fs, q.2.data = .fields fs) : CallR X (.builtin "isinstance") (rIsE X.K D q.1) := by
  intro pins s σ H xs us Q I r h
  obtain ⟨c, cv, b, rfl, hcv, e, k⟩ := h
  cases r with
  | cons rx rr =>
    cases rr with
    | cons rt rr =>
      cases rr
      cases rx
      have ec := hcv _ rt
      subst ec
      have hget := (I.pin q (List.mem_append_left _ hq)).1
      have J : PySem.W.InstAt s.heap q.1 q.2 D none := by
        obtain ⟨fs, hv⟩ := hf
        obtain ⟨a, oc, od, oda, osl⟩ := q
        obtain ⟨h1, h2⟩ := hz
        dsimp only at h1 h2 hv
        subst h1 h2 hv
        exact ⟨hget, rfl, rfl, trivial⟩
      exact PySem.W.kia_one (PySem.W.handS_kitx_exc C.hg C.hk C.hs C.hd C.ha C.hn C.ht C.hm) I.kIn J e (fun z => nomatch z) fun tk => ⟨.bl b, H, I.kept (t' := tk) fun _ _ z => z, rfl, k⟩
/-- xs.count(x), all of them plain -/
def rCntV (K : PySem.W.Frag) : V → List V → Hp → VK → Prop := fun x xs H Q => ∃ (p : Addr) (ys : List V) (y : V), x = .ref p ∧ xs = [y] ∧ SqL K H p ys ∧ flatV y = true ∧ ys.all flatV = true ∧ Q (.int (ys.countP (fun z => eqV z y) : Nat)) H
theorem countU {x : V} : ∀ {ys : List V} {us : List Value}, Vals ys us → ys.all flatV = true → us.countP (eqU x) = ys.countP fun z => eqV z x
  | _, _, .nil, _ => rfl
  | _, _, .cons r t, f => by
    rw [List.all_cons, Bool.and_eq_true] at f
    rw [List.countP_cons, List.countP_cons, countU t f.2, eqU_of r f.1]
theorem mt_countV : MtR X "list.count" (rCntV X.K) := by
  intro pins s σ H x xs v us Q I rx rxs h
  obtain ⟨p, ys, y, rfl, rfl, hs, fy, fl, q⟩ := h
  cases rx
  obtain ⟨u, rfl, ru⟩ := rxs.one
  obtain ⟨its, rv, ⟨⟨cls, dd, data, sl⟩, n, ho, hc, hdn, hd⟩, hlen⟩ := I.list hs
  simp only at hc hd
  subst hc hd
  refine call_meets PySem.F.slot_list_count ⟨_, ho, rfl⟩ PySem.F.entry_list_count (PySem.F.args_list_count_2 _ _) (SeqAt.list_countAt p its.toArray n dd sl u (eqU y)) ⟨ho, fun z hz => mem_eqAt ru fy rv fl z (by simpa using hz), ?_⟩
  have ec : its.toArray.toList.countP (eqU y) = ys.countP (fun z => eqV z y) := by rw [List.toList_toArray]; exact countU rv fl
  rw [ec]
  exact ⟨.int _, H, I.tok _, ⟨s.toks, rfl⟩, q⟩
end
/-! ### isinstance of one of the five refusals -/
structure AloneAt (K : PySem.W.Frag) (cs : List Addr) (cL : Addr) (D : Addr) (own : Nat) : Prop where
  ex : ExcC K D
  k : ∀ j c, cs[j]? = some c → PySem.W.kitOne K (.ref D) (.ref c) = some (decide (j = own))
  line : PySem.W.kitOne K (.ref D) (.ref cL) = some true
  val : PySem.W.kitOne K (.ref D) (.type "ValueError") = some true
/-- an error of the class D is the own-th of the five and none else -/
def spAlone (K : PySem.W.Frag) (cs : List Addr) (cL : Addr) : Addr → Addr → Sp := fun D a vs H Q _ => ∃ own : Nat, vs = [.ref a, .int (own : Nat)] ∧ own < 5 ∧ AloneAt K cs cL D own ∧ ∀ H', Same H H' → Q (.bl true) H'
/-! ### plain values as data -/
def dOf : V → PyData
  | .bl b => .bool b
  | .int i => .int i
  | .str x => .str x
  | _ => .none
theorem dp_flat {K : PySem.W.Frag} {H : Hp} {v : V} (h : flatV v = true) : Dp K H v (dOf v) := by
  cases v with
  | non => exact .non
  | bl b => exact .bl b
  | int i => exact .int i
  | str x => exact .str x
  | _ => cases h
theorem dpAll_flat {K : PySem.W.Frag} {H : Hp} : ∀ {xs : List V}, xs.all flatV = true → DpAll K H xs (xs.map dOf)
  | [], _ => .nil
  | x :: xs, h => by
    rw [List.all_cons, Bool.and_eq_true] at h
    exact .cons (dp_flat h.1) (dpAll_flat h.2)
theorem dp_tup {K : PySem.W.Frag} {H : Hp} {p : Addr} {xs : List V} (h : SqT K H p xs) (f : xs.all flatV = true) : Dp K H (.ref p) (.tuple (xs.map dOf)) := .tup h (dpAll_flat f)
theorem dp_lst {K : PySem.W.Frag} {H : Hp} {p : Addr} {xs : List V} (h : SqL K H p xs) (f : xs.all flatV = true) : Dp K H (.ref p) (.list (xs.map dOf)) := .lst h (dpAll_flat f)
theorem depth_flat : ∀ xs : List V, PyData.depthAll (xs.map dOf) = 0
  | [] => rfl
  | x :: xs => by
    have e : (dOf x).depth = 0 := by cases x <;> rfl
    rw [List.map_cons, PyData.depthAll, e, depth_flat xs]
    rfl
theorem shaped_tup {xs : List V} (h : PyData.canLayAll0 (xs.map dOf) = true) : SeqAt.shaped (.tuple (xs.map dOf)) = true := by
  have e : PyData.depth (.tuple (xs.map dOf)) = 1 := by rw [PyData.depth, depth_flat]
  unfold SeqAt.shaped
  rw [e]
  show (PyData.canLayAll0 (xs.map dOf) && _) = true
  rw [h]
  rfl
theorem shaped_lst {xs : List V} (h : PyData.canLayAll0 (xs.map dOf) = true) : SeqAt.shaped (.list (xs.map dOf)) = true := by
  have e : PyData.depth (.list (xs.map dOf)) = 1 := by rw [PyData.depth, depth_flat]
  unfold SeqAt.shaped
  rw [e]
  show (PyData.canLayAll0 (xs.map dOf) && _) = true
  rw [h]
  rfl
theorem lay_ints : ∀ ns : List Int, PyData.canLayAll0 ((ns.map V.int).map dOf) = true
  | [] => rfl
  | n :: ns => by
    show (true && PyData.canLayAll0 ((ns.map V.int).map dOf)) = true
    rw [lay_ints ns]
    rfl
theorem eqv_same {d : PyData} (h : SeqAt.shaped d = true) : PyData.eqv d d = true := PySem.SeqAt.eqv_refl d (SeqAt.canLay_of_shaped h)
end Nl

set_option Elab.async false
set_option linter.all false
set_option maxRecDepth 100000
set_option maxHeartbeats 4000000
namespace Nl
open PySem PySem.Spec PyProof.Rows L2 L2H
/-! ### data at any depth -/
mutual
theorem dp_same {K : PySem.W.Frag} {H H' : Hp} (s : Same H H') : ∀ (d : PyData) (v : V), Dp K H v d → Dp K H' v d
  | .none, _, h => by cases h; exact .non
  | .bool _, _, h => by cases h; exact .bl _
  | .int _, _, h => by cases h; exact .int _
  | .str _, _, h => by cases h; exact .str _
  | .list ds, _, h => by
    cases h with
    | lst q a => exact .lst (s.seq q) (dpAll_same s ds _ a)
  | .tuple ds, _, h => by
    cases h with
    | tup q a => exact .tup (s.sqt q) (dpAll_same s ds _ a)
  | .dict _, _, h => by cases h
theorem dpAll_same {K : PySem.W.Frag} {H H' : Hp} (s : Same H H') : ∀ (ds : List PyData) (vs : List V), DpAll K H vs ds → DpAll K H' vs ds
  | [], _, h => by cases h; exact .nil
  | d :: ds, _, h => by
    cases h with
    | cons a b => exact .cons (dp_same s d _ a) (dpAll_same s ds _ b)
end
theorem dpA_len {K : PySem.W.Frag} {H : Hp} : ∀ {vs : List V} {ds : List PyData}, DpAll K H vs ds → vs.length = ds.length
  | _, _, .nil => rfl
  | _, _, .cons _ h => by simp only [List.length_cons, dpA_len h]
theorem dpA_get {K : PySem.W.Frag} {H : Hp} : ∀ {vs : List V} {ds : List PyData} {i : Nat} {v : V}, DpAll K H vs ds → vs[i]? = some v → ∃ d, ds[i]? = some d ∧ Dp K H v d
  | _, _, i, v, .nil, e => by simp at e
  | _, _, 0, v, .cons (d := d) a h, e => by
    rw [List.getElem?_cons_zero] at e
    cases e
    exact ⟨d, rfl, a⟩
  | _, _, i + 1, v, .cons a h, e => by
    rw [List.getElem?_cons_succ] at e
    obtain ⟨d, e2, q⟩ := dpA_get h e
    exact ⟨d, by rw [List.getElem?_cons_succ]; exact e2, q⟩
theorem dpA_set {K : PySem.W.Frag} {H : Hp} {v : V} {d : PyData} (q : Dp K H v d) : ∀ {vs : List V} {ds : List PyData} {i : Nat}, DpAll K H vs ds → DpAll K H (vs.set i v) (ds.set i d)
  | _, _, _, .nil => .nil
  | _, _, 0, .cons a h => .cons q h
  | _, _, i + 1, .cons a h => .cons a (dpA_set q h)
theorem dpA_app {K : PySem.W.Frag} {H : Hp} {v : V} {d : PyData} (q : Dp K H v d) : ∀ {vs : List V} {ds : List PyData}, DpAll K H vs ds → DpAll K H (vs ++ [v]) (ds ++ [d])
  | _, _, .nil => .cons q .nil
  | _, _, .cons a h => .cons a (dpA_app q h)
theorem dpAll_flat2 {K : PySem.W.Frag} {H : Hp} : ∀ {xs : List V}, xs.all flatV = true → DpAll K H xs (xs.map dOf)
  | [], _ => .nil
  | x :: xs, h => by
    rw [List.all_cons, Bool.and_eq_true] at h
    exact .cons (dp_flat h.1) (dpAll_flat2 h.2)
def tyN : PyData → String
  | .none => "NoneType" | .bool _ => "bool" | .int _ => "int" | .str _ => "str" | .list _ => "list" | .tuple _ => "tuple" | .dict _ => "dict"
theorem ty_l {K : PySem.W.Frag} {H : Hp} {a : Addr} {xs : List V} (h : SqL K H a xs) : TyX K H (.ref a) (.type "list") := by
  rcases h with (h | ⟨_, h⟩) | ⟨_, _, _, h, c, _⟩
  · exact .base (.lst h)
  · exact .base (.frz h)
  · exact .kList h c
theorem ty_t {K : PySem.W.Frag} {H : Hp} {a : Addr} {xs : List V} (h : SqT K H a xs) : TyX K H (.ref a) (.type "tuple") := by
  rcases h with (h | ⟨_, h⟩) | ⟨_, _, _, h, c, _⟩
  · exact .base (.tup h)
  · exact .fTuple h
  · exact .kTuple h c
theorem dp_ty {K : PySem.W.Frag} {H : Hp} {v : V} {d : PyData} (h : Dp K H v d) : TyX K H v (.type (tyN d)) := by
  cases h with
  | non => exact .base .non
  | bl b => exact .base (.bl b)
  | int i => exact .base (.int i)
  | str x => exact .base (.str x)
  | lst h _ => exact ty_l h
  | tup h _ => exact ty_t h
theorem tyN_in (d : PyData) : tyN d ∈ ["NoneType", "bool", "int", "str", "list", "tuple", "dict"] := by
  cases d <;> simp [tyN]
theorem kit_d {n : String} (h : ∀ a ∈ ["NoneType", "bool", "int", "str", "list", "tuple", "dict"], kitB a n = some (decide (a = n))) (d : PyData) : kitB (tyN d) n = some (decide (tyN d = n)) := h _ (tyN_in d)
theorem kit_int (d : PyData) : kitB (tyN d) "int" = some (decide (tyN d = "int" ∨ tyN d = "bool")) :=
  (by decide +kernel : ∀ a ∈ ["NoneType", "bool", "int", "str", "list", "tuple", "dict"], kitB a "int" = some (decide (a = "int" ∨ a = "bool"))) _ (tyN_in d)
theorem kit_bool (d : PyData) : kitB (tyN d) "bool" = some (decide (tyN d = "bool")) := kit_d (by decide +kernel) d
theorem kit_tup (d : PyData) : kitB (tyN d) "tuple" = some (decide (tyN d = "tuple")) := kit_d (by decide +kernel) d
theorem kit_str (d : PyData) : kitB (tyN d) "str" = some (decide (tyN d = "str")) := kit_d (by decide +kernel) d
/-- for x in an iterator -/
theorem for_gen {J : It} {g : TG} {tb : TS} {D : Ends} {σ : L2.St} {H : Hp} (n : Nat) (Pv : Nat → L2.St → Hp → Prop) (h0 : Pv 0 σ H) (go : ∀ i σ H, i < n → Pv i σ H → J.go i H) (stop : ∀ σ H, Pv n σ H → J.stop n H)
    (hs : ∀ i σ H y H', i < n → Pv i σ H → J.yld i H y H' → g y σ H' fun σ2 H2 => tb { D with nx := Pv (i + 1), ct := Pv (i + 1), bk := D.nx } σ2 H2) (hd : ∀ σ H, Pv n σ H → D.nx σ H) :
    ∃ W : Nat → Nat → L2.St → Hp → Prop, (∃ m, W 0 m σ H) ∧ ∀ i m σ H, W i m σ H →
      (J.stop i H ∧ D.nx σ H) ∨ (J.go i H ∧ ∃ N : L2.St → Hp → Prop, (∀ σ' H', N σ' H' → ∃ m', m' < m ∧ W (i + 1) m' σ' H') ∧ ∀ y H', J.yld i H y H' → g y σ H' fun σ2 H2 => tb { D with nx := N, ct := N, bk := D.nx } σ2 H2) := by
  refine ⟨fun i m σ H => m = n - i ∧ i ≤ n ∧ Pv i σ H, ⟨n, by simp, Nat.zero_le _, h0⟩, ?_⟩
  rintro i m σ H ⟨rfl, hi, p⟩
  by_cases hlt : i < n
  · exact .inr ⟨go i σ H hlt p, Pv (i + 1), fun σ' H' p' => ⟨n - (i + 1), by omega, rfl, hlt, p'⟩, fun y H' q => hs i σ H y H' hlt p q⟩
  · have e : i = n := by omega
    subst e
    exact .inl ⟨stop σ H p, hd σ H p⟩
/-- a whole number within the bounds, True and False are none -/
def wholeIn (d : PyData) (lo hi : Int) : Bool := match d with
  | .int i => decide (lo ≤ i) && decide (i ≤ hi)
  | _ => false
def lastOf (size count : Int) (k : Str) : Int := if k = "box" then size - 1 else if k = "number" then 999999 else count
def fitK (size count : Int) (l : List Str) (ps : List PyData) : Bool := (List.range l.length).all fun k => wholeIn (ps.getD k .none) 0 (lastOf size count (l.getD k Str.empty))
theorem cutV_1 (x : V) (xs : List V) : cutV (x :: xs) (some 1) none = xs := by
  unfold cutV
  have h1 : HT.sIx (x :: xs).length 0 (some 1) = 1 := by
    have := HT.sIx_nat (x :: xs).length 0 1
    simp only [List.length_cons] at this ⊢
    rw [show ((1 : Nat) : Int) = 1 from rfl] at this
    rw [this]
    omega
  rw [h1, HT.sIx_none]
  simp
theorem dpA_by {K : PySem.W.Frag} {H : Hp} : ∀ {vs : List V} {ds : List PyData}, vs.length = ds.length → (∀ (j : Nat) (v : V), vs[j]? = some v → ∃ d, ds[j]? = some d ∧ Dp K H v d) → DpAll K H vs ds
  | [], [], _, _ => .nil
  | v :: vs, d :: ds, hl, h => by
    refine .cons ?_ (dpA_by (Nat.succ.inj hl) fun j v' e => ?_)
    · obtain ⟨d', e, q⟩ := h 0 v rfl
      cases e
      exact q
    · obtain ⟨d', e', q⟩ := h (j + 1) v' (by rw [List.getElem?_cons_succ]; exact e)
      exact ⟨d', by rw [List.getElem?_cons_succ] at e'; exact e', q⟩
  | [], _ :: _, hl, _ => by cases hl
  | _ :: _, [], hl, _ => by cases hl
/-- [a new tuple for k in range(..)] -/
theorem lc_tr {g : TG} {tt : TT} {te : TE} {vs : List Nat} {σ : L2.St} {H1 : Hp} {D : Addr} {Qd : Hp → Prop} {lo : Int} {n : Nat} (fx : Nat → List V) (hD : H1 D = none) (hz : n < sizeLine)
    (hs : ∀ i H, i < n → Same H1 H → ∀ (k1 : VK) (k0 : Hp → Prop), (∀ p H', H' p = some (.tup (fx i)) → Same H H' → k1 (.ref p) H') →
      g (.int (lo + (i : Nat))) (wipe σ vs) H fun σ2 H2 => wipe σ2 vs = wipe σ vs ∧ tt σ2 H2 fun b H3 => if b = true then te σ2 H3 k1 else k0 H3)
    (hd : ∀ H acc, Same H1 H → H D = some (.lst acc) → acc.length = n → (∀ j, j < n → ∃ p, acc[j]? = some (.ref p) ∧ H p = some (.tup (fx j))) → Qd H) : LcW (Itr lo n) g tt te vs σ H1 D Qd := by
  refine ⟨fun i m H => m = n - i ∧ i ≤ n ∧ Same H1 H ∧ ∃ acc, H D = some (.lst acc) ∧ acc.length = i ∧ ∀ j, j < i → ∃ p, acc[j]? = some (.ref p) ∧ H p = some (.tup (fx j)), ⟨n, by simp, Nat.zero_le _, Same.new hD, [], upd_same, rfl, fun j h => absurd h (Nat.not_lt_zero _)⟩, ?_⟩
  rintro i m H ⟨rfl, hi, s1, acc, h1, hl, ha⟩
  by_cases hlt : i < n
  · refine .inr ⟨hlt, fun H' => Same H1 H' ∧ ∃ acc, H' D = some (.lst acc) ∧ acc.length = i + 1 ∧ ∀ j, j < i + 1 → ∃ p, acc[j]? = some (.ref p) ∧ H' p = some (.tup (fx j)), fun H' p' => ⟨n - (i + 1), by omega, rfl, hlt, p'⟩, fun x H' y => ?_⟩
    obtain ⟨e, y⟩ := y
    subst e y
    refine hs i _ hlt s1 _ _ (fun p H'' hp s3 => ?_)
    refine ⟨acc, s3 _ _ h1, by omega, (s1.trans s3).mut hD, acc ++ [.ref p], upd_same, by rw [List.length_append, hl]; rfl, fun j hj => ?_⟩
    have hne : ∀ q u, H'' q = some (.tup u) → q ≠ D := fun q u e z => by
      rw [z, s3 _ _ h1] at e
      cases e
    by_cases h : j < i
    · obtain ⟨q, e1, e2⟩ := ha j h
      have e3 := s3 _ _ e2
      exact ⟨q, by rw [List.getElem?_append_left (by omega)]; exact e1, by rw [upd_ne (hne q _ e3)]; exact e3⟩
    · have : j = i := by omega
      subst this
      exact ⟨p, by rw [List.getElem?_append_right (by omega), hl, Nat.sub_self]; rfl, by rw [upd_ne (hne p _ hp)]; exact hp⟩
  · have e : i = n := by omega
    subst e
    exact .inl ⟨Nat.le_refl _, hd H acc s1 h1 hl ha⟩
end Nl

set_option Elab.async false
set_option linter.all false
set_option maxRecDepth 100000
set_option maxHeartbeats 4000000
namespace Nl
open PySem PySem.Spec PyProof.Rows L2 L2H
/-! ### match over a tuple whose first item is a text -/
/-- the cases of a match, by the subject -/
structure PMs (X : Cx) (cs : List MatchCase) (t : V → TS) : Prop where
  run : ∀ (pins : List (Addr × Obj)) (s : Shared) (σ : L2.St) (H : Hp) (D : Ends) (v : V) (u : Value) (first : Bool), Inv X pins σ H s → RelV v u → t v D σ H → wpAny (model X.prog X.w) X.A (matchCases cs X.env u first) (SP X pins D) X.xe s
def mNil : V → TS := fun _ D σ H => D.nx σ H
theorem pm_nil {X : Cx} : PMs X [] mNil := ⟨fun pins s σ H D v u first I r h => wpAny_matchCases_nil ⟨σ, H, I, h⟩⟩
/-- the names of the other items go to their slots -/
def setAll : List Nat → List V → L2.St → L2.St
  | i :: is, y :: ys, σ => setAll is ys (σ.set i (some y))
  | _, _, σ => σ
inductive Caps (X : Cx) : List Pattern → List Nat → Prop
  | nil : Caps X [] []
  | cons {x : Str} {p : Pos} {ps : List Pattern} {i : Nat} {is : List Nat} (hi : X.N[i]? = some x) (hx : Loc X.env.scope x) (hf : X.fn x = true ∨ X.env.scope.names.lookup x = some .local) (h : Caps X ps is) : Caps X (.MatchAs none (some x) p :: ps) (i :: is)
def capB : List Pattern → List Value → List (Str × Value)
  | .MatchAs none (some x) _ :: ps, u :: us => (x, u) :: capB ps us
  | _, _ => []
theorem Caps.len {X : Cx} {ps : List Pattern} {is : List Nat} (c : Caps X ps is) : ps.length = is.length := by
  induction c with
  | nil => rfl
  | cons _ _ _ _ ih => rw [List.length_cons, List.length_cons, ih]
theorem caps_each {X : Cx} {M : Model} {A : Around} {E : Value → Shared → Prop} {env : Env} {ps : List Pattern} {is : List Nat} (c : Caps X ps is) : ∀ {us : List Value} {s : Shared} {Q : Option (List (Str × Value)) → Shared → Prop}, us.length = ps.length → Q (some (capB ps us)) s → wpAny M A (matchEach ps env us) Q E s := by
  induction c with
  | nil => exact fun _ h => wpAny_matchEach_nil h
  | cons hi hx hf c ih =>
    intro us s Q hl h
    cases us with
    | nil => cases hl
    | cons u us =>
      refine wpAny_matchEach_cons (wpAny_matchPattern_Capture ?_)
      exact ih (Nat.succ.inj hl) h
theorem caps_set {X : Cx} (hN : X.N.Nodup) {pins : List (Addr × Obj)} {H : Hp} {ps : List Pattern} {is : List Nat} (c : Caps X ps is) : ∀ {ys : List V} {us : List Value} {σ : L2.St} {s : Shared} {Q : Unit → Shared → Prop}, Vals ys us → us.length = ps.length → Inv X pins σ H s → (∀ s', Inv X pins (setAll is ys σ) H s' → Q () s') →
    wpAny (model X.prog X.w) X.A (assignInOrder ((capB ps us).map fun (n, _) => bindName X.env n) ((capB ps us).map (·.2))) Q X.xe s := by
  induction c with
  | nil => exact fun r hl I h => wpAny_assignInOrder_none (by
      cases r with
      | nil => exact h _ I
      | cons _ _ => cases hl)
  | cons hi hx hf c ih =>
    intro ys us σ s Q r hl I h
    cases r with
    | nil => cases hl
    | cons r rr =>
      refine wpAny_assignInOrder_more (wpAny_bindName (store_ok I hN hi hx r (fun s1 I1 => ?_) hf))
      exact ih rr (Nat.succ.inj hl) I1 h
def mSeq (K : PySem.W.Frag) (x : Str) (is : List Nat) (b : TS) (r : V → TS) : V → TS := fun v D σ H => ∃ (a : Addr) (z : Str) (ys : List V), v = .ref a ∧ SqT K H a (.str z :: ys) ∧ (ys.length = is.length ∧ z = x → b D (setAll is ys σ) H) ∧ (¬ (ys.length = is.length ∧ z = x) → r v D σ H)
theorem pm_seq {X : Cx} (hc : X.calm = true) (hN : X.N.Nodup) {x : Str} {j : Nat} {p1 p2 p3 : Pos} {ps : List Pattern} {is : List Nat} {body : List Stmt} {rest : List MatchCase} {b : TS} {r : V → TS} (hC : Caps X ps is) (hb : PSs X body b) (hr : PMs X rest r)
    (hs : (Pattern.MatchValue (.Constant (.str x) j p1) p2 :: ps).findIdx? (·.isStar) = none := by rfl) (hw : ((Pattern.MatchValue (.Constant (.str x) j p1) p2 :: ps).all fun p => p.isWildcard || (p.isStar && p.names.isEmpty)) = false := by rfl) :
    PMs X (⟨.MatchSequence (.MatchValue (.Constant (.str x) j p1) p2 :: ps) p3, none, body⟩ :: rest) (mSeq X.K x is b r) := by
  refine ⟨fun pins s σ H D v u first I rv h => ?_⟩
  obtain ⟨a, z, ys, rfl, hS, h1, h0⟩ := h
  cases (show u = Value.ref a from rv)
  obtain ⟨its, ri, ht, hz⟩ := I.tuple hS
  have hfit : ((its.toArray.size : Nat) : Int) < 2 ^ 63 := by
    have e := ri.length
    rw [List.size_toArray, ← e]
    have : sizeLine < 2 ^ 63 := by decide
    omega
  cases ri with
  | @cons _ v0 _ us r0 rr =>
    have hlen := rr.length
    refine wpAny_matchCases_cons ?_
    by_cases hn : ys.length = is.length
    · have hps : (v0 :: us).toArray.size = (Pattern.MatchValue (.Constant (.str x) j p1) p2 :: ps).length := by
        rw [List.size_toArray, List.length_cons, List.length_cons, hC.len]
        omega
      refine matchSeq_tuple_hit ht hfit hps ?_ hs hw
      rw [← hps]
      refine unpackItems_tuple (I.ok.hd hc) ht fun h' hx => ?_
      have I1 : Inv X pins σ H { s with heap := h', toks := s.toks + 1 + 1 } := I.kept (t' := s.toks + 1 + 1) fun b o e => hx b o (Nat.ne_of_lt (Heap.lt_size e)) e
      refine wpAny_matchEach_cons (wpAny_matchPattern_Value ?_)
      refine thn ((pe_str (x := x) (j := j) (pos := p1)).run pins _ σ H (fun y H1 => y = .str x ∧ H1 = H) I1 ⟨rfl, rfl⟩) fun u1 s1 ⟨y, H1, I2, ry, ey, eH⟩ => ?_
      subst ey eH
      refine thn (op_eq pins s1 σ _ (.str z) (.str x) v0 u1 (fun q H2 => q = .bl (decide (V.str z = V.str x)) ∧ H2 = H1) I2 r0 ry ⟨rfl, rfl, rfl⟩) fun c s2 ⟨q, H2, I3, rq, eq, eH⟩ => ?_
      subst eq eH
      cases rq
      refine wpAny_truthy_bool ?_
      by_cases hzx : z = x
      · rw [if_pos (decide_eq_true (congrArg V.str hzx))]
        refine caps_each hC (by rw [hC.len]; omega) ?_
        refine caps_set hN hC rr (by rw [hC.len]; omega) I3 fun s3 I4 => ?_
        exact hb.run pins s3 _ _ D I4 (h1 ⟨hn, hzx⟩)
      · rw [if_neg (fun e => hzx (V.str.inj (of_decide_eq_true e)))]
        exact hr.run pins s2 σ _ D (.ref a) _ _ I3 rfl (h0 fun e => hzx e.2)
    · have hps : (v0 :: us).toArray.size ≠ (Pattern.MatchValue (.Constant (.str x) j p1) p2 :: ps).length := by
        rw [List.size_toArray, List.length_cons, List.length_cons, hC.len]
        omega
      exact matchSeq_tuple_miss ht hfit hps (hr.run pins _ σ _ D (.ref a) _ _ (I.tok _) rfl (h0 fun e => hn e.1)) hs hw
/-- match e: .. -/
def tMatch (te : TE) (t : V → TS) : TS := fun D σ H => te σ H fun v H1 => t v D σ H1
theorem ps_match {X : Cx} {e : Expr} {cs : List MatchCase} {pos : Pos} {te : TE} {t : V → TS} (he : PE X e te) (hm : PMs X cs t) : PS X (.Match e cs pos) (tMatch te t) := by
  refine ⟨fun pins s σ H D I h => ?_⟩
  exact wpAny_Match (thn (he.run pins s σ H _ I h) fun u s1 ⟨v, H1, I1, r, q⟩ => hm.run pins s1 σ H1 D v u true I1 r q)
end Nl

set_option Elab.async false
set_option linter.all false
set_option maxRecDepth 100000
set_option maxHeartbeats 4000000
namespace Nl
open PySem PySem.Spec PyProof.Rows L2 L2H
/-! ### a method of a class of the top, as it stands -/
def MethAt (K : PySem.W.Frag) (C : Addr) (m qual : Str) (st : Stmt) : Prop :=
  ∃ (f : Addr) (oc : Value) (od an : Option Addr) (osl : Array (Option Value)) (kV doc pm cdv ct : Value),
    PySem.W.findIn K (.ref C) m = some (some (.ref f)) ∧ PySem.W.isFn K (.ref f) = true ∧
    K.lookup f = some ⟨oc, od, .func (PySem.W.fnOf m qual (defArgs st) (defBody st) (defScope st) .none kV doc pm an cdv ct), osl⟩ ∧
    PySem.W.codeIn K cdv qual = true ∧ PySem.W.keepIn K (.ref f) = true
theorem meth_mk {K : PySem.W.Frag} {C : Addr} {m qual : Str} {st : Stmt} {f : Addr} {oc : Value} {od an : Option Addr} {osl : Array (Option Value)} {kV doc pm cdv ct : Value} (a : PySem.W.findIn K (.ref C) m = some (some (.ref f))) (i : PySem.W.isFn K (.ref f) = true)
    (l : K.lookup f = some ⟨oc, od, .func (PySem.W.fnOf m qual (defArgs st) (defBody st) (defScope st) .none kV doc pm an cdv ct), osl⟩) (c : PySem.W.codeIn K cdv qual = true) (k : PySem.W.keepIn K (.ref f) = true) : MethAt K C m qual st :=
  ⟨f, oc, od, an, osl, kV, doc, pm, cdv, ct, a, i, l, c, k⟩
theorem cls_mk {K : PySem.W.Frag} {C : Addr} (pg : PySem.W.plainGet K C Str.empty = true) (hd : PySem.W.hasDictIn K C = true) (po : PySem.W.plainOver K C = true) (sa : PySem.W.findIn K (.ref C) "__setattr__" = some (some (.builtin "object.__setattr__"))) : Cls K C := ⟨pg, hd, po, sa⟩
section
variable {P : Program} {w : World} {K : PySem.W.Frag} {mg : Str → Option Value} {base : Heap}
abbrev BindM (m qual : Str) (st : Stmt) (ps : List Str) : Prop := ∀ (kV doc pm : Value) (an : Option Addr) (cdv ct : Value) (us : List Value), us.length = ps.length →
  bindArgs (PySem.W.fnOf m qual (defArgs st) (defBody st) (defScope st) .none kV doc pm an cdv ct) ⟨us, []⟩ = pure (ps.zip us)
theorem met_of {C : Addr} {m qual : Str} {st : Stmt} {N ps : List Str} {k : Nat} {sp : Sp} (c : Cls K C) (D : MethAt K C m qual st) (S : FnScope N ps (defScope st)) (b : BindM m qual st ps) (len : ∀ vs H Q E, sp vs H Q E → vs.length = ps.length)
    (hbody : ∀ (f : Addr) (cdv : Value) (A : Around) (outer : List Env) (s : Shared) (H : Hp) (vs : List V) (Q : VK) (E : XK), Room k (A.deeper (envOfC qual (defScope st) s.heap.objs.size f cdv)) → sp vs H Q E →
      ∃ t, PSs (cxOf CX0 P w K mg base N qual (defScope st) f cdv A outer s H E).nox (defBody st) t ∧ t { nx := fun _ H' => Q .non H', rt := Q } (start N vs) H) : C8.Met P w K mg base (k + 1) C m sp [] := by
  obtain ⟨f, oc, od, an, osl, kV, doc, pm, cdv, ct, a, i, l, cc, kp⟩ := D
  have F := fun_mk (st := st) l cc kp
  exact ⟨f, _, ps, [], c, ⟨a, i, kp⟩, F.ok S len (fun cdv A outer s H vs Q E hr h => hbody f cdv A outer s H vs Q E hr h), F.binds b, .nil⟩
theorem mak_of {C : Addr} {x qual : Str} {st : Stmt} {N ps : List Str} {k : Nat} {sp : Sp} (mk : PySem.W.makesIn K C = true) (kc : PySem.W.keepIn K (.ref C) = true) (hm : mg x = some (.ref C)) (D : MethAt K C "__init__" qual st) (S : FnScope N ps (defScope st)) (b : BindM "__init__" qual st ps) (len : ∀ vs H Q E, sp vs H Q E → vs.length = ps.length)
    (hbody : ∀ (f : Addr) (cdv : Value) (A : Around) (outer : List Env) (s : Shared) (H : Hp) (vs : List V) (Q : VK) (E : XK), Room k (A.deeper (envOfC qual (defScope st) s.heap.objs.size f cdv)) → sp vs H Q E →
      ∃ t, PSs (cxOf CX0 P w K mg base N qual (defScope st) f cdv A outer s H E).nox (defBody st) t ∧ t { nx := fun _ H' => Q .non H', rt := Q } (start N vs) H) : C8.Mak P w K mg base (k + 1) x C sp [] := by
  obtain ⟨f, oc, od, an, osl, kV, doc, pm, cdv, ct, a, i, l, cc, kp⟩ := D
  have F := fun_mk (st := st) l cc kp
  exact ⟨f, _, ps, [], ⟨mk, a, i, kc⟩, F.ok S len (fun cdv A outer s H vs Q E hr h => hbody f cdv A outer s H vs Q E hr h), hm, F.binds b, .nil⟩
end
/-- all but two objects stay -/
def Fr (H H' : Hp) (a b : Addr) : Prop := ∀ q o, H q = some o → q ≠ a → q ≠ b → H' q = some o
end Nl

set_option Elab.async false
set_option linter.all false
set_option maxRecDepth 100000
set_option maxHeartbeats 4000000
namespace Nl
open PySem PySem.Spec PyProof.Rows L2 L2H
section
variable {P : Program} {w : World} {K : PySem.W.Frag} {mg : Str → Option Value} {base : Heap}
theorem Cal.imp {CX : CXT} {k : Nat} {x : Str} {sp sp2 : Sp} (c : Cal P w K mg base CX k x sp) (h : ∀ vs H Q E, sp2 vs H Q E → sp vs H Q E) : Cal P w K mg base CX k x sp2 := by
  obtain ⟨f, fd, ps, F, r⟩ := c.ex
  exact ⟨f, fd, ps, F.imp h, r⟩
end
/-- the type of a thing that is no object of the program's own -/
def spWhole (K : PySem.W.Frag) : Sp := fun vs H Q _ => ∃ (v : V) (n : String), vs = [v] ∧ TyX K H v (.type n) ∧ kitB n "int" = some (decide (n = "int" ∨ n = "bool")) ∧ kitB n "bool" = some (decide (n = "bool")) ∧ Q (.bl (decide (n = "int"))) H
/-- a whole number from lo to hi, any thing at all -/
def wholeV (v : V) (lo hi : Int) : Bool := match v with
  | .int i => decide (lo ≤ i) && decide (i ≤ hi)
  | _ => false
/-- what is asked of a thing of any type that is no object of the program's own -/
def AnyT (K : PySem.W.Frag) (H : Hp) (v : V) : Prop := ∃ n : String, TyX K H v (.type n) ∧ kitB n "int" = some (decide (n = "int" ∨ n = "bool")) ∧ kitB n "bool" = some (decide (n = "bool")) ∧ (n = "int" → ∃ i, v = .int i) ∧ ∀ i, v = .int i → n = "int"
def spIsWholeV (K : PySem.W.Frag) : Sp := fun vs H Q _ => ∃ (v : V) (lo hi : Int), vs = [v, .int lo, .int hi] ∧ AnyT K H v ∧ Q (.bl (wholeV v lo hi)) H
def spIsWhole (K : PySem.W.Frag) : Sp := fun vs H Q _ => ∃ (v : V) (d : PyData) (lo hi : Int), vs = [v, .int lo, .int hi] ∧ Dp K H v d ∧ Q (.bl (wholeIn d lo hi)) H
theorem any_dp {K : PySem.W.Frag} {H : Hp} {v : V} {d : PyData} (h : Dp K H v d) : AnyT K H v := by
  refine ⟨tyN d, dp_ty h, kit_int d, kit_bool d, fun e => ?_, fun i e => ?_⟩
  · cases h with
    | int i => exact ⟨i, rfl⟩
    | _ => simp [tyN] at e
  · subst e
    cases h
    rfl
theorem any_int {K : PySem.W.Frag} {H : Hp} (i : Int) : AnyT K H (.int i) := any_dp (.int i)
theorem whole_dp {K : PySem.W.Frag} {H : Hp} {v : V} {d : PyData} (h : Dp K H v d) (lo hi : Int) : wholeV v lo hi = wholeIn d lo hi := by
  cases h <;> rfl
/-! ### data that may be laid -/
theorem canAll {ds : List PyData} (h : ∀ d ∈ ds, PyData.canLay0 d = true) : PyData.canLayAll0 ds = true := by
  induction ds with
  | nil => rfl
  | cons d ds ih =>
    show (PyData.canLay0 d && PyData.canLayAll0 ds) = true
    rw [h d List.mem_cons_self, ih fun e he => h e (List.mem_cons_of_mem _ he)]
    rfl
theorem depAll {n : Nat} {ds : List PyData} (h : ∀ d ∈ ds, PyData.depth d ≤ n) : PyData.depthAll ds ≤ n := by
  induction ds with
  | nil => exact Nat.zero_le _
  | cons d ds ih =>
    rw [PyData.depthAll]
    exact Nat.max_le.mpr ⟨h d List.mem_cons_self, ih fun e he => h e (List.mem_cons_of_mem _ he)⟩
/-- texts that may be laid, not deeper than n -/
def okD (n : Nat) (d : PyData) : Prop := PyData.canLay0 d = true ∧ PyData.depth d ≤ n
theorem okD.mono {n m : Nat} {d : PyData} (h : okD n d) (e : n ≤ m) : okD m d := ⟨h.1, Nat.le_trans h.2 e⟩
theorem okD.tup {n : Nat} {ds : List PyData} (h : ∀ d ∈ ds, okD n d) : okD (n + 1) (.tuple ds) :=
  ⟨canAll fun d hd => (h d hd).1, by rw [PyData.depth]; exact Nat.succ_le_succ (depAll fun d hd => (h d hd).2)⟩
theorem okD.lst {n : Nat} {ds : List PyData} (h : ∀ d ∈ ds, okD n d) : okD (n + 1) (.list ds) :=
  ⟨canAll fun d hd => (h d hd).1, by rw [PyData.depth]; exact Nat.succ_le_succ (depAll fun d hd => (h d hd).2)⟩
theorem okD.shaped {n : Nat} {d : PyData} (h : okD n d) (e : n ≤ 64) : SeqAt.shaped d = true := by
  unfold SeqAt.shaped
  rw [h.1, decide_eq_true (Nat.le_trans h.2 e)]
  rfl
theorem okD.int (n : Nat) (i : Int) : okD n (.int i) := ⟨rfl, Nat.zero_le _⟩
theorem okD.bl (n : Nat) (i : Bool) : okD n (.bool i) := ⟨rfl, Nat.zero_le _⟩
theorem okD.non (n : Nat) : okD n .none := ⟨rfl, Nat.zero_le _⟩
theorem okD.str (n : Nat) {z : Str} (h : PyData.strOk z = true) : okD n (.str z) := ⟨h, Nat.zero_le _⟩
theorem okD.ints {n : Nat} (ns : List Int) : ∀ d ∈ (ns.map V.int).map dOf, okD n d := fun d hd => by
  rw [List.map_map] at hd
  obtain ⟨i, _, rfl⟩ := List.mem_map.mp hd
  exact .int _ _
theorem dpA_int {K : PySem.W.Frag} {H : Hp} (ns : List Int) : DpAll K H (ns.map V.int) ((ns.map V.int).map dOf) := dpAll_flat2 (by rw [List.all_map]; exact List.all_eq_true.mpr fun _ _ => rfl)
/-- of each place one thing: a list of them -/
theorem choose_list {α : Type} (P : Nat → α → Prop) : ∀ n : Nat, (∀ j, j < n → ∃ x, P j x) → ∃ l : List α, l.length = n ∧ ∀ j x, l[j]? = some x → P j x
  | 0, _ => ⟨[], rfl, fun j x e => by simp at e⟩
  | n + 1, h => by
    obtain ⟨l, hl, hp⟩ := choose_list P n fun j hj => h j (Nat.lt_succ_of_lt hj)
    obtain ⟨y, hy⟩ := h n (Nat.lt_succ_self n)
    refine ⟨l ++ [y], by rw [List.length_append, hl]; rfl, fun j x e => ?_⟩
    by_cases hj : j < l.length
    · rw [List.getElem?_append_left hj] at e
      exact hp j x e
    · rw [List.getElem?_append_right (by omega)] at e
      have h0 : j - l.length = 0 := by
        have := (List.getElem?_eq_some_iff.mp e).1
        simp only [List.length_singleton] at this
        omega
      rw [h0] at e
      cases e
      rw [show j = n by omega]
      exact hy
/-- [a new tuple for x in a list]; of each tuple R is known -/
theorem lc_le {K : PySem.W.Frag} {g : TG} {tt : TT} {te : TE} {vs : List Nat} {σ : L2.St} {H1 : Hp} {D a : Addr} {Qd : Hp → Prop} {xs : List V} (R : Nat → List V → Prop) (hD : H1 D = none) (hq : SqL K H1 a xs) (hz : xs.length < sizeLine)
    (hs : ∀ i x H, xs[i]? = some x → Same H1 H → ∀ (k1 : VK) (k0 : Hp → Prop), (∀ p fx H', R i fx → H' p = some (.tup fx) → Same H H' → k1 (.ref p) H') →
      g x (wipe σ vs) H fun σ2 H2 => wipe σ2 vs = wipe σ vs ∧ tt σ2 H2 fun b H3 => if b = true then te σ2 H3 k1 else k0 H3)
    (hd : ∀ H acc, Same H1 H → H D = some (.lst acc) → acc.length = xs.length → (∀ j, j < xs.length → ∃ p fx, acc[j]? = some (.ref p) ∧ H p = some (.tup fx) ∧ R j fx) → Qd H) : LcW (Itl K a) g tt te vs σ H1 D Qd := by
  refine ⟨fun i m H => m = xs.length - i ∧ i ≤ xs.length ∧ Same H1 H ∧ ∃ acc, H D = some (.lst acc) ∧ acc.length = i ∧ ∀ j, j < i → ∃ p fx, acc[j]? = some (.ref p) ∧ H p = some (.tup fx) ∧ R j fx, ⟨xs.length, by simp, Nat.zero_le _, Same.new hD, [], upd_same, rfl, fun j h => absurd h (Nat.not_lt_zero _)⟩, ?_⟩
  rintro i m H ⟨rfl, hi, s1, acc, h1, hl, ha⟩
  by_cases hlt : i < xs.length
  · refine .inr ⟨⟨xs, xs[i], s1.seq hq, by simp [hlt]⟩, fun H' => Same H1 H' ∧ ∃ acc, H' D = some (.lst acc) ∧ acc.length = i + 1 ∧ ∀ j, j < i + 1 → ∃ p fx, acc[j]? = some (.ref p) ∧ H' p = some (.tup fx) ∧ R j fx, fun H' p' => ⟨xs.length - (i + 1), by omega, rfl, hlt, p'⟩, fun x H' y => ?_⟩
    obtain ⟨e, y⟩ := y
    subst e
    refine hs i x _ (y xs (s1.seq hq)) s1 _ _ (fun p fx H'' hR hp s3 => ?_)
    refine ⟨acc, s3 _ _ h1, by omega, (s1.trans s3).mut hD, acc ++ [.ref p], upd_same, by rw [List.length_append, hl]; rfl, fun j hj => ?_⟩
    have hne : ∀ q u, H'' q = some (.tup u) → q ≠ D := fun q u e z => by
      rw [z, s3 _ _ h1] at e
      cases e
    by_cases h : j < i
    · obtain ⟨q, fy, e1, e2, e4⟩ := ha j h
      have e3 := s3 _ _ e2
      exact ⟨q, fy, by rw [List.getElem?_append_left (by omega)]; exact e1, by rw [upd_ne (hne q _ e3)]; exact e3, e4⟩
    · have : j = i := by omega
      subst this
      exact ⟨p, fx, by rw [List.getElem?_append_right (by omega), hl, Nat.sub_self]; rfl, by rw [upd_ne (hne p _ hp)]; exact hp, hR⟩
  · have e : i = xs.length := by omega
    subst e
    exact .inl ⟨⟨xs, s1.seq hq, Nat.le_refl _⟩, hd H acc s1 h1 hl ha⟩
/-- a slice of a list of whole numbers -/
theorem cutV_int (ns : List Int) (lo hi : Option Int) : ∃ cs : List Int, cutV (ns.map V.int) lo hi = cs.map V.int ∧ cs.length ≤ ns.length := by
  unfold cutV
  rw [← List.map_drop, ← List.map_take]
  refine ⟨_, rfl, ?_⟩
  rw [List.length_take, List.length_drop]
  omega
end Nl

set_option Elab.async false
set_option linter.all false
set_option maxRecDepth 100000
set_option maxHeartbeats 4000000
namespace Nl
open PySem PySem.Spec PyProof.Rows L2 L2H
def top (i : Nat) : Stmt := PySem.Challenge.pw_nearlines_k03_rows_that_fit.main.body.getD i (.Pass ⟨0, 0, 0, 0⟩)
theorem sz_ok {n : Nat} (h : Nat.ble n 1000 = true) : n ≤ sizeLine := Nat.le_trans (Nat.le_of_ble_eq_true h) (by decide)
local macro_rules | `(tactic| walk_at "rd") => `(tactic| first
  | refine ⟨_, rfl, ?_⟩
  | refine ⟨_, _, rfl, rfl, ⟨by decide, by decide⟩, ?_⟩
  | refine ⟨_, _, rfl, rfl, (by show (0 : Int) < _; decide), ?_⟩
  | refine ⟨_, _, rfl, rfl, .inr ⟨by decide, by decide⟩, ?_⟩
  | refine ⟨_, _, rfl, rfl, ?_⟩
  | refine ⟨rfl, ?_⟩)
theorem hu64_of {k : Nat} {A : Around} (hr : Room k A) : A.units + 64 < cLine := by
  have := hr.un
  omega

structure Txt (K : PySem.W.Frag) (w : World) (mg : Str → Option Value) : Prop extends Top K mg where
  len : mg "len" = none
  range : mg "range" = none
  isinstance : mg "isinstance" = none
  all : mg "all" = none
  int : mg "int" = none
  str : mg "str" = none
  bool : mg "bool" = none
  tuple : mg "tuple" = none
  list : mg "list" = none
  zip : mg "zip" = none
  enumerate : mg "enumerate" = none
section
variable {P : Program} {w : World} {K : PySem.W.Frag} {mg : Str → Option Value} {base : Heap}
abbrev s__law_cell_at : Stmt := top 18
abbrev N__law_cell_at : List Str := ["_law_script", "_law_k"]
theorem S__law_cell_at : FnScope N__law_cell_at ["_law_script", "_law_k"] (defScope s__law_cell_at) := ⟨rfl, rfl, rfl, by decide +kernel, rfl, by decide +kernel, by decide +kernel⟩

theorem c_cell_at (T : Txt K w mg) (D : DefAt K "_law_cell_at" s__law_cell_at) : Cal P w K mg base CX0 1 "_law_cell_at" (spCellAt K) := by
  have S := S__law_cell_at
  refine cal_of T.toTop D S (fun _ _ _ _ _ _ us hl => match us, hl with | [_, _], _ => rfl) (fun vs H Q E h => ?_) (fun f cdv A outer s H vs Q E hr h => ?_)
  · obtain ⟨a, ns, k, rfl, _⟩ := h
    rfl
  · obtain ⟨a, ns, k, rfl, hS, hk, q⟩ := h
    refine ⟨_, (pss_cons (ps_if (pt_cmpR op_lt (pv 1) (pe_callB call_len_seq (by rfl) T.len PySem.boot_len (pa_cons (pv 0) pa_nil)) (nomark _)) (pss_one (ps_ret (pe_ix ix_list (pv 0) (pv 1) (fun _ _ => rfl)))) pss_nil)
  (pss_one (ps_ret pe_int))), ?_⟩
    refine ⟨_, rfl, _, rfl, a, _, rfl, .inl hS, _, _, rfl, rfl, _, rfl, ?_⟩
    rw [List.length_map]
    refine ite2 (fun h => ?_) (fun h => ?_)
    · have h := of_decide_eq_true h
      exact ⟨_, rfl, _, rfl, a, _, _, _, rfl, rfl, hS, at_ints hk h, q⟩
    · have h : ¬ k < (ns.length : Int) := fun z => h (decide_eq_true z)
      have e : cellAt ns k = 0 := by
        unfold cellAt
        rw [List.getD_eq_getElem?_getD, List.getElem?_eq_none (by omega)]; rfl
      rw [e] at q
      exact q

abbrev s__law_mixed : Stmt := top 20
abbrev N__law_mixed : List Str := ["_law_cell"]
theorem S__law_mixed : FnScope N__law_mixed ["_law_cell"] (defScope s__law_mixed) := ⟨rfl, rfl, rfl, by decide +kernel, rfl, by decide +kernel, by decide +kernel⟩

theorem c_mixed (T : Txt K w mg) (D : DefAt K "_law_mixed" s__law_mixed) : Cal P w K mg base CX0 1 "_law_mixed" spMixed := by
  have S := S__law_mixed
  refine cal_of T.toTop D S (fun _ _ _ _ _ _ us hl => match us, hl with | [_], _ => rfl) (fun vs H Q E h => ?_) (fun f cdv A outer s H vs Q E hr h => ?_)
  · obtain ⟨c, rfl, _⟩ := h
    rfl
  · obtain ⟨c, rfl, q⟩ := h
    refine ⟨_, (pss_one (ps_ret (pe_op op_mod (pe_op op_mul (pv 0) pe_int) pe_int))), ?_⟩
    repeat walk_at "rd"
    exact q

abbrev s__law_whole : Stmt := top 19
abbrev N__law_whole : List Str := ["_law_found"]
theorem S__law_whole : FnScope N__law_whole ["_law_found"] (defScope s__law_whole) := ⟨rfl, rfl, rfl, by decide +kernel, rfl, by decide +kernel, by decide +kernel⟩

theorem c_whole (T : Txt K w mg) (D : DefAt K "_law_whole" s__law_whole) : Cal P w K mg base CX0 1 "_law_whole" (spWhole K) := by
  have S := S__law_whole
  refine cal_of T.toTop D S (fun _ _ _ _ _ _ us hl => match us, hl with | [_], _ => rfl) (fun vs H Q E h => ?_) (fun f cdv A outer s H vs Q E hr h => ?_)
  · obtain ⟨v, n, rfl, _⟩ := h
    rfl
  · obtain ⟨v, n, rfl, ty, k1, k2, q⟩ := h
    refine ⟨_, (pss_one (ps_ret (pe_and (pe_callB call_isi (by rfl) T.isinstance (by decide +kernel) (pa_cons (pv 0) (pa_cons ((pe_bltn (v := .ty "int") (u := .type "int") rfl T.int (by decide +kernel) rfl)) pa_nil))) (pe_one (pe_not (pe_callB call_isi (by rfl) T.isinstance (by decide +kernel) (pa_cons (pv 0) (pa_cons ((pe_bltn (v := .ty "bool") (u := .type "bool") rfl T.bool (by decide +kernel) rfl)) pa_nil)))))))), ?_⟩
    refine ⟨_, rfl, _, _, _, _, _, rfl, .ty _, ty, kit_ty k1, _, rfl, ?_⟩
    refine ite2 (fun h => ?_) (fun h => ?_)
    · refine ⟨_, rfl, _, _, _, _, _, rfl, .ty _, ty, kit_ty k2, _, rfl, ?_⟩
      have h := of_decide_eq_true h
      have e : (!decide (n = "bool")) = decide (n = "int") := by
        rcases h with h | h <;> subst h <;> rfl
      show Q (V.bl (!decide (n = "bool"))) H
      rw [e]
      exact q
    · have e : decide (n = "int") = false := decide_eq_false fun z => h (decide_eq_true (.inl z))
      rw [e] at q
      exact q

abbrev s__law_alone : Stmt := top 26
abbrev N__law_alone : List Str := ["_law_e", "_law_own", "_law_some"]
theorem S__law_alone : FnScope N__law_alone ["_law_e", "_law_own"] (defScope s__law_alone) := ⟨rfl, rfl, rfl, by decide +kernel, rfl, by decide +kernel, by decide +kernel⟩

theorem c_alone {cs : List Addr} {C0 C1 C2 C3 C4 cL : Addr} (ecs : cs = [C0, C1, C2, C3, C4]) (T : Txt K w mg) (D : DefAt K "_law_alone" s__law_alone) (g0 : mg "BadRow" = some (.ref C0)) (g1 : mg "BadBoxes" = some (.ref C1)) (g2 : mg "BadShape" = some (.ref C2)) (g3 : mg "NoBox" = some (.ref C3)) (g4 : mg "BadPlan" = some (.ref C4)) (gL : mg "LineError" = some (.ref cL)) (nV : mg "ValueError" = none) :
    CalS P w K mg base 1 "_law_alone" (spAlone K cs cL) := by
  have S := S__law_alone
  refine calS_of T.toTop D S (fun _ _ _ _ _ _ us hl => match us, hl with | [_, _], _ => rfl) (fun D a vs H Q E h => ?_) (fun f cdv A outer s H vs Q E p D hz hf hr h => ?_)
  · obtain ⟨own, rfl, _⟩ := h
    rfl
  · obtain ⟨own, rfl, ho, hA, q⟩ := h
    subst ecs
    refine ⟨_, (pss_cons (ps_set (i := 2) S.nd rfl (Or.inl rfl) (pe_lst (pa_cons (pe_callB (call_isP (q := p) List.mem_cons_self hA.ex hz hf) (by rfl) T.isinstance (by decide +kernel) (pa_cons (pv 0) (pa_cons ((pe_glob (v := .ref C0) rfl g0 rfl)) pa_nil))) (pa_cons (pe_callB (call_isP (q := p) List.mem_cons_self hA.ex hz hf) (by rfl) T.isinstance (by decide +kernel) (pa_cons (pv 0) (pa_cons ((pe_glob (v := .ref C1) rfl g1 rfl)) pa_nil))) (pa_cons (pe_callB (call_isP (q := p) List.mem_cons_self hA.ex hz hf) (by rfl) T.isinstance (by decide +kernel) (pa_cons (pv 0) (pa_cons ((pe_glob (v := .ref C2) rfl g2 rfl)) pa_nil))) (pa_cons (pe_callB (call_isP (q := p) List.mem_cons_self hA.ex hz hf) (by rfl) T.isinstance (by decide +kernel) (pa_cons (pv 0) (pa_cons ((pe_glob (v := .ref C3) rfl g3 rfl)) pa_nil))) pa_nil))))))
  (pss_cons (ps_expr (pe_bm PySem.F.plainAttrs_list PySem.F.slot_list_append PySem.F.type_list_append mt_append (pv 2) (pa_cons (pe_callB (call_isP (q := p) List.mem_cons_self hA.ex hz hf) (by rfl) T.isinstance (by decide +kernel) (pa_cons (pv 0) (pa_cons ((pe_glob (v := .ref C4) rfl g4 rfl)) pa_nil))) pa_nil)))
  (pss_one (ps_ret (pe_and (pe_cmpR op_eq (pe_bm PySem.F.plainAttrs_list PySem.F.slot_list_count PySem.F.type_list_count mt_countV (pv 2) (pa_cons pe_bl pa_nil)) pe_int (nomark _)) (pe_and (pe_ix ix_list (pv 2) (pv 1) (fun _ _ => rfl)) (pe_and (pe_callB (call_isP (q := p) List.mem_cons_self hA.ex hz hf) (by rfl) T.isinstance (by decide +kernel) (pa_cons (pv 0) (pa_cons ((pe_glob (v := .ref cL) rfl gL rfl)) pa_nil))) (pe_one (pe_callB (call_isP (q := p) List.mem_cons_self hA.ex hz hf) (by rfl) T.isinstance (by decide +kernel) (pa_cons (pv 0) (pa_cons ((pe_bltn (v := .ty "ValueError") (u := .type "ValueError") rfl nV (by decide +kernel) rfl)) pa_nil))))))))))), ?_⟩
    have ref1 : ∀ c : Addr, ∀ u, RelV (.ref c) u → u = .ref c := fun _ _ h => h
    refine ⟨_, rfl, _, _, _, rfl, ref1 _, hA.k 0 _ rfl, ?_⟩
    refine ⟨_, rfl, _, _, _, rfl, ref1 _, hA.k 1 _ rfl, ?_⟩
    refine ⟨_, rfl, _, _, _, rfl, ref1 _, hA.k 2 _ rfl, ?_⟩
    refine ⟨_, rfl, _, _, _, rfl, ref1 _, hA.k 3 _ rfl, ?_⟩
    refine ⟨sz_ok rfl, fun p1 n1 => ?_⟩
    refine ⟨_, rfl, .inl ⟨rfl, _, SqL.of upd_same⟩, _, rfl, _, _, _, rfl, ref1 _, hA.k 4 _ rfl, p1, _, _, rfl, rfl, upd_same, Nat.lt_of_lt_of_le (by simp : _ < 10) (by decide), ?_⟩
    have s1 := (Same.new (o := .lst [.bl (decide (0 = own)), .bl (decide (1 = own)), .bl (decide (2 = own)), .bl (decide (3 = own))]) n1).mut (o := .lst ([.bl (decide (0 = own)), .bl (decide (1 = own)), .bl (decide (2 = own)), .bl (decide (3 = own))] ++ [.bl (decide (4 = own))])) n1
    refine ⟨_, rfl, .inl ⟨rfl, _, SqL.of upd_same⟩, p1, _, .bl true, rfl, rfl, SqL.of upd_same, rfl, rfl, rfl, _, rfl, ?_⟩
    have h5 : own = 0 ∨ own = 1 ∨ own = 2 ∨ own = 3 ∨ own = 4 := by omega
    rcases h5 with rfl | rfl | rfl | rfl | rfl <;> exact ⟨_, rfl, _, rfl, p1, _, _, .bl true, rfl, rfl, SqL.of upd_same, rfl, _, rfl, _, rfl, _, _, _, rfl, ref1 _, hA.line, _, rfl, _, rfl, _, _, _, rfl, fun _ h => h, hA.val, q _ s1⟩

def sTab : List (Str × List Str) := [("set", ["box", "number"]), ("copy", ["box", "box"]), ("add", ["box", "box", "box"]), ("sub", ["box", "box", "box"]), ("fetch", ["box", "box"]), ("store", ["box", "box"]), ("less", ["box", "box", "place"]), ("jump", ["place"]), ("tell", ["box"])]
def shapeOf (z : Str) : Option (List Str) := sTab.lookup z
structure Shapes (K : PySem.W.Frag) (w : World) (mg : Str → Option Value) (dS : Addr) : Prop where
  g : mg "SHAPES" = some (.ref dS)
  d : ∃ es n, KDict K w dS es n
  no : ∀ z, shapeOf z = none → PySem.W.nsIn K dS z = some none
  yes : ∀ z l, shapeOf z = some l → ∃ t, PySem.W.nsIn K dS z = some (some (.ref t)) ∧ ∀ H, SqT K H t (l.map V.str)
theorem Shapes.get {K : PySem.W.Frag} {w : World} {mg : Str → Option Value} {dS : Addr} (Z : Shapes K w mg dS) {z : Str} {l : List Str} (h : shapeOf z = some l) : ∃ t, KDct K w dS z (.ref t) ∧ ∀ H, SqT K H t (l.map V.str) := by
  obtain ⟨es, n, D⟩ := Z.d
  obtain ⟨t, e, q⟩ := Z.yes z l h
  exact ⟨t, ⟨es, n, _, D.at_, D.lit, e, rfl⟩, q⟩
theorem sTab_cases {P : Str → List Str → Prop} (h : ∀ q ∈ sTab, P q.1 q.2) {z : Str} {l : List Str} (e : shapeOf z = some l) : P z l := by
  have m := PySem.mem_of_lookup (show sTab.lookup z = some l from e)
  exact h _ m
theorem shape_len {z : Str} {l : List Str} (e : shapeOf z = some l) : 1 ≤ l.length ∧ l.length ≤ 3 := sTab_cases (P := fun _ l => 1 ≤ l.length ∧ l.length ≤ 3) (by decide) e
theorem shape_word {z : Str} {l : List Str} (e : shapeOf z = some l) : z.length ≤ 5 := sTab_cases (P := fun z _ => z.length ≤ 5) (by decide +kernel) e
structure ExcT (K : PySem.W.Frag) (mg : Str → Option Value) (x : Str) (C : Addr) : Prop where
  g : mg x = some (.ref C)
  x : PySem.W.excIn K C [.type "ValueError", .type "Exception", .type "BaseException", .type "object"] "ValueError.__new__" = true
  k : PySem.W.keepIn K (.ref C) = true
  b : PySem.W.subIn K (.ref C) (.type "BaseException") = some true
  t : PySem.W.typeIn K (.ref C) = some (.type "type")

abbrev s_is_any_whole : Stmt := top 11
abbrev N_is_any_whole : List Str := ["thing"]
theorem S_is_any_whole : FnScope N_is_any_whole ["thing"] (defScope s_is_any_whole) := ⟨rfl, rfl, rfl, by decide +kernel, rfl, by decide +kernel, by decide +kernel⟩

theorem c_any_whole (T : Txt K w mg) (D : DefAt K "is_any_whole" s_is_any_whole) : Cal P w K mg base CX0 1 "is_any_whole" (spWhole K) := by
  have S := S_is_any_whole
  refine cal_of T.toTop D S (fun _ _ _ _ _ _ us hl => match us, hl with | [_], _ => rfl) (fun vs H Q E h => ?_) (fun f cdv A outer s H vs Q E hr h => ?_)
  · obtain ⟨v, n, rfl, _⟩ := h
    rfl
  · obtain ⟨v, n, rfl, ty, k1, k2, q⟩ := h
    refine ⟨_, (pss_one (ps_ret (pe_and (pe_callB call_isi (by rfl) T.isinstance (by decide +kernel) (pa_cons (pv 0) (pa_cons ((pe_bltn (v := .ty "int") (u := .type "int") rfl T.int (by decide +kernel) rfl)) pa_nil))) (pe_one (pe_not (pe_callB call_isi (by rfl) T.isinstance (by decide +kernel) (pa_cons (pv 0) (pa_cons ((pe_bltn (v := .ty "bool") (u := .type "bool") rfl T.bool (by decide +kernel) rfl)) pa_nil)))))))), ?_⟩
    refine ⟨_, rfl, _, _, _, _, _, rfl, .ty _, ty, kit_ty k1, _, rfl, ?_⟩
    refine ite2 (fun h => ?_) (fun h => ?_)
    · refine ⟨_, rfl, _, _, _, _, _, rfl, .ty _, ty, kit_ty k2, _, rfl, ?_⟩
      have h := of_decide_eq_true h
      have e : (!decide (n = "bool")) = decide (n = "int") := by
        rcases h with h | h <;> subst h <;> rfl
      show Q (V.bl (!decide (n = "bool"))) H
      rw [e]
      exact q
    · have e : decide (n = "int") = false := decide_eq_false fun z => h (decide_eq_true (.inl z))
      rw [e] at q
      exact q
abbrev s_is_whole : Stmt := top 10
abbrev N_is_whole : List Str := ["thing", "low", "high"]
theorem S_is_whole : FnScope N_is_whole ["thing", "low", "high"] (defScope s_is_whole) := ⟨rfl, rfl, rfl, by decide +kernel, rfl, by decide +kernel, by decide +kernel⟩

/-- is_whole(thing, low, high) -/
theorem c_is_wholeV (T : Txt K w mg) (D : DefAt K "is_whole" s_is_whole) (C_is_any_whole : Cal P w K mg base CX0 1 "is_any_whole" (spWhole K)) : Cal P w K mg base CX0 2 "is_whole" (spIsWholeV K) := by
  have S := S_is_whole
  refine cal_of T.toTop D S (fun _ _ _ _ _ _ us hl => match us, hl with | [_, _, _], _ => rfl) (fun vs H Q E h => ?_) (fun f cdv A outer s H vs Q E hr h => ?_)
  · obtain ⟨v, lo, hi, rfl, _⟩ := h
    rfl
  · obtain ⟨v, lo, hi, rfl, ⟨n, ty, k1, k2, hn, hn2⟩, q⟩ := h
    refine ⟨_, (pss_one (ps_ret (pe_and (pe_c C_is_any_whole hr (by decide) rfl (pa_cons (pv 0) pa_nil)) (pe_one (pe_chain op_le op_le (pv 1) (pv 0) (pv 2)))))), ?_⟩
    refine ⟨_, rfl, v, n, rfl, ty, k1, k2, _, rfl, ?_⟩
    by_cases e : n = "int"
    · obtain ⟨i, rfl⟩ := hn e
      refine (if_pos (decide_eq_true e)).mpr ?_
      refine ⟨_, rfl, _, rfl, _, _, rfl, rfl, _, rfl, ?_⟩
      by_cases h1 : lo ≤ i
      · refine (if_pos (decide_eq_true h1)).mpr ⟨_, rfl, _, _, rfl, rfl, ?_⟩
        have e : wholeV (.int i) lo hi = decide (i ≤ hi) := by show (decide (lo ≤ i) && decide (i ≤ hi)) = _; rw [decide_eq_true h1, Bool.true_and]
        rw [e] at q
        exact q
      · refine (if_neg (fun z => h1 (of_decide_eq_true z))).mpr ?_
        have e : wholeV (.int i) lo hi = false := by show (decide (lo ≤ i) && decide (i ≤ hi)) = _; rw [decide_eq_false h1, Bool.false_and]
        rw [e] at q
        exact q
    · refine (if_neg (fun z => e (of_decide_eq_true z))).mpr ?_
      have ev : wholeV v lo hi = false := by
        cases v with
        | int i => exact absurd (hn2 i rfl) e
        | _ => rfl
      rw [ev] at q
      exact q
theorem c_is_whole (T : Txt K w mg) (D : DefAt K "is_whole" s_is_whole) (D2 : DefAt K "is_any_whole" s_is_any_whole) : Cal P w K mg base CX0 2 "is_whole" (spIsWhole K) :=
  (c_is_wholeV T D (c_any_whole T D2)).imp fun vs H Q E h => by
    obtain ⟨v, d, lo, hi, e, hd, q⟩ := h
    exact ⟨v, lo, hi, e, any_dp hd, by rw [whole_dp hd]; exact q⟩

def shapeD (d : PyData) : Bool := match d with
  | .tuple (.str w :: ps) => match shapeOf w with
    | some l => decide (ps.length = l.length)
    | none => false
  | _ => false
def fitsD (d : PyData) (size count : Int) : Bool := match d with
  | .tuple (.str w :: ps) => match shapeOf w with
    | some l => decide (ps.length = l.length) && fitK size count l ps
    | none => false
  | _ => false
/-- what stands of a thing that has the shape of a row -/
theorem shapeD_yes {H : Hp} {v : V} {d : PyData} (hd : Dp K H v d) (h : shapeD d = true) : ∃ (w : Str) (ps : List PyData) (l : List Str) (p : Addr) (vs : List V), d = .tuple (.str w :: ps) ∧ shapeOf w = some l ∧ ps.length = l.length ∧ v = .ref p ∧ SqT K H p (.str w :: vs) ∧ DpAll K H vs ps := by
  cases hd with
  | tup q a =>
    cases a with
    | nil => cases h
    | cons a1 a2 =>
      cases a1 with
      | str w =>
        cases e : shapeOf w with
        | none => simp only [shapeD, e] at h; cases h
        | some l =>
          simp only [shapeD, e] at h
          exact ⟨w, _, l, _, _, rfl, e, of_decide_eq_true h, rfl, q, a2⟩
      | _ => cases h
  | _ => cases h
def spHasShape (K : PySem.W.Frag) : Sp := fun vs H Q _ => ∃ (v : V) (d : PyData), vs = [v] ∧ Dp K H v d ∧ Q (.bl (shapeD d)) H
abbrev s__has_shape : Stmt := top 15
abbrev N__has_shape : List Str := ["row", "word"]
theorem S__has_shape : FnScope N__has_shape ["row"] (defScope s__has_shape) := ⟨rfl, rfl, rfl, by decide +kernel, rfl, by decide +kernel, by decide +kernel⟩

theorem c_has_shape {dS : Addr} (T : Txt K w mg) (Z : Shapes K w mg dS) (D : DefAt K "_has_shape" s__has_shape) : Cal P w K mg base CX0 1 "_has_shape" (spHasShape K) := by
  have S := S__has_shape
  obtain ⟨es, n, dShapes⟩ := Z.d
  have gShapes := Z.g
  refine cal_of T.toTop D S (fun _ _ _ _ _ _ us hl => match us, hl with | [_], _ => rfl) (fun vs H Q E h => ?_) (fun f cdv A outer s H vs Q E hr h => ?_)
  · obtain ⟨v, d, rfl, _⟩ := h
    rfl
  · obtain ⟨v, d, rfl, hd, q⟩ := h
    refine ⟨_, (pss_cons (ps_if (PW.pt (pw_or (pt_not (pt_val (pe_callB call_isi (by rfl) T.isinstance (by decide +kernel) (pa_cons (pv 0) (pa_cons ((pe_bltn (v := .ty "tuple") (u := .type "tuple") rfl T.tuple (by decide +kernel) rfl)) pa_nil))))) (pw_or1 (pt_cmpR op_eq (pe_callB call_len_seq (by rfl) T.len PySem.boot_len (pa_cons (pv 0) pa_nil)) pe_int (nomark _))))) (pss_one (ps_ret pe_bl)) pss_nil)
  (pss_cons (ps_set (i := 1) S.nd rfl (Or.inl rfl) (pe_ix ix_tup (pv 0) pe_int (fun _ _ => rfl)))
  (pss_cons (ps_if (PW.pt (pw_or (pt_not (pt_val (pe_callB call_isi (by rfl) T.isinstance (by decide +kernel) (pa_cons (pv 1) (pa_cons ((pe_bltn (v := .ty "str") (u := .type "str") rfl T.str (by decide +kernel) rfl)) pa_nil))))) (pw_or1 (pt_cmpR (op_notIn_kd dShapes) (pv 1) ((pe_glob (v := .ref dS) rfl gShapes rfl)) (by with_unfolding_all rfl))))) (pss_one (ps_ret pe_bl)) pss_nil)
  (pss_one (ps_ret (pe_cmpR op_eq (pe_callB call_len_seq (by rfl) T.len PySem.boot_len (pa_cons (pv 0) pa_nil)) (pe_op op_add pe_int (pe_callB call_len_seq (by rfl) T.len PySem.boot_len (pa_cons (pe_ix ix_kdict ((pe_glob (v := .ref dS) rfl gShapes rfl)) (pv 1) (fun _ _ => rfl)) pa_nil))) (nomark _))))))), ?_⟩
    have ty := dp_ty hd
    refine ⟨_, rfl, _, _, _, _, _, rfl, .ty _, ty, kit_ty (kit_tup d), _, rfl, ?_⟩
    cases hd with
    | tup hq a =>
      cases a with
      | nil => exact ⟨_, rfl, _, _, rfl, .inr hq, rfl, true, rfl, q⟩
      | @cons v1 vs1 d1 ds1 a1 a2 =>
        refine ⟨_, rfl, _, _, rfl, .inr hq, rfl, false, bl_of (decide_eq_false fun z => by have := V.int.inj z; simp only [List.length_cons] at this; omega), ?_⟩
        refine ⟨_, rfl, _, _, _, _, rfl, rfl, hq, at_in (by decide) rfl, ?_⟩
        refine ⟨_, rfl, _, _, _, _, _, rfl, .ty _, dp_ty a1, kit_ty (kit_str _), _, rfl, ?_⟩
        cases a1 with
        | str w =>
          cases eS : shapeOf w with
          | none =>
            simp only [shapeD, eS] at q
            exact ⟨_, rfl, _, _, rfl, rfl, Z.no _ eS, _, rfl, q⟩
          | some l =>
            simp only [shapeD, eS] at q
            obtain ⟨t, hk, hT⟩ := Z.get eS
            obtain ⟨t', eN, _⟩ := Z.yes _ _ eS
            refine ⟨_, rfl, _, _, rfl, rfl, eN, false, rfl, ?_⟩
            refine ⟨_, rfl, _, _, rfl, .inr hq, _, rfl, _, _, _, rfl, rfl, hk, t, _, rfl, .inr (hT _), _, _, rfl, rfl, rfl, ?_⟩
            have hl := dpA_len a2
            rw [← hl] at q
            have e : decide (V.int (((V.str w :: vs1).length : Nat) : Int) = V.int (1 + (((l.map V.str).length : Nat) : Int))) = decide (vs1.length = l.length) := by
              rw [Bool.eq_iff_iff, decide_eq_true_eq, decide_eq_true_eq, List.length_cons, List.length_map]
              exact ⟨fun h => by have := V.int.inj h; omega, fun h => congrArg V.int (by omega)⟩
            exact (congrArg (fun b => Q (.bl b) H) e).mpr q
        | _ => exact q
    | _ => exact q

theorem fitsD_no {d : PyData} {size count : Int} (h : shapeD d = false) : fitsD d size count = false := by
  match d, h with
  | .tuple (.str w :: ps), h =>
    simp only [shapeD] at h
    simp only [fitsD]
    cases e : shapeOf w with
    | none => rfl
    | some l =>
      simp only [e] at h ⊢
      rw [h, Bool.false_and]
  | .none, _ | .bool _, _ | .int _, _ | .str _, _ | .list _, _ | .dict _, _ | .tuple [], _ => rfl
  | .tuple (.none :: _), _ | .tuple (.bool _ :: _), _ | .tuple (.int _ :: _), _ | .tuple (.list _ :: _), _ | .tuple (.dict _ :: _), _ | .tuple (.tuple _ :: _), _ => rfl
theorem fitsD_yes {w : Str} {ps : List PyData} {l : List Str} {size count : Int} (e : shapeOf w = some l) (hl : ps.length = l.length) : fitsD (.tuple (.str w :: ps)) size count = fitK size count l ps := by
  simp only [fitsD, e, decide_eq_true hl, Bool.true_and]
theorem last_val (a b c : V) {k : Str} (h : k = "box" ∨ k = "number" ∨ k = "place") : valV (mergeK [] [(.inr "box", a), (.inr "number", b), (.inr "place", c)]) (.inr k) = some (if k = "box" then a else if k = "number" then b else c) := by
  rcases h with rfl | rfl | rfl <;> rfl
theorem shape_kinds {z : Str} {l : List Str} (e : shapeOf z = some l) : ∀ k ∈ l, k = "box" ∨ k = "number" ∨ k = "place" := sTab_cases (P := fun _ l => ∀ k ∈ l, k = "box" ∨ k = "number" ∨ k = "place") (by decide +kernel) e
def spFits (K : PySem.W.Frag) : Sp := fun vs H Q _ => ∃ (v : V) (d : PyData) (size count : Int), vs = [v, .int size, .int count] ∧ Dp K H v d ∧ ∀ H', Same H H' → Q (.bl (fitsD d size count)) H'
abbrev s_fits : Stmt := top 14
abbrev N_fits : List Str := ["row", "size", "count", "last", "kinds", "thing", "kind"]
theorem S_fits : FnScope N_fits ["row", "size", "count"] (defScope s_fits) := ⟨rfl, rfl, rfl, by decide +kernel, rfl, by decide +kernel, by decide +kernel⟩

theorem c_fits {dS : Addr} (T : Txt K w mg) (Z : Shapes K w mg dS) (gRound : ∃ t, mg "ROUND" = some (.int 1000000 t)) (D : DefAt K "fits" s_fits) (C_is_whole : Cal P w K mg base CX0 2 "is_whole" (spIsWhole K)) (C__has_shape : Cal P w K mg base CX0 1 "_has_shape" (spHasShape K)) : Cal P w K mg base CX0 3 "fits" (spFits K) := by
  have S := S_fits
  obtain ⟨es, n, dShapes⟩ := Z.d
  obtain ⟨tR, gRound⟩ := gRound
  have gShapes := Z.g
  refine cal_of T.toTop D S (fun _ _ _ _ _ _ us hl => match us, hl with | [_, _, _], _ => rfl) (fun vs H Q E h => ?_) (fun f cdv A outer s H vs Q E hr h => ?_)
  · obtain ⟨v, d, size, count, rfl, _⟩ := h
    rfl
  · obtain ⟨v, d, size, count, rfl, hd, q⟩ := h
    refine ⟨_, (pss_cons (ps_if (pt_not (pt_val (pe_c C__has_shape hr (by decide) rfl (pa_cons (pv 0) pa_nil)))) (pss_one (ps_ret pe_bl)) pss_nil)
  (pss_cons (ps_set (i := 3) S.nd rfl (Or.inr rfl) (pe_disp (pps_cons pe_str (pe_op op_sub (pv 1) pe_int) (pps_cons pe_str (pe_op op_sub ((pe_glob (v := .int 1000000) rfl gRound ⟨_, rfl⟩)) pe_int) (pps_cons pe_str (pv 2) pps_nil))) (by rfl) (by rfl) (fun z => by cases z) (by decide)))
  (pss_cons (ps_set (i := 4) S.nd rfl (Or.inl rfl) (pe_ix ix_kdict ((pe_glob (v := .ref dS) rfl gShapes rfl)) (pe_ix ix_tup (pv 0) pe_int (fun _ _ => rfl)) (fun _ _ => rfl)))
  (pss_one (ps_ret (pe_callB (cr_all rfl) (by rfl) T.all (by decide +kernel) (pa_cons (pe_lc (own := [("thing", 5), ("kind", 6)]) (g := gTup K 2 (gCons (gName 5) (gCons (gName 6) gNil))) (tt := tYes) rfl S.nd (RZ.pi_zipA (by rfl) T.zip (pa_cons (pe_slice sl_tupA (pv 0) (po_some pe_int) po_none) (pa_cons (pv 4) pa_nil))) (blkOk_by (own := [("thing", 5), ("kind", 6)]) (N := N_fits) (sc := defScope s_fits) (by decide +kernel)) (fun _ _ _ _ _ => by exact pg_tup rfl (pgs_cons (pg_name (i := 5) S.nd rfl (Or.inl rfl)) (pgs_cons (pg_name (i := 6) S.nd rfl (Or.inl rfl)) pgs_nil))) (fun _ _ _ _ _ => pts_nil) (fun _ _ _ _ _ => (pe_c C_is_whole hr (by decide) rfl (pa_cons (pv 5) (pa_cons pe_int (pa_cons (pe_dget (hu_of hr) (pv 3) (pv 6) (fun _ _ => rfl)) pa_nil)))))) pa_nil))))))), ?_⟩
    refine ⟨_, rfl, v, d, rfl, hd, _, rfl, ?_⟩
    cases hs : shapeD d with
    | false =>
      have := q H (Same.refl _)
      rw [fitsD_no hs] at this
      exact this
    | true =>
      obtain ⟨wd, ps, l, p, vs, rfl, eS, hl, rfl, hq, ha⟩ := shapeD_yes hd hs
      rw [fitsD_yes eS hl] at q
      obtain ⟨t, hk, hT⟩ := Z.get eS
      refine fun p1 n1 => ?_
      refine ⟨_, rfl, _, _, rfl, rfl, _, _, rfl, rfl, _, rfl, ?_⟩
      refine ⟨upd_same, [(.inr "box", .int (size - 1)), (.inr "number", .int (1000000 - 1)), (.inr "place", .int count)], rfl, (show 3 ≤ 15 by decide), ?_⟩
      generalize e1 : upd (upd H p1 _) p1 _ = H1
      have h1 : H1 p1 = some (.dK (mergeK [] [(.inr "box", .int (size - 1)), (.inr "number", .int (1000000 - 1)), (.inr "place", .int count)])) := e1 ▸ upd_same
      have s1 : Same H H1 := e1 ▸ (Same.new n1).mut n1
      refine ⟨_, rfl, p, _, _, _, rfl, rfl, s1.sqt hq, at_in (v := .str wd) (by decide) rfl, _, _, _, rfl, rfl, hk, ?_⟩
      have hne : ¬ (HT.sIx (V.str wd :: vs).length 0 (some 1) = 0 ∧ HT.sIx (V.str wd :: vs).length (V.str wd :: vs).length none = (V.str wd :: vs).length) := fun h => by
        have e1 := HT.sIx_nat (V.str wd :: vs).length 0 1
        rw [show ((1 : Nat) : Int) = 1 from rfl, h.1] at e1
        simp only [List.length_cons] at e1
        omega
      refine ⟨_, rfl, 1, rfl, p, _, rfl, s1.sqt hq, fun h => absurd h hne, fun _ p2 n2 => ?_⟩
      rw [cutV_1]
      have s2 := s1.more (o := .tup vs) n2
      have h2 : upd H1 p2 (.tup vs) p2 = some (.tup vs) := upd_same
      have h1' : upd H1 p2 (.tup vs) p1 = some (.dK (mergeK [] [(.inr "box", .int (size - 1)), (.inr "number", .int (1000000 - 1)), (.inr "place", .int count)])) := Same.new n2 _ _ h1
      generalize upd H1 p2 (.tup vs) = H2 at s2 h2 h1'
      have hvl : vs.length = l.length := (dpA_len ha).trans hl
      have hl3 := (shape_len eS).2
      refine ⟨_, rfl, p2, t, vs, l.map V.str, rfl, .inr ⟨SqT.of h2, hT _, fun p3 n3 => lc_gen l.length (fun i x H => ∃ (T : Addr) (a b : V), x = .ref T ∧ H T = some (.tup [a, b]) ∧ vs[i]? = some a ∧ (l.map V.str)[i]? = some b)
        (fun k => some (.bl (wholeIn (ps.getD k .none) 0 (lastOf size count (l.getD k Str.empty))))) n3 (small1000 (by omega)) (fun i H' hi s => ?_) (fun H' s => ⟨vs, _, SqT.of (s _ _ h2), hT _, .inl (by omega)⟩) (fun i H' x H'' hi s y => ?_) (fun i x H' hi s r k1 k0 g1 g0 => ?_) (fun H3 s3 h3 => ?_)⟩⟩
      · exact ⟨vs, l.map V.str, vs[i], (l.map V.str)[i]'(by rw [List.length_map]; exact hi), SqT.of (s _ _ h2), hT _, List.getElem?_eq_getElem (by omega), List.getElem?_eq_getElem _⟩
      · obtain ⟨T', x', y', rfl, hn, rfl, hx, hy⟩ := y
        exact ⟨Same.new hn, T', x', y', rfl, upd_same, hx _ (SqT.of (s _ _ h2)), hy _ (hT _)⟩
      · obtain ⟨T', x', y', rfl, hn, hx, hy⟩ := r
        obtain ⟨d', ed, hd'⟩ := dpA_get ha hx
        rw [List.getElem?_map] at hy
        obtain ⟨k', ek, rfl⟩ := Option.map_eq_some_iff.mp hy
        have hd2 := dp_same (s2.trans s) _ _ hd'
        have hkk := shape_kinds eS k' (List.mem_of_getElem? ek)
        refine ⟨T', _, rfl, SqT.of hn, rfl, _, _, rfl, _, _, rfl, rfl, rfl, ?_⟩
        have hg : DGet H' p1 (.str k') (some (V.int (lastOf size count k'))) := by
          have := DGet.k (k := .inr k') (s _ _ h1')
          rw [last_val _ _ _ hkk] at this
          rcases hkk with rfl | rfl | rfl <;> exact this
        have e : (some (V.bl (wholeIn (ps.getD i .none) 0 (lastOf size count (l.getD i Str.empty)))) : Option V) = some (.bl (wholeIn d' 0 (lastOf size count k'))) := by
          rw [List.getD_eq_getElem?_getD, List.getD_eq_getElem?_getD, ed, ek]
          rfl
        exact ⟨_, rfl, _, rfl, _, rfl, p1, _, rfl, hg, _, d', 0, _, rfl, hd2, g1 _ _ e (Same.refl _)⟩
      · rw [fm_some, show (fun k => V.bl (wholeIn (ps.getD k .none) 0 (lastOf size count (l.getD k Str.empty)))) = V.bl ∘ (fun k => wholeIn (ps.getD k .none) 0 (lastOf size count (l.getD k Str.empty))) from rfl, ← List.map_map] at h3
        refine ⟨p3, _, rfl, SqL.of h3, ?_⟩
        rw [List.all_map]
        exact q _ (s2.trans s3)

def txtOf (n : Int) : Str := Str.ofString (toString n)
theorem txt_len {n : Int} (h0 : 0 ≤ n) (h1 : n < 1000000) : (txtOf n).length ≤ 6 := by
  have e : n = ((n.toNat : Nat) : Int) := (Int.toNat_of_nonneg h0).symm
  unfold txtOf
  rw [e]
  have q : (TL.tl (Str.ofString (toString ((n.toNat : Nat) : Int)))).length ≤ 6 := by
    rw [TL.tl_num]
    exact TL.numL_len (by decide) (by omega)
  exact q
theorem log_small {n : Int} (h0 : 0 ≤ n) (h1 : n < 1000000) : n.natAbs.log2 < 1920 := by
  have h : n.natAbs < 2 ^ 20 := by omega
  rcases Nat.eq_zero_or_pos n.natAbs with e | e
  · rw [e]; decide
  · have := (Nat.log2_lt (by omega)).mpr h
    omega

theorem app_sz {a b : Str} {n m k : Nat} (ha : a.length ≤ n) (hb : b.length ≤ m) (h : n + m ≤ k) : (a ++ b).length ≤ k := by
  have e : (a ++ b).length = a.length + b.length := by
    show (a.cps ++ b.cps).size = a.cps.size + b.cps.size
    exact Array.size_append
  omega
def goodR (ds : List PyData) (size : Int) : Bool := decide (ds.length ≤ 200) && ds.all fun d => fitsD d size (ds.length : Nat)
def spChecked (K : PySem.W.Frag) (CB : Addr) : Sp := fun vs H Q E => ∃ (g : Addr) (xs : List V) (ds : List PyData) (size : Int), vs = [.ref g, .int size] ∧ SqL K H g xs ∧ DpAll K H xs ds ∧ xs.length ≤ 1000 ∧
  (goodR ds size = true → ∀ H' p, Same H H' → H p = none → H' p = some (.lst xs) → Q (.ref p) H') ∧ (goodR ds size = false → ∀ H', Same H H' → E (.ref CB) none H')
abbrev s_checked : Stmt := top 16
abbrev N_checked : List Str := ["rows", "size", "place", "row"]
theorem S_checked : FnScope N_checked ["rows", "size"] (defScope s_checked) := ⟨rfl, rfl, rfl, by decide +kernel, rfl, by decide +kernel, by decide +kernel⟩

theorem c_checked {CB : Addr} (T : Txt K w mg) (X_BadRow : ExcT K mg "BadRow" CB) (gMost : ∃ t, mg "MOST" = some (.int 200 t)) (D : DefAt K "checked" s_checked) (C_fits : Cal P w K mg base CX0 3 "fits" (spFits K)) : Cal P w K mg base (L2.CX P w) 4 "checked" (spChecked K CB) := by
  have S := S_checked
  obtain ⟨tM, gMost⟩ := gMost
  refine cal_ofX T.toTop D S (fun _ _ _ _ _ _ us hl => match us, hl with | [_, _], _ => rfl) (fun vs H Q E h => ?_) (fun f cdv A outer s H vs Q E hr h => ?_)
  · obtain ⟨g, xs, ds, size, rfl, _⟩ := h
    rfl
  · obtain ⟨g, xs, ds, size, rfl, hS, ha, hz, hq, he⟩ := h
    have hl := dpA_len ha
    refine ⟨_, (pss_cons (ps_if (pt_cmpR op_gt (pe_callB call_len_seq (by rfl) T.len PySem.boot_len (pa_cons (pv 0) pa_nil)) ((pe_glob (v := .int 200) rfl gMost ⟨_, rfl⟩)) (nomark _)) (pss_one (ps_raise rfl (takes_of rfl rfl rfl rfl) (SkE.pmk_own1 PySem.F.excBase_ValueError X_BadRow.x X_BadRow.g X_BadRow.k (raises_own X_BadRow.b X_BadRow.t) rfl (pe_joined (.cons pe_str (.cons (pe_fmt ((pe_glob (v := .int 200) rfl gMost ⟨_, rfl⟩))) (.cons pe_str (.cons (pe_fmt (pe_callB call_len_seq (by rfl) T.len PySem.boot_len (pa_cons (pv 0) pa_nil))) .nil)))))))) pss_nil)
  (pss_cons (ps_for (g := gTup K 2 (gCons (gName 2) (gCons (gName 3) gNil))) (passes_of rfl) rfl (pi_enum (by rfl) T.enumerate (pa_cons (pv 0) pa_nil)) (by exact (pg_tup rfl (pgs_cons (pg_name (i := 2) S.nd rfl (Or.inl rfl)) (pgs_cons (pg_name (i := 3) S.nd rfl (Or.inl rfl)) pgs_nil))))
  (pss_one (ps_if (pt_not (pt_val (pe_c C_fits hr (by decide) rfl (pa_cons (pv 3) (pa_cons (pv 1) (pa_cons (pe_callB call_len_seq (by rfl) T.len PySem.boot_len (pa_cons (pv 0) pa_nil)) pa_nil)))))) (pss_one (ps_raise rfl (takes_of rfl rfl rfl rfl) (SkE.pmk_own1 PySem.F.excBase_ValueError X_BadRow.x X_BadRow.g X_BadRow.k (raises_own X_BadRow.b X_BadRow.t) rfl (pe_joined (.cons pe_str (.cons (pe_fmt (pv 2)) (.cons pe_str .nil))))))) pss_nil)))
  (pss_one (ps_ret (pe_callTy call_list_of (by rfl) T.list (by decide +kernel) (pa_cons (pv 0) pa_nil)))))), ?_⟩
    refine ⟨_, rfl, g, xs, rfl, .inl hS, _, _, rfl, rfl, ?_⟩
    by_cases hm : xs.length ≤ 200
    · refine ⟨false, bl_of (decide_eq_false (by omega)), ?_⟩
      refine ⟨_, rfl, g, xs, rfl, hS, for_gen xs.length (fun i σ H' => Same H H' ∧ (∃ v1 v2, σ = [some (.ref g), some (.int size), v1, v2]) ∧ ∀ d ∈ ds.take i, fitsD d size (ds.length : Nat) = true) ⟨Same.refl _, ⟨_, _, rfl⟩, fun d h => by simp at h⟩ (fun i σ H' hi h => ?_) (fun σ H' h => ⟨xs, h.1.seq hS, Nat.le_refl _⟩) (fun i σ H' y H'' hi h hy => ?_) (fun σ H' h => ?_)⟩
      · exact ⟨xs, xs[i], h.1.seq hS, List.getElem?_eq_getElem hi⟩
      · obtain ⟨s1, ⟨v1, v2, rfl⟩, hall⟩ := h
        obtain ⟨T', x, rfl, hn, rfl, hx⟩ := hy
        have hx := hx _ (s1.seq hS)
        obtain ⟨d, ed, hd⟩ := dpA_get ha hx
        have s2 := s1.more (o := .tup [.int (i : Nat), x]) hn
        refine ⟨T', _, rfl, SqT.of upd_same, rfl, _, _, rfl, _, _, rfl, rfl, ?_⟩
        refine ⟨_, rfl, _, rfl, _, rfl, g, xs, rfl, .inl (s2.seq hS), x, d, size, _, rfl, dp_same s2 _ _ hd, fun H3 s3 => ?_⟩
        rw [hl]
        refine ⟨_, rfl, ?_⟩
        cases hf : fitsD d size (ds.length : Nat) with
        | true =>
          refine ⟨s2.trans s3, ⟨_, _, rfl⟩, fun d' hd' => ?_⟩
          rw [List.take_add_one, ed] at hd'
          rcases List.mem_append.mp hd' with h | h
          · exact hall d' h
          · rw [Option.toList_some, List.mem_singleton] at h
            rw [h]
            exact hf
        | false =>
          have hb : goodR ds size = false := by
            unfold goodR
            rw [Bool.and_eq_false_iff]
            exact .inr (Bool.eq_false_iff.mpr fun h => by
              have := List.all_eq_true.mp h d (List.mem_of_getElem? ed)
              rw [hf] at this
              cases this)
          refine ⟨_, rfl, by decide +kernel, ?_⟩
          refine ⟨_, rfl, .inr ⟨(i : Nat), rfl, log_small (by omega) (by omega), _, rfl, ?_, ?_⟩⟩
          · exact app_sz (n := 4) (m := 6) (by decide +kernel) (txt_len (by omega) (by omega)) (by decide)
          · exact ⟨_, rfl, app_sz (n := 10) (m := 13) (app_sz (n := 4) (m := 6) (by decide +kernel) (txt_len (by omega) (by omega)) (by decide)) (by decide +kernel) (by decide), he hb _ (s2.trans s3)⟩
      · obtain ⟨s1, ⟨v1, v2, rfl⟩, hall⟩ := h
        have hg : goodR ds size = true := by
          unfold goodR
          rw [decide_eq_true (by omega : ds.length ≤ 200), Bool.true_and]
          rw [hl, List.take_length] at hall
          exact List.all_eq_true.mpr hall
        refine ⟨_, rfl, g, xs, rfl, .inl (s1.seq hS), fun l np => hq hg _ l (s1.more np) (s1.free np) upd_same⟩
    · have hb : goodR ds size = false := by
        unfold goodR
        rw [decide_eq_false (by omega : ¬ ds.length ≤ 200), Bool.false_and]
      refine ⟨true, bl_of (decide_eq_true (by omega)), ?_⟩
      refine ⟨_, rfl, by decide +kernel, ?_⟩
      refine .inr ⟨200, rfl, by decide, _, rfl, by decide +kernel, ?_⟩
      refine ⟨_, rfl, by decide +kernel, _, rfl, g, xs, rfl, .inl hS, .inr ⟨_, rfl, log_small (by omega) (by omega), _, rfl, ?_, he hb _ (Same.refl _)⟩⟩
      exact app_sz (n := 100) (m := 6) (by decide +kernel) (txt_len (by omega) (by omega)) (by decide)

def spSizeBy : Sp := fun vs H Q _ => ∃ c : Int, vs = [.int c] ∧ ∀ z H', 1 ≤ z → z ≤ 200 → Same H H' → Q (.int z) H'
abbrev s__law_size_by : Stmt := top 21
abbrev N__law_size_by : List Str := ["_law_cell"]
theorem S__law_size_by : FnScope N__law_size_by ["_law_cell"] (defScope s__law_size_by) := ⟨rfl, rfl, rfl, by decide +kernel, rfl, by decide +kernel, by decide +kernel⟩

theorem c_size_by (T : Txt K w mg) (D : DefAt K "_law_size_by" s__law_size_by) : Cal P w K mg base CX0 1 "_law_size_by" spSizeBy := by
  have S := S__law_size_by
  refine cal_of T.toTop D S (fun _ _ _ _ _ _ us hl => match us, hl with | [_], _ => rfl) (fun vs H Q E h => ?_) (fun f cdv A outer s H vs Q E hr h => ?_)
  · obtain ⟨c, rfl, _⟩ := h
    rfl
  · obtain ⟨c, rfl, q⟩ := h
    refine ⟨_, (pss_one (ps_ret (pe_ix ix_list (pe_lst (pa_cons (pe_op op_add pe_int (pe_op op_mod (pe_op op_fdiv (pv 0) pe_int) pe_int)) (pa_cons (pe_op op_add pe_int (pe_op op_mod (pe_op op_fdiv (pv 0) pe_int) pe_int)) (pa_cons (pe_op op_add pe_int (pe_op op_mod (pe_op op_fdiv (pv 0) pe_int) pe_int)) (pa_cons pe_int pa_nil))))) (pe_ix ix_list (pe_lst (pa_cons pe_int (pa_cons pe_int (pa_cons pe_int (pa_cons pe_int (pa_cons pe_int (pa_cons pe_int (pa_cons pe_int (pa_cons pe_int pa_nil))))))))) (pe_op op_mod (pv 0) pe_int) (fun _ _ => rfl)) (fun _ _ => rfl)))), ?_⟩
    repeat walk_at "rd"
    refine ⟨sz_ok rfl, fun p1 n1 => ?_⟩
    repeat walk_at "rd"
    refine ⟨sz_ok rfl, fun p2 n2 => ?_⟩
    repeat walk_at "rd"
    refine ⟨p2, _, _, _, rfl, rfl, SqL.of upd_same, at_ints_mod (ns := [0, 0, 0, 0, 1, 2, 2, 3]) c (by decide) rfl, ?_⟩
    have hi : ∀ k, k < 8 → ([0, 0, 0, 0, 1, 2, 2, 3] : List Int).getD k 0 = 0 ∨ ([0, 0, 0, 0, 1, 2, 2, 3] : List Int).getD k 0 = 1 ∨ ([0, 0, 0, 0, 1, 2, 2, 3] : List Int).getD k 0 = 2 ∨ ([0, 0, 0, 0, 1, 2, 2, 3] : List Int).getD k 0 = 3 := by decide
    have hi := hi (c % 8).toNat (by omega)
    generalize ([0, 0, 0, 0, 1, 2, 2, 3] : List Int).getD (c % 8).toNat 0 = i at hi
    refine ⟨p1, _, _, _, rfl, rfl, SqL.of (Same.new n2 _ _ upd_same), at_ints (ns := [_, _, _, _]) (by omega) (by show i < 4; omega), q _ _ ?_ ?_ ((Same.new n1).trans (Same.new n2))⟩
    all_goals
      rcases hi with rfl | rfl | rfl | rfl
      all_goals
        first
        | (show (1 : Int) ≤ 1 + c / 8 % 9; omega)
        | (show (1 : Int) ≤ 1 + c / 8 % 3; omega)
        | (show (1 : Int) ≤ 10 + c / 8 % 190; omega)
        | (show (1 : Int) ≤ 200; omega)
        | (show 1 + c / 8 % 9 ≤ (200 : Int); omega)
        | (show 1 + c / 8 % 3 ≤ (200 : Int); omega)
        | (show 10 + c / 8 % 190 ≤ (200 : Int); omega)
        | (show (200 : Int) ≤ 200; omega)

def spEdge : Sp := fun vs H Q _ => ∃ c l : Int, vs = [.int c, .int l] ∧ 0 ≤ l ∧ ∀ z H', Same H H' → Q (.int z) H'
abbrev s__law_edge : Stmt := top 22
abbrev N__law_edge : List Str := ["_law_cell", "_law_last"]
theorem S__law_edge : FnScope N__law_edge ["_law_cell", "_law_last"] (defScope s__law_edge) := ⟨rfl, rfl, rfl, by decide +kernel, rfl, by decide +kernel, by decide +kernel⟩

theorem c_edge (T : Txt K w mg) (D : DefAt K "_law_edge" s__law_edge) (C__law_mixed : Cal P w K mg base CX0 1 "_law_mixed" spMixed) : Cal P w K mg base CX0 2 "_law_edge" spEdge := by
  have S := S__law_edge
  refine cal_of T.toTop D S (fun _ _ _ _ _ _ us hl => match us, hl with | [_, _], _ => rfl) (fun vs H Q E h => ?_) (fun f cdv A outer s H vs Q E hr h => ?_)
  · obtain ⟨c, l, rfl, _⟩ := h
    rfl
  · obtain ⟨c, l, rfl, h0, q⟩ := h
    refine ⟨_, (pss_one (ps_ret (pe_ix ix_list (pe_lst (pa_cons (pe_op op_sub pe_int pe_int) (pa_cons pe_int (pa_cons (pv 1) (pa_cons (pe_op op_add (pv 1) pe_int) (pa_cons (pe_op op_mod (pe_c C__law_mixed hr (by decide) rfl (pa_cons (pv 0) pa_nil)) (pe_op op_add (pv 1) pe_int)) (pa_cons (pe_op op_mod (pe_c C__law_mixed hr (by decide) rfl (pa_cons (pv 0) pa_nil)) (pe_op op_add (pv 1) pe_int)) pa_nil))))))) (pe_op op_mod (pv 0) pe_int) (fun _ _ => rfl)))), ?_⟩
    have hp : (0 : Int) < l + 1 := by omega
    refine ⟨_, _, rfl, rfl, _, rfl, _, rfl, _, _, rfl, rfl, ?_⟩
    refine ⟨_, rfl, _, rfl, _, rfl, _, _, rfl, rfl, _, _, rfl, rfl, hp, ?_⟩
    refine ⟨_, rfl, _, rfl, _, rfl, _, _, rfl, rfl, _, _, rfl, rfl, hp, ?_⟩
    refine ⟨sz_ok rfl, fun p1 n1 => ?_⟩
    refine ⟨_, rfl, _, _, rfl, rfl, (by show (0 : Int) < 6; decide), p1, _, _, _, rfl, rfl, SqL.of upd_same, at_ints_mod (ns := [_, _, _, _, _, _]) c (by decide) rfl, q _ _ (Same.new n1)⟩
def wordsL : List Str := ["set", "copy", "add", "sub", "fetch", "store", "less", "jump", "tell"]
theorem inV_strs (z : Str) : ∀ l : List Str, inV (.str z) (l.map V.str) = decide (z ∈ l)
  | [] => rfl
  | a :: l => by
    have ih := inV_strs z l
    unfold inV at ih ⊢
    rw [List.map_cons, List.any_cons, ih]
    have e : eqV (.str a) (.str z) = (a == z) := rfl
    rw [e, Bool.eq_iff_iff, Bool.or_eq_true, beq_iff_eq, decide_eq_true_eq, decide_eq_true_eq, List.mem_cons]
    exact ⟨fun h => h.elim (fun h => .inl h.symm) .inr, fun h => h.elim (fun h => .inl h.symm) .inr⟩
theorem all_flat_strs (l : List Str) : (l.map V.str).all flatV = true := by
  rw [List.all_map]
  exact List.all_eq_true.mpr fun _ _ => rfl
def mTab : List (Str × Str) := [("set", "bn"), ("copy", "bb"), ("add", "bbb"), ("sub", "bbb"), ("fetch", "bb"), ("store", "bb"), ("less", "bbp"), ("jump", "p"), ("tell", "b")]
def marksOf (z : Str) : Str := (mTab.lookup z).getD Str.empty
def marksL : List Str := ["bn", "bb", "bbb", "bbb", "bb", "bb", "bbp", "p", "b"]
theorem marks_idx {wd : Str} {sh : List Str} (e : shapeOf wd = some sh) : ∃ j, j < 9 ∧ wordsL.getD j Str.empty = wd ∧ (∀ k, k < j → wordsL.getD k Str.empty ≠ wd) ∧ marksL.getD j Str.empty = marksOf wd :=
  sTab_cases (P := fun wd sh => ∃ j, j < 9 ∧ wordsL.getD j Str.empty = wd ∧ (∀ k, k < j → wordsL.getD k Str.empty ≠ wd) ∧ marksL.getD j Str.empty = marksOf wd) (by decide +kernel) e
def spMarks : Sp := fun vs H Q _ => ∃ z : Str, vs = [.str z] ∧ ∀ H', Same H H' → Q (.str (marksOf z)) H'
abbrev s__law_marks : Stmt := top 23
abbrev N__law_marks : List Str := ["_law_word", "_law_names"]
theorem S__law_marks : FnScope N__law_marks ["_law_word"] (defScope s__law_marks) := ⟨rfl, rfl, rfl, by decide +kernel, rfl, by decide +kernel, by decide +kernel⟩

theorem c_marks (T : Txt K w mg) (D : DefAt K "_law_marks" s__law_marks) : Cal P w K mg base CX0 1 "_law_marks" spMarks := by
  have S := S__law_marks
  refine cal_of T.toTop D S (fun _ _ _ _ _ _ us hl => match us, hl with | [_], _ => rfl) (fun vs H Q E h => ?_) (fun f cdv A outer s H vs Q E hr h => ?_)
  · obtain ⟨z, rfl, _⟩ := h
    rfl
  · obtain ⟨z, rfl, q⟩ := h
    refine ⟨_, (pss_cons (ps_set (i := 1) S.nd rfl (Or.inl rfl) (pe_lst (pa_cons pe_str (pa_cons pe_str (pa_cons pe_str (pa_cons pe_str (pa_cons pe_str (pa_cons pe_str (pa_cons pe_str (pa_cons pe_str (pa_cons pe_str pa_nil)))))))))))
  (pss_cons (ps_if (pt_cmpR op_notIn_seq (pv 0) (pv 1) (by with_unfolding_all rfl)) (pss_one (ps_ret pe_str)) pss_nil)
  (pss_one (ps_ret (pe_ix ix_list (pe_lst (pa_cons pe_str (pa_cons pe_str (pa_cons pe_str (pa_cons pe_str (pa_cons pe_str (pa_cons pe_str (pa_cons pe_str (pa_cons pe_str (pa_cons pe_str pa_nil)))))))))) (pe_bm PySem.F.plainAttrs_list PySem.F.slot_list_index PySem.F.type_list_index mt_index (pv 1) (pa_cons (pv 0) pa_nil)) (fun _ _ => rfl)))))), ?_⟩
    refine ⟨sz_ok rfl, fun p1 n1 => ?_⟩
    generalize e1 : upd H p1 _ = H1
    have h1 : H1 p1 = some (.lst (wordsL.map V.str)) := e1 ▸ upd_same
    have s1 : Same H H1 := e1 ▸ Same.new n1
    refine ⟨_, rfl, _, rfl, p1, wordsL.map V.str, rfl, .inl (SqL.of h1), rfl, all_flat_strs _, ?_⟩
    cases eS : shapeOf z with
    | none =>
      have hn : z ∉ wordsL := fun hm => by
        have h : ∀ z ∈ wordsL, (shapeOf z).isSome = true := by decide +kernel
        have := h z hm
        rw [eS] at this
        cases this
      have e : marksOf z = Str.empty := by
        unfold marksOf
        have h : mTab.lookup z = none := by
          rw [List.lookup_eq_none_iff]
          intro x hx
          have h : ∀ x ∈ mTab, x.1 ∈ wordsL := by decide +kernel
          have hne : z ≠ x.1 := fun e => hn (e ▸ h x hx)
          simpa using hne
        rw [h]
        rfl
      have := q _ s1
      rw [e] at this
      exact ⟨true, bl_of (by simp only [inV_strs, decide_eq_false hn]; rfl), this⟩
    | some sh =>
      obtain ⟨j, hj, hjw, hjn, hjm⟩ := marks_idx eS
      have hget : ∀ k, k < 9 → wordsL[k]? = some (wordsL.getD k Str.empty) := fun k hk => by
        rw [List.getD_eq_getElem?_getD, List.getElem?_eq_getElem (show k < wordsL.length from hk)]; rfl
      have hm : z ∈ wordsL := List.mem_of_getElem? (by rw [hget j hj, hjw])
      refine ⟨false, bl_of (by simp only [inV_strs, decide_eq_true hm]; rfl), ?_⟩
      refine ⟨sz_ok rfl, fun p3 n3 => ?_⟩
      generalize e3 : upd H1 p3 _ = H3
      have h3 : H3 p3 = some (.lst (marksL.map V.str)) := e3 ▸ upd_same
      have t3 : Same H1 H3 := e3 ▸ Same.new n3
      refine ⟨_, rfl, .inl ⟨rfl, _, SqL.of (t3 _ _ h1)⟩, _, rfl, ?_⟩
      refine ⟨p1, wordsL.map V.str, .str z, j, .str z, rfl, rfl, SqL.of (t3 _ _ h1), rfl, all_flat_strs _, ?_, ?_, fun m z' hmj hz' => ?_, ?_⟩
      · rw [List.getElem?_map, hget j hj, hjw]; rfl
      · exact beq_self_eq_true z
      · rw [List.getElem?_map, hget m (by omega)] at hz'
        cases hz'
        exact beq_eq_false_iff_ne.mpr (hjn m hmj)
      refine ⟨p3, _, _, _, rfl, rfl, SqL.of h3, at_strs (ns := marksL) (by omega) (by show (j : Int) < 9; omega), ?_⟩
      rw [show (((j : Nat) : Int)).toNat = j from rfl, hjm]
      exact q _ (s1.trans t3)

def okM (z : Str) : Bool := decide (z.length ≤ 4) && z.cps.toList.all fun c => c == 98 || c == 110 || c == 112
def names10 : List Str := ["set", "copy", "add", "sub", "fetch", "store", "less", "jump", "tell", "halt"]
theorem mark_idx {z : Str} (h : okM z = true) {k : Nat} (hk : k < z.length) : ∃ (c j : Nat) (r : List Nat), atI z.cps.toList (k : Int) = some c ∧ Builtin.Str.occurrences "bnp" ⟨#[c]⟩ 0 (Str.length "bnp") 1 = j :: r ∧ j < 3 ∧ (j = 0 ↔ c = 98) ∧ (j = 1 ↔ c = 110) := by
  unfold okM at h
  rw [Bool.and_eq_true, List.all_eq_true] at h
  have hl : k < z.cps.toList.length := by simpa [Str.length] using hk
  have hc := h.2 _ (List.getElem_mem hl)
  refine ⟨z.cps.toList[k], ?_⟩
  have e : atI z.cps.toList (k : Int) = some z.cps.toList[k] := at_in (by omega) (by rw [Int.toNat_natCast]; exact List.getElem?_eq_getElem hl)
  rw [e]
  generalize z.cps.toList[k] = c at hc
  rw [Bool.or_eq_true, Bool.or_eq_true, beq_iff_eq, beq_iff_eq, beq_iff_eq] at hc
  rcases hc with (rfl | rfl) | rfl
  · exact ⟨0, [], rfl, by decide +kernel, by decide, by decide, by decide⟩
  · exact ⟨1, [], rfl, by decide +kernel, by decide, by decide, by decide⟩
  · exact ⟨2, [], rfl, by decide +kernel, by decide, by decide, by decide⟩
def spThingBy (K : PySem.W.Frag) : Sp := fun vs H Q _ => ∃ (a : Addr) (ns : List Int) (size count : Int), vs = [.ref a, .int size, .int count] ∧ SqL K H a (ns.map V.int) ∧ 1 ≤ size ∧ 0 ≤ count ∧ ∀ v d H', Same H H' → Dp K H' v d → okD 2 d → Q v H'
abbrev s__law_thing_by : Stmt := top 24
abbrev N__law_thing_by : List Str := ["_law_script", "_law_size", "_law_count", "_law_first", "_law_word", "_law_marks_here", "_law_parts", "_law_k", "_law_last", "_law_odd"]
theorem S__law_thing_by : FnScope N__law_thing_by ["_law_script", "_law_size", "_law_count"] (defScope s__law_thing_by) := ⟨rfl, rfl, rfl, by decide +kernel, rfl, by decide +kernel, by decide +kernel⟩

theorem c_thing_by (T : Txt K w mg) (D : DefAt K "_law_thing_by" s__law_thing_by) (C__law_cell_at : Cal P w K mg base CX0 1 "_law_cell_at" (spCellAt K)) (C__law_marks : Cal P w K mg base CX0 1 "_law_marks" spMarks) (C__law_edge : Cal P w K mg base CX0 2 "_law_edge" spEdge) : Cal P w K mg base CX0 3 "_law_thing_by" (spThingBy K) := by
  have S := S__law_thing_by
  refine cal_of T.toTop D S (fun _ _ _ _ _ _ us hl => match us, hl with | [_, _, _], _ => rfl) (fun vs H Q E h => ?_) (fun f cdv A outer s H vs Q E hr h => ?_)
  · obtain ⟨a, ns, size, count, rfl, _⟩ := h
    rfl
  · obtain ⟨a, ns, size, count, rfl, hS, hs1, hc0, q⟩ := h
    refine ⟨_, (pss_cons (ps_set (i := 3) S.nd rfl (Or.inl rfl) (pe_c C__law_cell_at hr (by decide) rfl (pa_cons (pv 0) (pa_cons pe_int pa_nil))))
  (pss_cons (ps_set (i := 4) S.nd rfl (Or.inl rfl) (pe_ix ix_list (pe_lst (pa_cons pe_str (pa_cons pe_str (pa_cons pe_str (pa_cons pe_str (pa_cons pe_str (pa_cons pe_str (pa_cons pe_str (pa_cons pe_str (pa_cons pe_str (pa_cons pe_str pa_nil))))))))))) (pe_op op_mod (pv 3) pe_int) (fun _ _ => rfl)))
  (pss_cons (ps_set (i := 5) S.nd rfl (Or.inl rfl) (pe_c C__law_marks hr (by decide) rfl (pa_cons (pv 4) pa_nil)))
  (pss_cons (ps_if (pt_cmpR op_eq (pe_op op_mod (pe_op op_fdiv (pv 3) pe_int) pe_int) pe_int (nomark _)) (pss_one (ps_set (i := 5) S.nd rfl (Or.inl rfl) (pe_slice sl_str (pv 5) po_none (po_some (pe_un un_neg pe_int))))) pss_nil)
  (pss_cons (ps_if (pt_cmpR op_eq (pe_op op_mod (pe_op op_fdiv (pv 3) pe_int) pe_int) pe_int (nomark _)) (pss_one (ps_set (i := 5) S.nd rfl (Or.inl rfl) (pe_op op_add_str (pv 5) pe_str))) pss_nil)
  (pss_cut (D := { nx := fun _ H' => Q .non H', rt := Q }) (P := fun σ H' => ∃ (c : Int) (wd z : Str), σ = [some (.ref a), some (.int size), some (.int count), some (.int c), some (.str wd), some (.str z), none, none, none, none] ∧ PyData.strOk wd = true ∧ okM z = true ∧ Same H H') ?tail)))))), ?_⟩
    case tail =>
      refine ⟨_, (pss_cons (ps_set (i := 6) S.nd rfl (Or.inl rfl) (pe_lst (pa_cons (pv 4) pa_nil)))
  (pss_cons (ps_for PassesOwn.never rfl (pi_range1 rfl T.range (pa_cons (pe_callB call_len_str (by rfl) T.len PySem.boot_len (pa_cons (pv 5) pa_nil)) pa_nil)) (pg_name (i := 7) S.nd rfl (Or.inl rfl))
  (pss_cons (ps_set (i := 8) S.nd rfl (Or.inl rfl) (pe_ix ix_list (pe_lst (pa_cons (pe_op op_sub (pv 1) pe_int) (pa_cons pe_int (pa_cons (pv 2) pa_nil)))) (pe_bm PySem.F.plainAttrs_str PySem.F.slot_str_index PySem.F.type_str_index mt_sindex pe_str (pa_cons (pe_ix ix_str (pv 5) (pv 7) (fun _ _ => rfl)) pa_nil)) (fun _ _ => rfl)))
  (pss_one (ps_expr (pe_bm PySem.F.plainAttrs_list PySem.F.slot_list_append PySem.F.type_list_append mt_append (pv 6) (pa_cons (pe_c C__law_edge hr (by decide) rfl (pa_cons (pe_c C__law_cell_at hr (by decide) rfl (pa_cons (pv 0) (pa_cons (pe_op op_add pe_int (pv 7)) pa_nil))) (pa_cons (pv 8) pa_nil))) pa_nil))))))
  (pss_cons (ps_set (i := 9) S.nd rfl (Or.inl rfl) (pe_op op_mod (pe_op op_fdiv (pv 3) pe_int) pe_int))
  (pss_cons (ps_if (PW.pt (pw_and (pt_cmpR op_in_seq (pv 9) (pe_tup (pa_cons pe_int (pa_cons pe_int pa_nil))) (by with_unfolding_all rfl)) (pw_and1 (pt_cmpR op_gt (pe_callB call_len_seq (by rfl) T.len PySem.boot_len (pa_cons (pv 6) pa_nil)) pe_int (nomark _))))) (pss_one (ps_asg (pe_ix ix_list (pe_lst (pa_cons pe_bl (pa_cons pe_str (pa_cons (pe_lst (pa_cons pe_int pa_nil)) (pa_cons pe_non pa_nil))))) (pe_op op_mod (pe_c C__law_cell_at hr (by decide) rfl (pa_cons (pv 0) (pa_cons pe_int pa_nil))) pe_int) (fun _ _ => rfl)) (pg_sub (pv 6) (pe_op op_add pe_int (pe_op op_mod (pe_op op_fdiv (pv 3) pe_int) (pe_op op_sub (pe_callB call_len_seq (by rfl) T.len PySem.boot_len (pa_cons (pv 6) pa_nil)) pe_int))) set_list))) pss_nil)
  (pss_cut (D := { nx := fun _ H' => Q .non H', rt := Q }) (P := fun σ H' => ∃ (c od : Int) (wd : Str) (v5 v7 v8 : Option V) (p : Addr) (xs : List V) (ds : List PyData), σ = [some (.ref a), some (.int size), some (.int count), some (.int c), some (.str wd), v5, some (.ref p), v7, v8, some (.int od)] ∧ PyData.strOk wd = true ∧ H' p = some (.lst xs) ∧ DpAll K H' xs ds ∧ (∀ d ∈ ds, okD 1 d) ∧ xs.length ≤ 10 ∧ Same H H') ?tail2))))), ?rest⟩
      case tail2 =>
        refine ⟨_, (pss_cons (ps_if (pt_cmpR op_eq (pv 9) pe_int (nomark _)) (pss_one (ps_ret (pe_ix ix_list (pe_lst (pa_cons (pv 6) (pa_cons (pe_tup (pa_cons pe_int (pa_cons pe_int pa_nil))) (pa_cons (pe_tup pa_nil) (pa_cons pe_non (pa_cons (pv 4) (pa_cons (pe_tup (pa_cons pe_non (pa_cons pe_int pa_nil))) pa_nil))))))) (pe_op op_mod (pe_op op_fdiv (pv 3) pe_int) pe_int) (fun _ _ => rfl)))) pss_nil)
  (pss_one (ps_ret (pe_tupleOf (by rfl) T.tuple (pv 6))))), fun σ H1 h => ?_⟩
        obtain ⟨c, od, wd, v5, v7, v8, p, xs, ds, rfl, hw, hp, hd, hok, hxl, s1⟩ := h
        refine ⟨_, rfl, rfl, ?_⟩
        by_cases ho : od = 3
        · refine ⟨true, bl_of (decide_eq_true (congrArg V.int ho)), ?_⟩
          refine ⟨_, rfl, sz_ok rfl, fun p1 n1 => ?_⟩
          have s2 := s1.more (o := .tup [.int 1, .int 0]) n1
          have a1 : upd H1 p1 (.tup [.int 1, .int 0]) p1 = some (.tup [.int 1, .int 0]) := upd_same
          have t2 : Same H1 (upd H1 p1 (.tup [.int 1, .int 0])) := Same.new n1
          generalize upd H1 p1 (.tup [.int 1, .int 0]) = H2 at s2 a1 t2
          refine ⟨sz_ok rfl, fun p2 n2 => ?_⟩
          have s3 := s2.more (o := .tup []) n2
          have a2 : upd H2 p2 (.tup []) p2 = some (.tup []) := upd_same
          have t3 : Same H2 (upd H2 p2 (.tup [])) := Same.new n2
          generalize upd H2 p2 (.tup []) = H3 at s3 a2 t3
          refine ⟨_, rfl, sz_ok rfl, fun p3 n3 => ?_⟩
          have s4 := s3.more (o := .tup [.non, .int 0]) n3
          have a3 : upd H3 p3 (.tup [.non, .int 0]) p3 = some (.tup [.non, .int 0]) := upd_same
          have t4 : Same H3 (upd H3 p3 (.tup [.non, .int 0])) := Same.new n3
          generalize upd H3 p3 (.tup [.non, .int 0]) = H4 at s4 a3 t4
          refine ⟨sz_ok rfl, fun p4 n4 => ?_⟩
          have s5 := s4.more (o := .lst [.ref p, .ref p1, .ref p2, .non, .str wd, .ref p3]) n4
          have a4 : upd H4 p4 (.lst [.ref p, .ref p1, .ref p2, .non, .str wd, .ref p3]) p4 = some (.lst [.ref p, .ref p1, .ref p2, .non, .str wd, .ref p3]) := upd_same
          have t5 : Same H4 (upd H4 p4 (.lst [.ref p, .ref p1, .ref p2, .non, .str wd, .ref p3])) := Same.new n4
          generalize upd H4 p4 (.lst [.ref p, .ref p1, .ref p2, .non, .str wd, .ref p3]) = H5 at s5 a4 t5
          refine ⟨_, rfl, _, _, rfl, rfl, ⟨by decide, by decide⟩, _, _, rfl, rfl, (by show (0 : Int) < 6; decide), p4, _, _, _, rfl, rfl, SqL.of a4, at_getD (d := .non) (mod_nn _ (by decide)) (mod_lt _ (by decide)), ?_⟩
          have hi : (c / 960 % 6).toNat = 0 ∨ (c / 960 % 6).toNat = 1 ∨ (c / 960 % 6).toNat = 2 ∨ (c / 960 % 6).toNat = 3 ∨ (c / 960 % 6).toNat = 4 ∨ (c / 960 % 6).toNat = 5 := by omega
          have q1 := fun v d => q v d _ s5
          rcases hi with e | e | e | e | e | e <;> rw [e]
          · exact q1 _ _ (.lst (SqL.of (t5 _ _ (t4 _ _ (t3 _ _ (t2 _ _ hp))))) (dpAll_same (t2.trans (t3.trans (t4.trans t5))) _ _ hd)) (okD.lst hok)
          · exact q1 _ _ (.tup (SqT.of (t5 _ _ (t4 _ _ (t3 _ _ a1)))) (dpAll_flat2 rfl)) ⟨rfl, by decide +kernel⟩
          · exact q1 _ _ (.tup (SqT.of (t5 _ _ (t4 _ _ a2))) .nil) ⟨rfl, by decide +kernel⟩
          · exact q1 _ _ .non (okD.non _)
          · exact q1 _ _ (.str wd) (okD.str _ hw)
          · exact q1 _ _ (.tup (SqT.of (t5 _ _ a3)) (dpAll_flat2 rfl)) ⟨rfl, by decide +kernel⟩
        · refine ⟨false, bl_of (decide_eq_false fun e => ho (V.int.inj e)), ?_⟩
          refine ⟨_, rfl, .inl ⟨p, _, rfl, SqL.of hp, fun l nl => ?_⟩⟩
          exact q _ _ _ (s1.more nl) (.tup (SqT.of upd_same) (dpAll_same (Same.new nl) _ _ hd)) (okD.tup hok)
      case rest =>
      refine fun σ H1 h => ?_
      obtain ⟨c, wd, z, rfl, hw, hm, s1⟩ := h
      have hz : z.length ≤ 4 := by
        unfold okM at hm
        rw [Bool.and_eq_true] at hm
        exact of_decide_eq_true hm.1
      have hzs : z.length ≤ sizeLine := Nat.le_trans hz (by decide)
      refine ⟨_, rfl, sz_ok rfl, fun p np => ?_⟩
      refine ⟨_, rfl, z, rfl, hzs, _, rfl, by omega, by omega, for_range (n := z.length) (fun k σ H' => ∃ (v7 v8 : Option V) (zs : List Int), σ = [some (.ref a), some (.int size), some (.int count), some (.int c), some (.str wd), some (.str z), some (.ref p), v7, v8, none] ∧ H' p = some (.lst (.str wd :: zs.map V.int)) ∧ zs.length = k ∧ Same H1 H') ⟨none, none, [], rfl, upd_same, rfl, Same.new np⟩ (fun k σ H' hk ⟨v7, v8, zs, eσ, h1, hl, t1⟩ => ?_) (fun σ H' ⟨v7, v8, zs, eσ, h1, hl, t1⟩ => ?_)⟩
      · subst eσ
        have s2 := s1.trans t1
        obtain ⟨cc, j, r, ha, ho, hj, j0, j1⟩ := mark_idx hm hk
        refine ⟨_, rfl, _, _, rfl, rfl, _, rfl, sz_ok rfl, fun p2 n2 => ?_⟩
        have t2 := t1.more (o := .lst [.int (size - 1), .int 999999, .int count]) n2
        have h1' : upd H' p2 (.lst [.int (size - 1), .int 999999, .int count]) p = some (.lst (.str wd :: zs.map V.int)) := Same.new n2 _ _ h1
        have h2 : upd H' p2 (.lst [.int (size - 1), .int 999999, .int count]) p2 = some (.lst ([size - 1, 999999, count].map V.int)) := upd_same
        generalize upd H' p2 (.lst [.int (size - 1), .int 999999, .int count]) = H2 at t2 h1' h2
        have hlast : 0 ≤ ([size - 1, 999999, count] : List Int).getD j 0 := by
          have : j = 0 ∨ j = 1 ∨ j = 2 := by omega
          rcases this with rfl | rfl | rfl
          · show 0 ≤ size - 1
            omega
          · show (0 : Int) ≤ 999999
            omega
          · exact hc0
        refine ⟨rfl, _, rfl, _, rfl, z, _, cc, rfl, rfl, hzs, by rw [Int.zero_add]; exact ha, _, _, j, r, rfl, rfl, ho, ?_⟩
        refine ⟨p2, _, _, _, rfl, rfl, SqL.of h2, at_ints (ns := [size - 1, 999999, count]) (by omega) (by show (j : Int) < 3; omega), ?_⟩
        refine ⟨_, rfl, .inl ⟨rfl, _, SqL.of h1'⟩, _, rfl, _, rfl, _, _, rfl, rfl, a, ns, _, rfl, (s1.trans t2).seq hS, by omega, _, rfl, _, _, rfl, hlast, fun e H3 t3 => ?_⟩
        refine ⟨p, _, _, rfl, rfl, t3 _ _ h1', ?_, _, _, zs ++ [e], rfl, ?_, ?_, (t2.trans t3).mut np⟩
        · simp only [List.length_cons, List.length_map]
          exact Nat.lt_of_le_of_lt (by omega : _ ≤ 1001) (by decide)
        · rw [upd_same, List.map_append]
          rfl
        · rw [List.length_append, hl]
          rfl
      · subst eσ
        have s2 := s1.trans t1
        have hd : DpAll K H' (.str wd :: zs.map V.int) ((V.str wd :: zs.map V.int).map dOf) := dpAll_flat2 (by
          rw [List.all_cons, List.all_map]
          exact List.all_eq_true.mpr fun _ _ => rfl)
        have hok : ∀ d ∈ (V.str wd :: zs.map V.int).map dOf, okD 0 d := fun d hd => by
          rw [List.map_cons, List.map_map] at hd
          rcases List.mem_cons.mp hd with rfl | hd
          · exact okD.str _ hw
          · obtain ⟨n, _, rfl⟩ := List.mem_map.mp hd
            exact okD.int _ _
        have hlen : (V.str wd :: zs.map V.int).length = zs.length + 1 := by rw [List.length_cons, List.length_map]
        refine ⟨_, rfl, _, _, rfl, rfl, ⟨by decide, by decide⟩, _, _, rfl, rfl, (by show (0 : Int) < 16; decide), ?_⟩
        have hp := h1
        refine ⟨_, rfl, sz_ok rfl, fun p2 n2 => ?_⟩
        have t2 : Same H' (upd H' p2 (.tup [.int 1, .int 2])) := Same.new n2
        have g2 : upd H' p2 (.tup [.int 1, .int 2]) p2 = some (.tup [.int 1, .int 2]) := upd_same
        generalize upd H' p2 (.tup [.int 1, .int 2]) = H2 at t2 g2
        have hp2 := t2 _ _ hp
        have hd2 := dpAll_same t2 _ _ hd
        have n2p : H1 p = none := np
        refine ⟨p2, _, rfl, .inr (SqT.of g2), rfl, rfl, _, rfl, ?_⟩
        have fin : ∀ (od : Int) (v7 v8 : Option V), ∃ (c' od' : Int) (wd' : Str) (v5 v7' v8' : Option V) (p' : Addr) (xs : List V) (ds : List PyData), [some (V.ref a), some (.int size), some (.int count), some (.int c), some (.str wd), some (.str z), some (.ref p), v7, v8, some (.int od)] = [some (V.ref a), some (.int size), some (.int count), some (.int c'), some (.str wd'), v5, some (.ref p'), v7', v8', some (.int od')] ∧ PyData.strOk wd' = true ∧ H2 p' = some (.lst xs) ∧ DpAll K H2 xs ds ∧ (∀ d ∈ ds, okD 1 d) ∧ xs.length ≤ 10 ∧ Same H H2 :=
          fun od v7 v8 => ⟨c, od, wd, _, _, _, p, _, _, rfl, hw, hp2, hd2, fun d h => (hok d h).mono (by decide), by rw [hlen]; omega, s2.trans t2⟩
        generalize (if false = true then !inV _ _ else inV _ _) = k
        cases k with
        | false => exact ⟨rfl, fin _ _ _⟩
        | true =>
          by_cases h0 : zs = []
          · subst h0
            refine ⟨_, rfl, p, _, rfl, .inl (SqL.of hp2), _, _, rfl, rfl, false, bl_of (decide_eq_false (by simp)), ?_⟩
            exact ⟨rfl, fin _ _ _⟩
          · have hz1 : 0 < zs.length := List.length_pos_iff.mpr h0
            refine ⟨_, rfl, p, _, rfl, .inl (SqL.of hp2), _, _, rfl, rfl, true, bl_of (decide_eq_true (by rw [hlen]; omega)), ?_⟩
            refine ⟨sz_ok rfl, fun p3 n3 => ?_⟩
            have t3 : Same H2 (upd H2 p3 (.lst [.int 0])) := Same.new n3
            have g3 : upd H2 p3 (.lst [.int 0]) p3 = some (.lst [.int 0]) := upd_same
            generalize upd H2 p3 (.lst [.int 0]) = H3 at t3 g3
            refine ⟨sz_ok rfl, fun p4 n4 => ?_⟩
            have t4 : Same H3 (upd H3 p4 (.lst [.bl true, .str "0", .ref p3, .non])) := Same.new n4
            have g4 : upd H3 p4 (.lst [.bl true, .str "0", .ref p3, .non]) p4 = some (.lst [.bl true, .str "0", .ref p3, .non]) := upd_same
            generalize upd H3 p4 (.lst [.bl true, .str "0", .ref p3, .non]) = H4 at t4 g4
            have t24 := t3.trans t4
            have hp4 := t24 _ _ hp2
            refine ⟨_, rfl, a, ns, 8, rfl, ((s2.trans t2).trans t24).seq hS, by decide, _, _, rfl, rfl, (by show (0 : Int) < 4; decide), p4, _, _, _, rfl, rfl, SqL.of g4, at_getD (d := .non) (mod_nn _ (by decide)) (mod_lt _ (by decide)), ?_⟩
            have hv : ∃ d, Dp K H4 (([V.bl true, .str "0", .ref p3, .non] : List V).getD (cellAt ns 8 % 4).toNat .non) d ∧ okD 1 d ∧ ∀ H5, (∀ q o, q ≠ p → H4 q = some o → H5 q = some o) → Dp K H5 (([V.bl true, .str "0", .ref p3, .non] : List V).getD (cellAt ns 8 % 4).toNat .non) d := by
              have hi : (cellAt ns 8 % 4).toNat = 0 ∨ (cellAt ns 8 % 4).toNat = 1 ∨ (cellAt ns 8 % 4).toNat = 2 ∨ (cellAt ns 8 % 4).toNat = 3 := by omega
              rcases hi with e | e | e | e <;> rw [e]
              · exact ⟨_, .bl true, okD.bl _ _, fun _ _ => .bl true⟩
              · exact ⟨_, .str "0", okD.str _ (by decide +kernel), fun _ _ => .str "0"⟩
              · exact ⟨_, .lst (SqL.of (t4 _ _ g3)) (dpAll_flat2 rfl), ⟨rfl, by decide +kernel⟩, fun H5 h5 => .lst (SqL.of (h5 _ _ (ne_of_none hp2 n3).symm (t4 _ _ g3))) (dpAll_flat2 rfl)⟩
              · exact ⟨_, .non, okD.non _, fun _ _ => .non⟩
            obtain ⟨dv, _, okv, hv⟩ := hv
            generalize ([V.bl true, .str "0", .ref p3, .non] : List V).getD (cellAt ns 8 % 4).toNat .non = vv at hv
            have hm : 0 ≤ c / 960 % (((V.str wd :: zs.map V.int).length : Nat) - 1 : Int) ∧ c / 960 % (((V.str wd :: zs.map V.int).length : Nat) - 1 : Int) < (((V.str wd :: zs.map V.int).length : Nat) - 1 : Int) := by
              have : (0 : Int) < (((V.str wd :: zs.map V.int).length : Nat) - 1 : Int) := by rw [hlen]; omega
              exact ⟨mod_nn _ this, mod_lt _ this⟩
            refine ⟨_, rfl, _, rfl, _, _, rfl, rfl, ⟨by decide, by decide⟩, _, rfl, p, _, rfl, .inl (SqL.of hp4), _, _, rfl, rfl, _, _, rfl, rfl, (by rw [hlen]; omega), _, _, rfl, rfl, ?_⟩
            refine ⟨p, _, _, (1 + c / 960 % (((V.str wd :: zs.map V.int).length : Nat) - 1 : Int)).toNat, rfl, rfl, hp4, ?_, ?_⟩
            · unfold ixN
              rw [if_pos (by omega), if_pos (by omega)]
            have hset : DpAll K (upd H4 p (.lst ((V.str wd :: zs.map V.int).set (1 + c / 960 % (((V.str wd :: zs.map V.int).length : Nat) - 1 : Int)).toNat vv))) ((V.str wd :: zs.map V.int).set (1 + c / 960 % (((V.str wd :: zs.map V.int).length : Nat) - 1 : Int)).toNat vv) (((V.str wd :: zs.map V.int).map dOf).set (1 + c / 960 % (((V.str wd :: zs.map V.int).length : Nat) - 1 : Int)).toNat dv) :=
              dpA_set (hv _ fun q o hq e => by rw [upd_ne hq]; exact e) (dpAll_flat2 (by
                rw [List.all_cons, List.all_map]
                exact List.all_eq_true.mpr fun _ _ => rfl))
            refine ⟨rfl, c, _, wd, _, _, _, p, _, _, rfl, hw, upd_same, hset, fun d h => ?_, ?_, ?_⟩
            · rcases List.mem_or_eq_of_mem_set h with h | h
              · exact (hok d h).mono (by decide)
              · rw [h]; exact okv
            · rw [List.length_set, hlen]; omega
            · exact s1.trans (((t1.trans t2).trans t24).mut np)
    refine ⟨_, rfl, a, ns, 2, rfl, hS, by decide, ?_⟩
    generalize cellAt ns 2 = c
    refine ⟨sz_ok rfl, fun p1 n1 => ?_⟩
    generalize e1 : upd H p1 _ = H1
    have h1 : H1 p1 = some (.lst (names10.map V.str)) := e1 ▸ upd_same
    have s1 : Same H H1 := e1 ▸ Same.new n1
    refine ⟨_, rfl, _, _, rfl, rfl, (by show (0 : Int) < 10; decide), p1, _, _, _, rfl, rfl, SqL.of h1, at_strs_mod (ns := names10) c (by decide) rfl, ?_⟩
    have hi : (c % 10).toNat < 10 := by omega
    generalize (c % 10).toNat = i at hi
    refine ⟨_, rfl, _, rfl, fun H2 t2 => ?_⟩
    have s2 := s1.trans t2
    have mk : ∀ i, i < 10 → okM (marksOf (names10.getD i Str.empty)) = true ∧ okM (cutS (marksOf (names10.getD i Str.empty)) none (some (-1))) = true ∧ okM (marksOf (names10.getD i Str.empty) ++ "b") = true ∧ PyData.strOk (names10.getD i Str.empty) = true ∧ (marksOf (names10.getD i Str.empty)).length ≤ 3 := by decide +kernel
    obtain ⟨m1, m2, m3, m4, m5⟩ := mk i hi
    have hzs : (marksOf (names10.getD i Str.empty)).length ≤ sizeLine := Nat.le_trans m5 (by decide)
    have d10 : CDiv c 10 := ⟨by decide, by decide⟩
    have m6 : (0 : Int) < 6 := by decide
    by_cases hA : c / 10 % 6 = 1
    · refine ⟨_, rfl, _, _, rfl, rfl, d10, _, _, rfl, rfl, m6, rfl, true, bl_of (decide_eq_true (congrArg V.int hA)), ?_⟩
      refine ⟨_, rfl, _, rfl, _, rfl, _, rfl, hzs, ?_⟩
      refine ⟨_, rfl, _, _, rfl, rfl, d10, _, _, rfl, rfl, m6, rfl, false, bl_of (decide_eq_false fun e => by have := V.int.inj e; omega), ?_⟩
      exact ⟨rfl, c, _, _, rfl, m4, m2, s2⟩
    · refine ⟨_, rfl, _, _, rfl, rfl, d10, _, _, rfl, rfl, m6, rfl, false, bl_of (decide_eq_false fun e => hA (V.int.inj e)), ?_⟩
      by_cases hB : c / 10 % 6 = 2
      · refine ⟨_, rfl, _, _, rfl, rfl, d10, _, _, rfl, rfl, m6, rfl, true, bl_of (decide_eq_true (congrArg V.int hB)), ?_⟩
        refine ⟨_, rfl, _, _, rfl, rfl, Nat.le_trans (Nat.add_le_add m5 (by decide +kernel : Str.length "b" ≤ 1)) (by decide), ?_⟩
        exact ⟨rfl, c, _, _, rfl, m4, m3, s2⟩
      · refine ⟨_, rfl, _, _, rfl, rfl, d10, _, _, rfl, rfl, m6, rfl, false, bl_of (decide_eq_false fun e => hB (V.int.inj e)), ?_⟩
        exact ⟨rfl, c, _, _, rfl, m4, m1, s2⟩

theorem marks_none {z : Str} (e : shapeOf z = none) : marksOf z = Str.empty := by
  have hn : z ∉ wordsL := fun hm => by
    have h : ∀ z ∈ wordsL, (shapeOf z).isSome = true := by decide +kernel
    have := h z hm
    rw [e] at this
    cases this
  unfold marksOf
  have h : mTab.lookup z = none := by
    rw [List.lookup_eq_none_iff]
    intro x hx
    have h : ∀ x ∈ mTab, x.1 ∈ wordsL := by decide +kernel
    have hne : z ≠ x.1 := fun e => hn (e ▸ h x hx)
    simpa using hne
  rw [h]
  rfl
theorem marks_kinds {z : Str} {l : List Str} (e : shapeOf z = some l) : (marksOf z).length = l.length ∧ okM (marksOf z) = true ∧ marksOf z ≠ Str.empty ∧ ∀ k, k < l.length → ((marksOf z).cps.toList.getD k 0 = 98 ↔ l.getD k Str.empty = "box") ∧ ((marksOf z).cps.toList.getD k 0 = 110 ↔ l.getD k Str.empty = "number") :=
  sTab_cases (P := fun z l => (marksOf z).length = l.length ∧ okM (marksOf z) = true ∧ marksOf z ≠ Str.empty ∧ ∀ k, k < l.length → ((marksOf z).cps.toList.getD k 0 = 98 ↔ l.getD k Str.empty = "box") ∧ ((marksOf z).cps.toList.getD k 0 = 110 ↔ l.getD k Str.empty = "number")) (by decide +kernel) e
theorem fitK_bad {size count : Int} {l : List Str} {ps : List PyData} {k : Nat} (hk : k < l.length) (h : wholeIn (ps.getD k .none) 0 (lastOf size count (l.getD k Str.empty)) = false) : fitK size count l ps = false := by
  unfold fitK
  rw [Bool.eq_false_iff]
  intro z
  have := List.all_eq_true.mp z k (List.mem_range.mpr hk)
  rw [h] at this
  cases this
abbrev s__law_fits : Stmt := top 25
abbrev N__law_fits : List Str := ["_law_row", "_law_size", "_law_count", "_law_marks_here", "_law_k", "_law_last"]
theorem S__law_fits : FnScope N__law_fits ["_law_row", "_law_size", "_law_count"] (defScope s__law_fits) := ⟨rfl, rfl, rfl, by decide +kernel, rfl, by decide +kernel, by decide +kernel⟩

theorem c_law_fits (T : Txt K w mg) (D : DefAt K "_law_fits" s__law_fits) (C__law_whole : Cal P w K mg base CX0 1 "_law_whole" (spWhole K)) (C__law_marks : Cal P w K mg base CX0 1 "_law_marks" spMarks) : Cal P w K mg base CX0 2 "_law_fits" (spFits K) := by
  have S := S__law_fits
  refine cal_of T.toTop D S (fun _ _ _ _ _ _ us hl => match us, hl with | [_, _, _], _ => rfl) (fun vs H Q E h => ?_) (fun f cdv A outer s H vs Q E hr h => ?_)
  · obtain ⟨v, d, size, count, rfl, _⟩ := h
    rfl
  · obtain ⟨v, d, size, count, rfl, hd, q⟩ := h
    refine ⟨_, (pss_cons (ps_if (PW.pt (pw_or (pt_not (pt_val (pe_callB call_isi (by rfl) T.isinstance (by decide +kernel) (pa_cons (pv 0) (pa_cons ((pe_bltn (v := .ty "tuple") (u := .type "tuple") rfl T.tuple (by decide +kernel) rfl)) pa_nil))))) (pw_or (pt_cmpR op_eq (pe_callB call_len_seq (by rfl) T.len PySem.boot_len (pa_cons (pv 0) pa_nil)) pe_int (nomark _)) (pw_or1 (pt_not (pt_val (pe_callB call_isi (by rfl) T.isinstance (by decide +kernel) (pa_cons (pe_ix ix_tup (pv 0) pe_int (fun _ _ => rfl)) (pa_cons ((pe_bltn (v := .ty "str") (u := .type "str") rfl T.str (by decide +kernel) rfl)) pa_nil))))))))) (pss_one (ps_ret pe_bl)) pss_nil)
  (pss_cons (ps_set (i := 3) S.nd rfl (Or.inl rfl) (pe_c C__law_marks hr (by decide) rfl (pa_cons (pe_ix ix_tup (pv 0) pe_int (fun _ _ => rfl)) pa_nil)))
  (pss_cons (ps_if (PW.pt (pw_or (pt_cmpR op_eq (pv 3) pe_str (nomark _)) (pw_or1 (pt_cmpR op_ne (pe_callB call_len_seq (by rfl) T.len PySem.boot_len (pa_cons (pv 0) pa_nil)) (pe_op op_add pe_int (pe_callB call_len_str (by rfl) T.len PySem.boot_len (pa_cons (pv 3) pa_nil))) (nomark _))))) (pss_one (ps_ret pe_bl)) pss_nil)
  (pss_cons (ps_for PassesOwn.never rfl (pi_range1 rfl T.range (pa_cons (pe_callB call_len_str (by rfl) T.len PySem.boot_len (pa_cons (pv 3) pa_nil)) pa_nil)) (pg_name (i := 4) S.nd rfl (Or.inl rfl))
  (pss_cons (ps_set (i := 5) S.nd rfl (Or.inl rfl) (pe_ix ix_list (pe_lst (pa_cons (pe_op op_sub (pv 1) pe_int) (pa_cons pe_int (pa_cons (pv 2) pa_nil)))) (pe_bm PySem.F.plainAttrs_str PySem.F.slot_str_index PySem.F.type_str_index mt_sindex pe_str (pa_cons (pe_ix ix_str (pv 3) (pv 4) (fun _ _ => rfl)) pa_nil)) (fun _ _ => rfl)))
  (pss_one (ps_if (PW.pt (pw_or (pt_not (pt_val (pe_c C__law_whole hr (by decide) rfl (pa_cons (pe_ix ix_tup (pv 0) (pe_op op_add pe_int (pv 4)) (fun _ _ => rfl)) pa_nil)))) (pw_or1 (pt_not (pt_chain op_le op_le pe_int (pe_ix ix_tup (pv 0) (pe_op op_add pe_int (pv 4)) (fun _ _ => rfl)) (pv 5)))))) (pss_one (ps_ret pe_bl)) pss_nil))))
  (pss_one (ps_ret pe_bl)))))), ?_⟩
    have ty := dp_ty hd
    have q0 := q H (Same.refl H)
    refine ⟨_, rfl, _, _, _, _, _, rfl, .ty _, ty, kit_ty (kit_tup d), _, rfl, ?_⟩
    cases hd with
    | tup hq a =>
      cases a with
      | nil => exact ⟨_, rfl, _, _, rfl, .inr hq, rfl, true, rfl, q0⟩
      | @cons v1 vs1 d1 ds1 a1 a2 =>
        refine ⟨_, rfl, _, _, rfl, .inr hq, rfl, false, bl_of (decide_eq_false fun z => by have := V.int.inj z; simp only [List.length_cons] at this; omega), ?_⟩
        refine ⟨_, rfl, _, _, _, _, rfl, rfl, hq, at_in (by decide) rfl, _, _, _, _, _, rfl, .ty _, dp_ty a1, kit_ty (kit_str _), _, rfl, ?_⟩
        cases a1 with
        | str wd =>
          refine ⟨_, rfl, _, _, _, _, rfl, rfl, hq, at_in (v := .str wd) (by decide) rfl, wd, rfl, fun H1 s1 => ?_⟩
          cases eS : shapeOf wd with
          | none =>
            have q1 := q _ s1
            simp only [fitsD, eS] at q1
            refine ⟨_, rfl, rfl, true, bl_of (decide_eq_true (congrArg V.str (marks_none eS))), q1⟩
          | some l =>
            obtain ⟨hml, hmo, hme, hmk⟩ := marks_kinds eS
            have hl3 := (shape_len eS).2
            have hms : (marksOf wd).length ≤ sizeLine := Nat.le_trans (by omega : _ ≤ 3) (by decide)
            refine ⟨_, rfl, rfl, false, bl_of (decide_eq_false fun e => hme (V.str.inj e)), ?_⟩
            refine ⟨_, rfl, _, _, rfl, .inr (s1.sqt hq), _, rfl, _, rfl, hms, _, _, rfl, rfl, rfl, ?_⟩
            have hvl := dpA_len a2
            simp only [fitsD, eS] at q
            by_cases hc : ds1.length = l.length
            case neg =>
              have q1 := q _ s1
              rw [decide_eq_false hc, Bool.false_and] at q1
              refine ⟨true, bl_of (by simp only [List.length_cons, hml]; simp; omega), q1⟩
            rw [decide_eq_true hc, Bool.true_and] at q
            refine ⟨false, bl_of (by simp only [List.length_cons, hml]; simp; omega), ?_⟩
            refine ⟨_, rfl, _, rfl, hms, _, rfl, by omega, by omega, for_range (n := (marksOf wd).length) (fun k σ H' => ∃ v4 v5 : Option V, σ = [some (.ref _), some (.int size), some (.int count), some (.str (marksOf wd)), v4, v5] ∧ Same H1 H' ∧ ∀ j, j < k → wholeIn (ds1.getD j .none) 0 (lastOf size count (l.getD j Str.empty)) = true) ⟨none, none, rfl, Same.refl _, fun j h => absurd h (Nat.not_lt_zero _)⟩ (fun k σ H' hk ⟨v4, v5, eσ, t1, hall⟩ => ?_) (fun σ H' ⟨v4, v5, eσ, t1, hall⟩ => ?_)⟩
            · subst eσ
              obtain ⟨cc, j, r, ha, ho, hj, j0, j1⟩ := mark_idx hmo hk
              refine ⟨_, rfl, _, _, rfl, rfl, _, rfl, sz_ok rfl, fun p2 n2 => ?_⟩
              have t2 := t1.more (o := .lst [.int (size - 1), .int 999999, .int count]) n2
              have h2 : upd H' p2 (.lst [.int (size - 1), .int 999999, .int count]) p2 = some (.lst ([size - 1, 999999, count].map V.int)) := upd_same
              generalize upd H' p2 (.lst [.int (size - 1), .int 999999, .int count]) = H2 at t2 h2
              refine ⟨rfl, _, rfl, _, rfl, marksOf wd, _, cc, rfl, rfl, hms, by rw [Int.zero_add]; exact ha, _, _, j, r, rfl, rfl, ho, ?_⟩
              refine ⟨p2, _, _, _, rfl, rfl, SqL.of h2, at_ints (ns := [size - 1, 999999, count]) (by omega) (by show (j : Int) < 3; omega), ?_⟩
              have hlast : ([size - 1, 999999, count] : List Int).getD j 0 = lastOf size count (l.getD k Str.empty) := by
                have hkl : k < l.length := by omega
                obtain ⟨kb, kn⟩ := hmk k hkl
                have hcl : k < (marksOf wd).cps.toList.length := by simpa [Str.length] using hk
                have ecc : (marksOf wd).cps.toList.getD k 0 = cc := by
                  have h5 : atI (marksOf wd).cps.toList (k : Int) = some (marksOf wd).cps.toList[k] := at_in (by omega) (by rw [Int.toNat_natCast]; exact List.getElem?_eq_getElem hcl)
                  rw [h5] at ha
                  rw [List.getD_eq_getElem?_getD, List.getElem?_eq_getElem hcl]
                  exact Option.some.inj ha
                rw [ecc] at kb kn
                have : j = 0 ∨ j = 1 ∨ j = 2 := by omega
                unfold lastOf
                rcases this with rfl | rfl | rfl
                · rw [if_pos (kb.mp (j0.mp rfl))]; rfl
                · rw [if_neg (fun e => by have := j0.mpr (kb.mpr e); omega), if_pos (kn.mp (j1.mp rfl))]; rfl
                · rw [if_neg (fun e => by have := j0.mpr (kb.mpr e); omega), if_neg (fun e => by have := j1.mpr (kn.mpr e); omega)]; rfl
              rw [show (((j : Nat) : Int)).toNat = j from rfl, hlast]
              have hkv : k < vs1.length := by omega
              obtain ⟨dk, edk, hdk⟩ := dpA_get a2 (List.getElem?_eq_getElem hkv)
              have hdk2 := dp_same (s1.trans t2) _ _ hdk
              have hat : atI (V.str wd :: vs1) (1 + (0 + (k : Int))) = some vs1[k] := by
                refine at_in (by omega) ?_
                rw [show (1 + (0 + (k : Int))).toNat = k + 1 by omega, List.getElem?_cons_succ]
                exact List.getElem?_eq_getElem hkv
              have egd : ds1.getD k .none = dk := by rw [List.getD_eq_getElem?_getD, edk]; rfl
              have hbad : wholeIn dk 0 (lastOf size count (l.getD k Str.empty)) = false → Q (.bl false) H2 := fun e => by
                have q2 := q _ (s1.trans t2)
                rw [fitK_bad (k := k) (by omega) (by rw [egd]; exact e)] at q2
                exact q2
              have hgood : wholeIn dk 0 (lastOf size count (l.getD k Str.empty)) = true → ∀ i, i < k + 1 → wholeIn (ds1.getD i .none) 0 (lastOf size count (l.getD i Str.empty)) = true := fun e i hi => by
                by_cases h : i < k
                · exact hall i h
                · have : i = k := by omega
                  rw [this, egd]
                  exact e
              refine ⟨_, rfl, _, rfl, _, _, rfl, rfl, _, _, _, _, rfl, rfl, (s1.trans t2).sqt hq, hat, _, _, rfl, dp_ty hdk2, kit_int _, kit_bool _, _, rfl, ?_⟩
              generalize vs1[k] = vk at hat hdk2
              cases hdk2 with
              | int n =>
                refine ⟨_, rfl, _, rfl, _, _, rfl, rfl, _, _, _, _, rfl, rfl, (s1.trans t2).sqt hq, hat, _, _, rfl, rfl, ?_⟩
                have hw : wholeIn (.int n) 0 (lastOf size count (l.getD k Str.empty)) = (decide (0 ≤ n) && decide (n ≤ lastOf size count (l.getD k Str.empty))) := rfl
                by_cases h0 : 0 ≤ n
                case neg =>
                  rw [decide_eq_false h0, Bool.false_and] at hw
                  exact ⟨false, bl_of (decide_eq_false h0), _, rfl, hbad hw⟩
                refine ⟨true, bl_of (decide_eq_true h0), _, rfl, _, _, rfl, rfl, ?_⟩
                by_cases h1 : n ≤ lastOf size count (l.getD k Str.empty)
                case neg =>
                  rw [decide_eq_false h1, Bool.and_false] at hw
                  exact ⟨false, bl_of (decide_eq_false h1), hbad hw⟩
                rw [decide_eq_true h0, decide_eq_true h1] at hw
                exact ⟨true, bl_of (decide_eq_true h1), _, _, rfl, t2, hgood hw⟩
              | _ => exact hbad rfl
            · subst eσ
              have hf : fitK size count l ds1 = true := by
                unfold fitK
                exact List.all_eq_true.mpr fun j hj => hall j (by have := List.mem_range.mp hj; omega)
              have q2 := q _ (s1.trans t1)
              rw [hf] at q2
              exact q2
        | _ => exact q0
    | _ => exact q0

def rowJ (count : Int) (j : Nat) : List V := [.str "jump", .int (((j : Int) + 1) % (count + 1))]
def dsJ (count : Int) (n : Nat) : List PyData := (List.range n).map fun j => .tuple ((rowJ count j).map dOf)
theorem fits_jump {size count m : Int} (h0 : 0 ≤ m) (h1 : m ≤ count) : fitsD (.tuple [.str "jump", .int m]) size count = true := by
  rw [fitsD_yes (l := ["place"]) (by rfl) rfl]
  show (wholeIn (.int m) 0 (lastOf size count "place") && true) = true
  have e : lastOf size count "place" = count := rfl
  rw [e]
  show ((decide (0 ≤ m) && decide (m ≤ count)) && true) = true
  rw [decide_eq_true h0, decide_eq_true h1]
  rfl
theorem jump_in (count : Int) (h : 0 ≤ count) (j : Nat) : 0 ≤ ((j : Int) + 1) % (count + 1) ∧ ((j : Int) + 1) % (count + 1) ≤ count :=
  ⟨Int.emod_nonneg _ (by omega), by have := Int.emod_lt_of_pos ((j : Int) + 1) (by omega : 0 < count + 1); omega⟩
theorem dsJ_all {size count : Int} {n : Nat} (hn : count = (n : Nat)) : ∀ d ∈ dsJ count n, fitsD d size (n : Nat) = true := fun d hd => by
  obtain ⟨j, _, rfl⟩ := List.mem_map.mp hd
  have h := jump_in count (by omega) j
  exact fits_jump h.1 (by omega)
theorem dsJ_ok {count : Int} {n : Nat} : ∀ d ∈ dsJ count n, okD 2 d := fun d hd => by
  obtain ⟨j, _, rfl⟩ := List.mem_map.mp hd
  exact ⟨(by show (PyData.strOk "jump" && (true && true)) = true; decide +kernel), (by show max 0 (max 0 0) + 1 ≤ 2; decide)⟩
theorem dsJ_len (count : Int) (n : Nat) : (dsJ count n).length = n := by
  unfold dsJ
  rw [List.length_map, List.length_range]
theorem good_J {size count : Int} {n : Nat} (hn : count = (n : Nat)) : goodR (dsJ count n) size = decide (count ≤ 200) := by
  unfold goodR
  rw [dsJ_len, List.all_eq_true.mpr (fun d hd => dsJ_all hn d hd), Bool.and_true, Bool.eq_iff_iff, decide_eq_true_eq, decide_eq_true_eq]
  omega
theorem good_set {size count : Int} {n i : Nat} {d : PyData} (hn : count = (n : Nat)) (hi : i < n) : goodR ((dsJ count n).set i d) size = (decide (count ≤ 200) && fitsD d size count) := by
  unfold goodR
  rw [List.length_set, dsJ_len, hn]
  congr 1
  · rw [Bool.eq_iff_iff, decide_eq_true_eq, decide_eq_true_eq]
    omega
  · rw [Bool.eq_iff_iff, List.all_eq_true]
    constructor
    · intro h
      exact h d (List.mem_of_getElem? (i := i) (by rw [List.getElem?_set_self (by rw [dsJ_len]; exact hi)]))
    · intro h e he
      rcases List.mem_or_eq_of_mem_set he with h2 | h2
      · exact dsJ_all rfl e (hn ▸ h2)
      · rw [h2]; exact h
abbrev s_law : Stmt := top 27
abbrev N_law : List Str := ["_law_script", "_law_size", "_law_count", "_law_row", "_law_due", "_law_found", "_law_rows", "_law_good", "_law_given", "_law_e", "_law_k"]
theorem S_law : FnScope N_law ["_law_script"] (defScope s_law) := ⟨rfl, rfl, rfl, by decide +kernel, rfl, by decide +kernel, by decide +kernel⟩

theorem ok_law {C0 cL : Addr} {cs : List Addr} (T : Txt K w mg) (D : DefAt K "law" s_law) (X_BadRow : ExcT K mg "BadRow" C0) (eP : PySem.W.exmOne K (.ref C0) (.ref C0) = some true) (hAl : AloneAt K cs cL C0 0)
    (c_cell : ∀ base, Cal P w K mg base CX0 1 "_law_cell_at" (spCellAt K)) (c_size : ∀ base, Cal P w K mg base CX0 1 "_law_size_by" spSizeBy) (c_thing : ∀ base, Cal P w K mg base CX0 3 "_law_thing_by" (spThingBy K)) (c_lfits : ∀ base, Cal P w K mg base CX0 2 "_law_fits" (spFits K))
    (c_fit : ∀ base, Cal P w K mg base CX0 3 "fits" (spFits K)) (c_al : ∀ base, CalS P w K mg base 1 "_law_alone" (spAlone K cs cL)) (c_chk : ∀ base, Cal P w K mg base (L2.CX P w) 4 "checked" (spChecked K C0)) : LawOk P w K mg 5 := by
  have S := S_law
  refine law_of T.toTop D S (fun _ _ _ _ _ _ _ => rfl) (fun base f cdv A outer s H a ns Q E hr hS hlen q => ?_)
  have C__law_cell_at := c_cell base
  have C__law_size_by := c_size base
  have C__law_thing_by := c_thing base
  have C__law_fits := c_lfits base
  have C_fits := c_fit base
  have C__law_alone := c_al base
  have C_checked := c_chk base
  have hu64 := hu64_of hr
  refine ⟨_, (pss_cons (ps_set (i := 1) S.nd rfl (Or.inl rfl) (pe_c C__law_size_by hr (by decide) rfl (pa_cons (pe_c C__law_cell_at hr (by decide) rfl (pa_cons (pv 0) (pa_cons pe_int pa_nil))) pa_nil)))
  (pss_cons (ps_set (i := 2) S.nd rfl (Or.inr rfl) (pe_ix ix_list (pe_lst (pa_cons (pe_op op_mod (pe_op op_fdiv (pe_c C__law_cell_at hr (by decide) rfl (pa_cons (pv 0) (pa_cons pe_int pa_nil))) pe_int) pe_int) (pa_cons pe_int (pa_cons pe_int (pa_cons pe_int pa_nil))))) (pe_op op_mod (pe_c C__law_cell_at hr (by decide) rfl (pa_cons (pv 0) (pa_cons pe_int pa_nil))) pe_int) (fun _ _ => rfl)))
  (pss_cons (ps_set (i := 3) S.nd rfl (Or.inl rfl) (pe_c C__law_thing_by hr (by decide) rfl (pa_cons (pv 0) (pa_cons (pv 1) (pa_cons (pv 2) pa_nil)))))
  (pss_cons (ps_set (i := 4) S.nd rfl (Or.inl rfl) (pe_c C__law_fits hr (by decide) rfl (pa_cons (pv 3) (pa_cons (pv 1) (pa_cons (pv 2) pa_nil)))))
  (pss_cons (ps_set (i := 5) S.nd rfl (Or.inl rfl) (pe_c C_fits hr (by decide) rfl (pa_cons (pv 3) (pa_cons (pv 1) (pa_cons (pv 2) pa_nil)))))
  (pss_cons (ps_if (PW.pt (pw_or (pt_not (pt_val (pe_callB call_isi (by rfl) T.isinstance (by decide +kernel) (pa_cons (pv 5) (pa_cons ((pe_bltn (v := .ty "bool") (u := .type "bool") rfl T.bool (by decide +kernel) rfl)) pa_nil))))) (pw_or1 (pt_cmpR (op_neD hu64) (pv 5) (pv 4) (nomark _))))) (pss_one (ps_ret pe_bl)) pss_nil)
  (pss_cons (ps_setLc (i := 6) (own := [("_law_k", 10)]) (g := gName 10) (tt := tYes) rfl S.nd rfl rfl (sw_true rfl rfl rfl (by decide +kernel)) (pi_range1 rfl T.range (pa_cons (pv 2) pa_nil)) (blkOk_by (own := [("_law_k", 10)]) (N := N_law) (sc := defScope s_law) (by decide +kernel)) (fun _ _ _ _ _ => pg_name (i := 10) S.nd rfl (Or.inl rfl)) (fun _ _ _ _ _ => pts_nil) (fun _ _ _ _ _ => (pe_tup (pa_cons pe_str (pa_cons (pe_op op_mod (pe_op op_add (pv 10) pe_int) (pe_op op_add (pv 2) pe_int)) pa_nil)))))
  (pss_cons (ps_set (i := 7) S.nd rfl (Or.inl rfl) (pe_cmpR op_le (pv 2) pe_int (nomark _)))
  (pss_cons (ps_if (PW.pt (pw_and (pt_cmpR op_gt (pv 2) pe_int (nomark _)) (pw_and1 (pt_cmpR op_gt (pe_op op_mod (pe_c C__law_cell_at hr (by decide) rfl (pa_cons (pv 0) (pa_cons pe_int pa_nil))) pe_int) pe_int (nomark _))))) (pss_cons (ps_asg (pv 3) (pg_sub (pv 6) (pe_op op_mod (pe_op op_fdiv (pe_c C__law_cell_at hr (by decide) rfl (pa_cons (pv 0) (pa_cons pe_int pa_nil))) pe_int) (pv 2)) set_list))
  (pss_one (ps_set (i := 7) S.nd rfl (Or.inl rfl) (pe_and (pv 7) (pe_one (pv 4)))))) pss_nil)
  (pss_cut (D := { nx := fun _ H' => Q .non H', rt := Q }) (P := fun σ H' => ∃ (sz : Int) (v2 v3 v4 v5 : Option V) (p : Addr) (g : Bool) (xs : List V) (ds : List PyData), σ = [some (.ref a), some (.int sz), v2, v3, v4, v5, some (.ref p), some (.bl g), none, none, none] ∧ H' p = some (.lst xs) ∧ DpAll K H' xs ds ∧ (∀ d ∈ ds, okD 2 d) ∧ goodR ds sz = g ∧ xs.length ≤ 201) ?tail)))))))))), ?_⟩
  case tail =>
    refine ⟨_, (pss_cons (ps_set (i := 8) S.nd rfl (Or.inl rfl) (pe_callTy call_list_of (by rfl) T.list (by decide +kernel) (pa_cons (pv 6) pa_nil)))
  (pss_cons (ps_try_as (i := 9) rfl rfl S.nd rfl rfl ⟨rfl, by decide, .inl X_BadRow.g⟩ takes0 (fun W pn xe tk _ => (pss_one (ps_set (i := 5) S.nd rfl (Or.inl rfl) (pe_cx C_checked tk hr (by decide) rfl (pa_cons (pv 8) (pa_cons (pv 1) pa_nil)))))) (fun a oe cls d pn hz hf => (pss_one (ps_ret (pe_and (pe_not (pv 7)) (pe_one (pe_su C__law_alone hz hf hr (by decide) rfl (pa_cons (pv 9) (pa_cons pe_int pa_nil)))))))))
  (pss_cons (ps_if (PW.pt (pw_or (pt_not (pt_val (pv 7))) (pw_or (pt_not (pt_val (pe_callB call_isi (by rfl) T.isinstance (by decide +kernel) (pa_cons (pv 5) (pa_cons ((pe_bltn (v := .ty "list") (u := .type "list") rfl T.list (by decide +kernel) rfl)) pa_nil))))) (pw_or (pt_cmpR (op_neD hu64) (pv 5) (pv 6) (nomark _)) (pw_or1 (pt_cmpR (op_neD hu64) (pv 8) (pv 6) (nomark _))))))) (pss_one (ps_ret pe_bl)) pss_nil)
  (pss_cons (ps_expr (pe_bm PySem.F.plainAttrs_list PySem.F.slot_list_append PySem.F.type_list_append mt_append (pv 5) (pa_cons pe_non pa_nil)))
  (pss_one (ps_ret (pe_cmpR (op_eqD hu64) (pv 8) (pv 6) (nomark _)))))))), fun σ H1 h => ?_⟩
    obtain ⟨sz, v2, v3, v4, v5, p, g, xs, ds, rfl, hp, hd, hok, hg, hl⟩ := h
    refine ⟨_, rfl, p, _, rfl, .inl (SqL.of hp), fun l nl => ?_⟩
    have t2 : Same H1 (upd H1 l (.lst xs)) := Same.new nl
    have gl : upd H1 l (.lst xs) l = some (.lst xs) := upd_same
    generalize upd H1 l (.lst xs) = H2 at t2 gl
    have hd2 := dpAll_same t2 _ _ hd
    have hp2 := t2 _ _ hp
    have hsh := (okD.lst hok).shaped (by decide)
    refine ⟨_, rfl, _, rfl, l, xs, ds, sz, rfl, SqL.of gl, hd2, by omega, fun hgood H3 p3 t3 n3 h3 => ?_, fun hbad H3 t3 => ?_⟩
    · rw [hg] at hgood
      subst hgood
      have hd3 := dpAll_same t3 _ _ hd2
      refine ⟨_, rfl, _, rfl, ?_⟩
      refine ⟨_, rfl, _, _, _, _, _, rfl, .ty _, ty_l (SqL.of h3), kit_ty (r := true) (by decide +kernel), _, rfl, ?_⟩
      refine ⟨_, rfl, _, rfl, _, _, .lst (SqL.of h3) hd3, .lst (SqL.of (t3 _ _ hp2)) hd3, hsh, hsh, ?_⟩
      refine ⟨false, bl_of (by rw [eqv_same hsh]; rfl), ?_⟩
      refine ⟨_, rfl, _, rfl, _, _, .lst (SqL.of (t3 _ _ gl)) hd3, .lst (SqL.of (t3 _ _ hp2)) hd3, hsh, hsh, false, bl_of (by rw [eqv_same hsh]; rfl), ?_⟩
      refine ⟨_, rfl, .inl ⟨rfl, _, SqL.of h3⟩, p3, _, _, rfl, rfl, h3, Nat.lt_of_le_of_lt hl (by decide), ?_⟩
      have t4 : Same H2 (upd H3 p3 (.lst (xs ++ [V.non]))) := t3.mut n3
      have hd4 := dpAll_same t4 _ _ hd2
      refine ⟨_, rfl, _, rfl, _, _, .lst (SqL.of (t4 _ _ gl)) hd4, .lst (SqL.of (t4 _ _ hp2)) hd4, hsh, hsh, ?_⟩
      rw [eqv_same hsh]
      exact q _
    · rw [hg] at hbad
      subst hbad
      refine ⟨true, eP, fun _ px npx => ?_, fun q => nomatch q⟩
      refine ⟨_, rfl, _, rfl, ?_⟩
      exact ⟨true, rfl, _, rfl, C0, rfl, rfl, 0, rfl, by decide, hAl, fun H4 s4 => q _⟩
  refine ⟨_, rfl, a, ns, 0, rfl, hS, by decide, _, rfl, fun sz H1 hs1 hs2 s1 => ?_⟩
  refine ⟨_, rfl, a, ns, 1, rfl, s1.seq hS, by decide, _, _, rfl, rfl, ⟨by decide, by decide⟩, _, _, rfl, rfl, (by show (0 : Int) < 10; decide), sz_ok rfl, fun p1 n1 => ?_⟩
  have s2 : Same H (upd H1 p1 (.lst [.int (cellAt ns 1 / 4 % 10), .int 200, .int 201, .int 1])) := s1.more n1
  have g2 : upd H1 p1 (.lst [.int (cellAt ns 1 / 4 % 10), .int 200, .int 201, .int 1]) p1 = some (.lst ([cellAt ns 1 / 4 % 10, 200, 201, 1].map V.int)) := upd_same
  generalize upd H1 p1 (.lst [.int (cellAt ns 1 / 4 % 10), .int 200, .int 201, .int 1]) = H2 at s2 g2
  refine ⟨_, rfl, a, ns, 1, rfl, s2.seq hS, by decide, _, _, rfl, rfl, (by show (0 : Int) < 4; decide), p1, _, _, _, rfl, rfl, SqL.of g2, at_ints_mod (ns := [cellAt ns 1 / 4 % 10, 200, 201, 1]) _ (by decide) rfl, ?_⟩
  have hc : 0 ≤ ([cellAt ns 1 / 4 % 10, 200, 201, 1] : List Int).getD (cellAt ns 1 % 4).toNat 0 ∧ ([cellAt ns 1 / 4 % 10, 200, 201, 1] : List Int).getD (cellAt ns 1 % 4).toNat 0 ≤ 201 := by
    have hi : (cellAt ns 1 % 4).toNat = 0 ∨ (cellAt ns 1 % 4).toNat = 1 ∨ (cellAt ns 1 % 4).toNat = 2 ∨ (cellAt ns 1 % 4).toNat = 3 := by omega
    rcases hi with e | e | e | e <;> rw [e] <;> simp only [List.getD_cons_zero, List.getD_cons_succ] <;> omega
  generalize ([cellAt ns 1 / 4 % 10, 200, 201, 1] : List Int).getD (cellAt ns 1 % 4).toNat 0 = count at hc
  refine ⟨_, rfl, _, rfl, _, rfl, a, ns, sz, count, rfl, s2.seq hS, hs1, hc.1, fun v d H3 s3 hd hok => ?_⟩
  have s3' := s2.trans s3
  refine ⟨_, rfl, _, rfl, _, rfl, v, d, sz, count, rfl, hd, fun H4 s4 => ?_⟩
  have hd4 := dp_same s4 _ _ hd
  refine ⟨_, rfl, _, rfl, _, rfl, v, d, sz, count, rfl, hd4, fun H5 s5 => ?_⟩
  have hd5 := dp_same s5 _ _ hd4
  have s6 := (s3'.trans s4).trans s5
  refine ⟨_, rfl, _, _, _, _, _, rfl, .ty _, .base (.bl _), kit_ty (r := true) (by decide +kernel), _, rfl, ?_⟩
  refine ⟨_, rfl, _, rfl, .bool _, .bool _, .bl _, .bl _, rfl, rfl, false, bl_of (by rw [eqv_same rfl]; rfl), ?_⟩
  obtain ⟨n, hn⟩ : ∃ n : Nat, count = (n : Nat) := ⟨count.toNat, by omega⟩
  subst hn
  have hpos : (0 : Int) < (n : Int) + 1 := by omega
  refine ⟨_, rfl, _, rfl, by omega, by omega, fun p np => lc_tr (n := n) (rowJ (n : Int)) np (small1000 (by omega)) (fun i H' hi s7 k1 k0 h1 => ?_) (fun H6 acc s7 h6 hl hacc => ?_)⟩
  · refine ⟨rfl, _, rfl, _, _, rfl, rfl, _, rfl, _, _, rfl, rfl, _, _, rfl, rfl, hpos, sz_ok rfl, fun q nq => h1 q _ ?_ (Same.new nq)⟩
    rw [upd_same, Int.zero_add]
    rfl
  · have hda : ∀ H' : Hp, (∀ q u, H6 q = some (.tup u) → H' q = some (.tup u)) → DpAll K H' acc (dsJ (n : Int) n) := fun H' hh => dpA_by (by rw [hl, dsJ_len]) fun j v' e => by
      have hj : j < n := by
        obtain ⟨hj, _⟩ := List.getElem?_eq_some_iff.mp e
        omega
      obtain ⟨q, e1, e2⟩ := hacc j hj
      rw [e1] at e
      cases e
      refine ⟨.tuple ((rowJ (n : Int) j).map dOf), ?_, .tup (SqT.of (hh _ _ e2)) (dpAll_flat2 rfl)⟩
      unfold dsJ
      rw [List.getElem?_map, List.getElem?_range hj]
      rfl
    refine ⟨_, rfl, _, _, rfl, rfl, ?_⟩
    refine ⟨_, rfl, _, _, rfl, rfl, ?_⟩
    by_cases h0 : (0 : Int) < n
    case neg =>
      refine ⟨false, bl_of (decide_eq_false h0), ?_⟩
      exact ⟨rfl, sz, _, _, _, _, p, _, acc, _, rfl, h6, hda _ fun _ _ h => h, dsJ_ok, good_J rfl, by omega⟩
    refine ⟨true, bl_of (decide_eq_true h0), ?_⟩
    have s8 := s6.trans s7
    refine ⟨_, rfl, a, ns, 7, rfl, s8.seq hS, by decide, _, _, rfl, rfl, (by show (0 : Int) < 3; decide), _, _, rfl, rfl, ?_⟩
    by_cases h7 : 0 < cellAt ns 7 % 3
    case neg =>
      refine ⟨false, bl_of (decide_eq_false h7), ?_⟩
      exact ⟨rfl, sz, _, _, _, _, p, _, acc, _, rfl, h6, hda _ fun _ _ h => h, dsJ_ok, good_J rfl, by omega⟩
    refine ⟨true, bl_of (decide_eq_true h7), ?_⟩
    have hm : 0 ≤ cellAt ns 7 / 3 % (n : Int) ∧ cellAt ns 7 / 3 % (n : Int) < (n : Int) := ⟨mod_nn _ h0, mod_lt _ h0⟩
    refine ⟨_, rfl, _, rfl, _, rfl, a, ns, 7, rfl, s8.seq hS, by decide, _, _, rfl, rfl, ⟨by decide, by decide⟩, _, rfl, _, _, rfl, rfl, h0, ?_⟩
    refine ⟨p, _, _, (cellAt ns 7 / 3 % (n : Int)).toNat, rfl, rfl, h6, ?_, ?_⟩
    · unfold ixN
      rw [hl, if_pos (by omega), if_pos (by omega)]
    have hset : DpAll K (upd H6 p (.lst (acc.set (cellAt ns 7 / 3 % (n : Int)).toNat v))) (acc.set (cellAt ns 7 / 3 % (n : Int)).toNat v) ((dsJ (n : Int) n).set (cellAt ns 7 / 3 % (n : Int)).toNat d) :=
      dpA_set (dp_same (s7.mut np) _ _ hd5) (hda _ fun q u e => by
        rw [upd_ne fun z => by rw [z, h6] at e; cases e]
        exact e)
    have hok2 : ∀ e ∈ (dsJ (n : Int) n).set (cellAt ns 7 / 3 % (n : Int)).toNat d, okD 2 e := fun e he => by
      rcases List.mem_or_eq_of_mem_set he with h | h
      · exact dsJ_ok _ h
      · rw [h]; exact hok
    have hgs := good_set (size := sz) (d := d) rfl (by omega : (cellAt ns 7 / 3 % (n : Int)).toNat < n)
    by_cases h2 : (n : Int) ≤ 200
    · rw [decide_eq_true h2, Bool.true_and] at hgs
      exact ⟨_, rfl, true, bl_of (decide_eq_true h2), _, rfl, rfl, sz, _, _, _, _, p, _, _, _, rfl, upd_same, hset, hok2, hgs, by rw [List.length_set]; omega⟩
    · rw [decide_eq_false h2, Bool.false_and] at hgs
      exact ⟨_, rfl, false, bl_of (decide_eq_false h2), rfl, sz, _, _, _, _, p, _, _, _, rfl, upd_same, hset, hok2, by first | exact hgs | (rw [hgs]; exact (decide_eq_false h2).symm), by rw [List.length_set]; omega⟩

theorem isStr_lit (x z : Str) (t : Tok) : (Value.str x t).isStr z = decide (z = x) := by
  have h : (Value.str x t).isStr z = (x == z) := rfl
  rw [h, Bool.eq_iff_iff, beq_iff_eq, decide_eq_true_eq]
  exact eq_comm
/-- a written dict of tuples of texts, entry by entry -/
def TabOk (K : PySem.W.Frag) : List DictEntry → List (Str × List Str) → Prop
  | [], [] => True
  | e :: es, (k, l) :: r => (∃ t a, e.key = .str k t ∧ e.val = .ref a ∧ ∀ H, SqT K H a (l.map V.str)) ∧ e.refKey = false ∧ TabOk K es r
  | _, _ => False
theorem sqt_mk {K : PySem.W.Frag} {a : Addr} {dd : Option Addr} {us : Array Value} {n : Nat} {sl : Array (Option Value)} {xs : List V} (h : K.lookup a = some ⟨.type "tuple", dd, .seq us n, sl⟩) (hz : Nat.ble us.size 1000 = true) (hv : Vals xs us.toList) : ∀ H, SqT K H a xs :=
  fun H => .inr ⟨_, us, n, h, rfl, rfl, sz_ok hz, hv⟩
theorem tab_get {K : PySem.W.Frag} : ∀ {es : List DictEntry} {r : List (Str × List Str)}, TabOk K es r → ∀ z, (r.lookup z = none ∧ es.find? (·.key.isStr z) = none) ∨ ∃ l e a, r.lookup z = some l ∧ es.find? (·.key.isStr z) = some e ∧ e.val = .ref a ∧ ∀ H, SqT K H a (l.map V.str)
  | [], [], _, z => .inl ⟨rfl, rfl⟩
  | e :: es, (k, l) :: r, h, z => by
    obtain ⟨⟨t, a, hk, hv, hs⟩, _, hr⟩ := h
    by_cases hz : z = k
    · subst hz
      refine .inr ⟨l, e, a, by rw [List.lookup_cons]; simp, ?_, hv, hs⟩
      have h1 : e.key.isStr z = true := by rw [hk, isStr_lit]; exact decide_eq_true rfl
      exact List.find?_cons_of_pos (p := fun (x : DictEntry) => x.key.isStr z) h1
    · have e1 : ((k, l) :: r).lookup z = r.lookup z := by
        rw [List.lookup_cons, show (z == k) = false from beq_eq_false_iff_ne.mpr hz]
      have e2 : (e :: es).find? (·.key.isStr z) = es.find? (·.key.isStr z) := by
        have h1 : ¬ e.key.isStr z = true := by rw [hk, isStr_lit]; simp [hz]
        exact List.find?_cons_of_neg (p := fun (x : DictEntry) => x.key.isStr z) h1
      rw [e1, e2]
      exact tab_get hr z
  | [], _ :: _, h, _ => h.elim
  | _ :: _, [], h, _ => h.elim
theorem tab_ref {K : PySem.W.Frag} : ∀ {es : List DictEntry} {r : List (Str × List Str)}, TabOk K es r → es.any (·.refKey) = false
  | [], [], _ => rfl
  | e :: es, (k, l) :: r, h => by
    obtain ⟨_, h2, hr⟩ := h
    rw [List.any_cons, h2, tab_ref hr]
    rfl
  | [], _ :: _, h => h.elim
  | _ :: _, [], h => h.elim
theorem glob_mk {K : PySem.W.Frag} {x : Str} {v : V} {u : Value} (h : PySem.W.nsIn K mainGlobals x = some (some u)) (r : RelV v u) : ∃ u, PySem.W.nsIn K mainGlobals x = some (some u) ∧ RelV v u := ⟨u, h, r⟩
/-- the table of the rows' words, by its nine entries -/
theorem shapes_mk {K : PySem.W.Frag} {w : World} {mg : Str → Option Value} {dS : Addr} {es : Array DictEntry} {n : Nat} (g : mg "SHAPES" = some (.ref dS)) (at_ : K.lookup dS = some ⟨.type "dict", none,   .dict es n, #[]⟩) (low : (dS == sysModules) = false)
    (lit : PySem.W.KeysLit w.params es.toList) (tab : TabOk K es.toList sTab) : Shapes K w mg dS := by
  have hr := tab_ref tab
  have ns1 : ∀ z e, es.toList.find? (·.key.isStr z) = some e → PySem.W.nsIn K dS z = some (some e.val) := fun z e h => by
    unfold PySem.W.nsIn
    rw [at_]
    simp only [h]
  have ns0 : ∀ z, es.toList.find? (·.key.isStr z) = none → PySem.W.nsIn K dS z = some none := fun z h => by
    unfold PySem.W.nsIn
    rw [at_]
    simp only [h, hr]
    rfl
  refine ⟨g, ⟨es, n, at_, lit, low⟩, fun z hz => ?_, fun z l hz => ?_⟩
  · rcases tab_get tab z with ⟨_, h⟩ | ⟨l, e, a, h, _⟩
    · exact ns0 z h
    · rw [show shapeOf z = some l from h] at hz; cases hz
  · rcases tab_get tab z with ⟨h, _⟩ | ⟨l', e, a, h, h2, h3, h4⟩
    · rw [show shapeOf z = none from h] at hz; cases hz
    · rw [show shapeOf z = some l' from h] at hz
      cases hz
      exact ⟨a, by rw [ns1 z e h2, h3], h4⟩

theorem alone5 {C0 C1 C2 C3 C4 cL D : Addr} {own : Nat} (ex : ExcC K D) (h0 : PySem.W.kitOne K (.ref D) (.ref C0) = some (decide (0 = own))) (h1 : PySem.W.kitOne K (.ref D) (.ref C1) = some (decide (1 = own)))
    (h2 : PySem.W.kitOne K (.ref D) (.ref C2) = some (decide (2 = own))) (h3 : PySem.W.kitOne K (.ref D) (.ref C3) = some (decide (3 = own))) (h4 : PySem.W.kitOne K (.ref D) (.ref C4) = some (decide (4 = own)))
    (hL : PySem.W.kitOne K (.ref D) (.ref cL) = some true) (hV : PySem.W.kitOne K (.ref D) (.type "ValueError") = some true) : AloneAt K [C0, C1, C2, C3, C4] cL D own := by
  refine ⟨ex, fun j c e => ?_, hL, hV⟩
  match j, e with
  | 0, e => cases e; exact h0
  | 1, e => cases e; exact h1
  | 2, e => cases e; exact h2
  | 3, e => cases e; exact h3
  | 4, e => cases e; exact h4
theorem excC_mk {D : Addr} (hg : PySem.W.findIn K (.ref D) "__getattribute__" = some (some (.builtin "BaseException.__getattribute__"))) (hk : PySem.W.findIn K (.ref D) "__getattr__" = some none)
    (hs : PySem.W.subIn K (.ref D) (.type "BaseException") = some true) (hd : PySem.W.hasDictIn K D = true) (ha : PySem.W.findIn K (.ref D) "__class__" = some (some (.builtin "object.__class__")))
    (hn : PySem.W.specialIn K (.builtin "object.__class__") "__get__" = some (some (.builtin "getset_descriptor.__get__"))) (ht : PySem.W.takesIn K (.builtin "object.__class__") = some true) (hm : PySem.W.mroIn K D (.type "object") = some true) : ExcC K D := ⟨hg, hk, hs, hd, ha, hn, ht, hm⟩

theorem k03_all {dS C0 C1 C2 C3 C4 cL : Addr} (T : Top K mg)
    (D1 : DefAt K "_law_cell_at" s__law_cell_at)
    (D2 : DefAt K "_law_mixed" s__law_mixed)
    (D3 : DefAt K "_law_whole" s__law_whole)
    (D4 : DefAt K "_law_alone" s__law_alone)
    (D5 : DefAt K "is_whole" s_is_whole)
    (Dw : DefAt K "is_any_whole" s_is_any_whole)
    (D6 : DefAt K "_has_shape" s__has_shape)
    (D7 : DefAt K "fits" s_fits)
    (D8 : DefAt K "checked" s_checked)
    (D9 : DefAt K "_law_size_by" s__law_size_by)
    (D10 : DefAt K "_law_edge" s__law_edge)
    (D11 : DefAt K "_law_marks" s__law_marks)
    (D12 : DefAt K "_law_thing_by" s__law_thing_by)
    (D13 : DefAt K "_law_fits" s__law_fits)
    (D14 : DefAt K "law" s_law)
    (m1 : PySem.W.nsIn K mainGlobals "len" = some none)
    (m2 : PySem.W.nsIn K mainGlobals "range" = some none)
    (m3 : PySem.W.nsIn K mainGlobals "isinstance" = some none)
    (m4 : PySem.W.nsIn K mainGlobals "all" = some none)
    (m5 : PySem.W.nsIn K mainGlobals "int" = some none)
    (m6 : PySem.W.nsIn K mainGlobals "str" = some none)
    (m7 : PySem.W.nsIn K mainGlobals "bool" = some none)
    (m8 : PySem.W.nsIn K mainGlobals "tuple" = some none)
    (m9 : PySem.W.nsIn K mainGlobals "list" = some none)
    (m10 : PySem.W.nsIn K mainGlobals "zip" = some none)
    (m11 : PySem.W.nsIn K mainGlobals "enumerate" = some none)
    (m12 : PySem.W.nsIn K mainGlobals "ValueError" = some none)
    (gR : ∃ u, PySem.W.nsIn K mainGlobals "ROUND" = some (some u) ∧ RelV (.int 1000000) u) (gM : ∃ u, PySem.W.nsIn K mainGlobals "MOST" = some (some u) ∧ RelV (.int 200) u)
    (Z : (mg "SHAPES" = some (.ref dS)) → Shapes K w mg dS) (gS : PySem.W.nsIn K mainGlobals "SHAPES" = some (some (.ref dS)))
    (gB : PySem.W.nsIn K mainGlobals "BadRow" = some (some (.ref C0))) (gB1 : PySem.W.nsIn K mainGlobals "BadBoxes" = some (some (.ref C1))) (gB2 : PySem.W.nsIn K mainGlobals "BadShape" = some (some (.ref C2))) (gB3 : PySem.W.nsIn K mainGlobals "NoBox" = some (some (.ref C3))) (gB4 : PySem.W.nsIn K mainGlobals "BadPlan" = some (some (.ref C4))) (gL : PySem.W.nsIn K mainGlobals "LineError" = some (some (.ref cL)))
    (xB : PySem.W.excIn K C0 [.type "ValueError", .type "Exception", .type "BaseException", .type "object"] "ValueError.__new__" = true) (kB : PySem.W.keepIn K (.ref C0) = true)
    (bB : PySem.W.subIn K (.ref C0) (.type "BaseException") = some true) (tB : PySem.W.typeIn K (.ref C0) = some (.type "type")) (sB : PySem.W.subIn K (.ref C0) (.ref C0) = some true)
    (ex : ExcC K C0) (h0 : PySem.W.kitOne K (.ref C0) (.ref C0) = some true) (h1 : PySem.W.kitOne K (.ref C0) (.ref C1) = some false) (h2 : PySem.W.kitOne K (.ref C0) (.ref C2) = some false) (h3 : PySem.W.kitOne K (.ref C0) (.ref C3) = some false) (h4 : PySem.W.kitOne K (.ref C0) (.ref C4) = some false)
    (hL : PySem.W.kitOne K (.ref C0) (.ref cL) = some true) (hV : PySem.W.kitOne K (.ref C0) (.type "ValueError") = some true) : LawOk P w K mg 5 := by
  have X : Txt K w mg := ⟨T, T.none m1, T.none m2, T.none m3, T.none m4, T.none m5, T.none m6, T.none m7, T.none m8, T.none m9, T.none m10, T.none m11⟩
  obtain ⟨_, gR, tR, rfl⟩ := gR
  obtain ⟨_, gM, tM, rfl⟩ := gM
  have hA : AloneAt K [C0, C1, C2, C3, C4] cL C0 0 := alone5 ex h0 h1 h2 h3 h4 hL hV
  have c1 := fun base => c_cell_at (P := P) (base := base) X D1
  have c2 := fun base => c_mixed (P := P) (base := base) X D2
  have c3 := fun base => c_whole (P := P) (base := base) X D3
  have c4 := fun base => c_alone (P := P) (base := base) (cs := [C0, C1, C2, C3, C4]) rfl X D4 (T.of gB) (T.of gB1) (T.of gB2) (T.of gB3) (T.of gB4) (T.of gL) (T.none m12)
  have c5 := fun base => c_is_whole (P := P) (base := base) X D5 Dw
  have c6 := fun base => c_has_shape (P := P) (base := base) X (Z (T.of gS)) D6
  have c7 := fun base => c_fits (P := P) (base := base) X (Z (T.of gS)) ⟨tR, T.of gR⟩ D7 (c5 base) (c6 base)
  have c8 := fun base => c_checked (P := P) (base := base) X ⟨T.of gB, xB, kB, bB, tB⟩ ⟨tM, T.of gM⟩ D8 (c7 base)
  have c9 := fun base => c_size_by (P := P) (base := base) X D9
  have c10 := fun base => c_edge (P := P) (base := base) X D10 (c2 base)
  have c11 := fun base => c_marks (P := P) (base := base) X D11
  have c12 := fun base => c_thing_by (P := P) (base := base) X D12 (c1 base) (c11 base) (c10 base)
  have c13 := fun base => c_law_fits (P := P) (base := base) X D13 (c3 base) (c11 base)
  exact ok_law X D14 ⟨T.of gB, xB, kB, bB, tB⟩ (PySem.W.exm_ref bB ex.hd tB sB) hA c1 c9 c12 c13 c7 c4 c8

end
end Nl
open PySem PySem.W PyProof.Rows in
set_option maxRecDepth 100000 in
set_option maxHeartbeats 0 in
theorem PySem.Challenge.cw_nearlines_k03_rows_that_fit_holds : PySem.Challenge.rw_nearlines_k03_rows_that_fit.Holds := by
  w_on; o_law; k_head; (case hw => w_witness2)
  k_fill
  refine Nl.walk_end (l := PySem.Challenge.rw_nearlines_k03_rows_that_fit) 5 rfl rfl ⟨rfl, by decide, by decide⟩ rfl (fun w h Y => PySem.W.kIn_of Y) fun w mg T => ?F
  case F =>
    refine' Nl.k03_all T ?D1 ?D2 ?D3 ?D4 ?D5 ?Dw ?D6 ?D7 ?D8 ?D9 ?D10 ?D11 ?D12 ?D13 ?D14 ?m1 ?m2 ?m3 ?m4 ?m5 ?m6 ?m7 ?m8 ?m9 ?m10 ?m11 ?m12 ?gR ?gM ?Z ?gS ?gB ?gB1 ?gB2 ?gB3 ?gB4 ?gL ?xB ?kB ?bB ?tB ?sB ?ex ?h0 ?h1 ?h2 ?h3 ?h4 ?hL ?hV
    (case D1 => (refine' Nl.def_mk ?a ?l ?c ?k; (case a => k_is); (case l => k_is); (case c => k_is); (case k => k_is)))
    (case D2 => (refine' Nl.def_mk ?a ?l ?c ?k; (case a => k_is); (case l => k_is); (case c => k_is); (case k => k_is)))
    (case D3 => (refine' Nl.def_mk ?a ?l ?c ?k; (case a => k_is); (case l => k_is); (case c => k_is); (case k => k_is)))
    (case D4 => (refine' Nl.def_mk ?a ?l ?c ?k; (case a => k_is); (case l => k_is); (case c => k_is); (case k => k_is)))
    (case D5 => (refine' Nl.def_mk ?a ?l ?c ?k; (case a => k_is); (case l => k_is); (case c => k_is); (case k => k_is)))
    (case Dw => (refine' Nl.def_mk ?a ?l ?c ?k; (case a => k_is); (case l => k_is); (case c => k_is); (case k => k_is)))
    (case D6 => (refine' Nl.def_mk ?a ?l ?c ?k; (case a => k_is); (case l => k_is); (case c => k_is); (case k => k_is)))
    (case D7 => (refine' Nl.def_mk ?a ?l ?c ?k; (case a => k_is); (case l => k_is); (case c => k_is); (case k => k_is)))
    (case D8 => (refine' Nl.def_mk ?a ?l ?c ?k; (case a => k_is); (case l => k_is); (case c => k_is); (case k => k_is)))
    (case D9 => (refine' Nl.def_mk ?a ?l ?c ?k; (case a => k_is); (case l => k_is); (case c => k_is); (case k => k_is)))
    (case D10 => (refine' Nl.def_mk ?a ?l ?c ?k; (case a => k_is); (case l => k_is); (case c => k_is); (case k => k_is)))
    (case D11 => (refine' Nl.def_mk ?a ?l ?c ?k; (case a => k_is); (case l => k_is); (case c => k_is); (case k => k_is)))
    (case D12 => (refine' Nl.def_mk ?a ?l ?c ?k; (case a => k_is); (case l => k_is); (case c => k_is); (case k => k_is)))
    (case D13 => (refine' Nl.def_mk ?a ?l ?c ?k; (case a => k_is); (case l => k_is); (case c => k_is); (case k => k_is)))
    (case D14 => (refine' Nl.def_mk ?a ?l ?c ?k; (case a => k_is); (case l => k_is); (case c => k_is); (case k => k_is)))
    (case m1 => k_is)
    (case m2 => k_is)
    (case m3 => k_is)
    (case m4 => k_is)
    (case m5 => k_is)
    (case m6 => k_is)
    (case m7 => k_is)
    (case m8 => k_is)
    (case m9 => k_is)
    (case m10 => k_is)
    (case m11 => k_is)
    (case m12 => k_is)
    (case gR => (refine' Nl.glob_mk ?h ?r; (case h => k_is); (case r => exact ⟨_, rfl⟩)))
    (case gM => (refine' Nl.glob_mk ?h ?r; (case h => k_is); (case r => exact ⟨_, rfl⟩)))
    (case gB => k_is)
    (case gB1 => k_is)
    (case gB2 => k_is)
    (case gB3 => k_is)
    (case gB4 => k_is)
    (case gL => k_is)
    (case xB => k_exc)
    (case kB => k_is)
    (case bB => k_is)
    (case tB => k_is)
    (case sB => k_is)
    (case ex => (refine' Nl.excC_mk ?hg ?hk ?hs ?hd ?ha ?hn ?ht ?hm; (case hg => k_is); (case hk => k_is); (case hs => k_is); (case hd => k_is); (case ha => k_is); (case hn => k_is); (case ht => k_is); (case hm => k_is)))
    (case h0 => kit_is)
    (case h1 => kit_is)
    (case h2 => kit_is)
    (case h3 => kit_is)
    (case h4 => kit_is)
    (case hL => kit_is)
    (case hV => kit_is)
    (case gS => k_is)
    case Z =>
      intro g
      refine' Nl.shapes_mk g ?at_ ?low ?lit ?tab
      (case at_ => k_is)
      (case low => rfl)
      (case lit => exact ⟨⟨_, _, rfl, rfl⟩, ⟨_, _, rfl, rfl⟩, ⟨_, _, rfl, rfl⟩, ⟨_, _, rfl, rfl⟩, ⟨_, _, rfl, rfl⟩, ⟨_, _, rfl, rfl⟩, ⟨_, _, rfl, rfl⟩, ⟨_, _, rfl, rfl⟩, ⟨_, _, rfl, rfl⟩, trivial⟩)
      case tab =>
        refine' ⟨⟨_, _, rfl, rfl, ?s0⟩, rfl, ⟨_, _, rfl, rfl, ?s1⟩, rfl, ⟨_, _, rfl, rfl, ?s2⟩, rfl, ⟨_, _, rfl, rfl, ?s3⟩, rfl, ⟨_, _, rfl, rfl, ?s4⟩, rfl, ⟨_, _, rfl, rfl, ?s5⟩, rfl, ⟨_, _, rfl, rfl, ?s6⟩, rfl, ⟨_, _, rfl, rfl, ?s7⟩, rfl, ⟨_, _, rfl, rfl, ?s8⟩, rfl, trivial⟩
        (case s0 => (refine' Nl.sqt_mk ?h ?z ?v; (case h => k_is); (case z => rfl); (case v => exact (.cons ⟨_, rfl⟩ (.cons ⟨_, rfl⟩ .nil)))))
        (case s1 => (refine' Nl.sqt_mk ?h ?z ?v; (case h => k_is); (case z => rfl); (case v => exact (.cons ⟨_, rfl⟩ (.cons ⟨_, rfl⟩ .nil)))))
        (case s2 => (refine' Nl.sqt_mk ?h ?z ?v; (case h => k_is); (case z => rfl); (case v => exact (.cons ⟨_, rfl⟩ (.cons ⟨_, rfl⟩ (.cons ⟨_, rfl⟩ .nil))))))
        (case s3 => (refine' Nl.sqt_mk ?h ?z ?v; (case h => k_is); (case z => rfl); (case v => exact (.cons ⟨_, rfl⟩ (.cons ⟨_, rfl⟩ (.cons ⟨_, rfl⟩ .nil))))))
        (case s4 => (refine' Nl.sqt_mk ?h ?z ?v; (case h => k_is); (case z => rfl); (case v => exact (.cons ⟨_, rfl⟩ (.cons ⟨_, rfl⟩ .nil)))))
        (case s5 => (refine' Nl.sqt_mk ?h ?z ?v; (case h => k_is); (case z => rfl); (case v => exact (.cons ⟨_, rfl⟩ (.cons ⟨_, rfl⟩ .nil)))))
        (case s6 => (refine' Nl.sqt_mk ?h ?z ?v; (case h => k_is); (case z => rfl); (case v => exact (.cons ⟨_, rfl⟩ (.cons ⟨_, rfl⟩ (.cons ⟨_, rfl⟩ .nil))))))
        (case s7 => (refine' Nl.sqt_mk ?h ?z ?v; (case h => k_is); (case z => rfl); (case v => exact (.cons ⟨_, rfl⟩ .nil))))
        (case s8 => (refine' Nl.sqt_mk ?h ?z ?v; (case h => k_is); (case z => rfl); (case v => exact (.cons ⟨_, rfl⟩ .nil))))

