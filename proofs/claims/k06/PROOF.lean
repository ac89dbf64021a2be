import PyProof.Rows.All
import Wide.All
import OpenK.AllK
import Wide.FinOn
import HandS.ForMost
import HandS.Codes
import HandS.Exc
import HandS.ExcOwn
import HandS.TryOnly
import HandS.WordsExc
import HandS.IsInst
import HandS.RaiseMore
import HandS.Small
import HandS.FStr
import HandS.Star
import HandS.TupAny
import HandS.Deep
import HandS.Zip
import HandS.Conv
import HandS.HotCalls
import HandS.StrMore
import HandS.Flow
import KE.KUnpackStar
import HandS.ExcIs
import HandS.SetFor
import HandS.Replace
import PyProof.RulesMatch
import PyProof.RulesMatchSeq
import PyProof.Rows.MatchSeqLen
import HandS.Strs
import HandS.TryMany
import PySem.Challenge.RW_nearlines_k06_what_is_refused
set_option Elab.async false
set_option linter.all false
set_option maxRecDepth 100000
/-! the layer of our own over the hand layer -/
namespace Nl
open PySem PySem.Spec PyProof.Rows L2

/-! ### a def of the top, as it stands -/
def DefAt (K : PySem.W.Frag) (x : Str) (st : Stmt) : Prop :=
  ∃ (f : Addr) (oc : Value) (od an : Option Addr) (osl : Array (Option Value)) (kV doc pm cdv ct : Value),
    PySem.W.nsIn K mainGlobals x = some (some (.ref f)) ∧
    K.lookup f = some ⟨oc, od, .func (PySem.W.fnOf x x (defArgs st) (defBody st) (defScope st) .none kV doc pm an cdv ct), osl⟩ ∧
    PySem.W.codeIn K cdv x = true ∧ PySem.W.keepIn K (.ref f) = true
theorem def_mk {K : PySem.W.Frag} {x : Str} {st : Stmt} {f : Addr} {oc : Value} {od an : Option Addr} {osl : Array (Option Value)} {kV doc pm cdv ct : Value} (a : PySem.W.nsIn K mainGlobals x = some (some (.ref f)))
    (l : K.lookup f = some ⟨oc, od, .func (PySem.W.fnOf x x (defArgs st) (defBody st) (defScope st) .none kV doc pm an cdv ct), osl⟩) (c : PySem.W.codeIn K cdv x = true) (k : PySem.W.keepIn K (.ref f) = true) : DefAt K x st :=
  ⟨f, oc, od, an, osl, kV, doc, pm, cdv, ct, a, l, c, k⟩
/-- the module's names, as the top leaves them -/
structure Top (K : PySem.W.Frag) (mg : Str → Option Value) : Prop where
  ex : ∃ (h : Heap), K.In h ∧ h.Ns mainGlobals mg
theorem Top.of {K : PySem.W.Frag} {mg : Str → Option Value} (T : Top K mg) {x : Str} {v : Value} (a : PySem.W.nsIn K mainGlobals x = some (some v)) : mg x = some v := by
  obtain ⟨h, X, G⟩ := T.ex
  exact PySem.W.mg_of X G a
theorem Top.none {K : PySem.W.Frag} {mg : Str → Option Value} (T : Top K mg) {x : Str} (a : PySem.W.nsIn K mainGlobals x = some Option.none) : mg x = Option.none := by
  obtain ⟨h, X, G⟩ := T.ex
  exact PySem.W.mg_none_of X G a

section
variable {P : Program} {w : World} {K : PySem.W.Frag} {mg : Str → Option Value} {base : Heap}
abbrev BindOk (x : Str) (st : Stmt) (ps : List Str) : Prop := ∀ (kV doc pm : Value) (an : Option Addr) (cdv ct : Value) (us : List Value), us.length = ps.length →
  bindArgs (PySem.W.fnOf x x (defArgs st) (defBody st) (defScope st) .none kV doc pm an cdv ct) ⟨us, []⟩ = pure (ps.zip us)
/-- a def called by its name keeps sp -/
structure Cal (P : Program) (w : World) (K : PySem.W.Frag) (mg : Str → Option Value) (base : Heap) (CX : CXT) (k : Nat) (x : Str) (sp : Sp) : Prop where
  ex : ∃ (f : Addr) (fd : FuncData) (ps : List Str), FnOk P w K mg base CX k f fd ps sp ∧ mg x = some (.ref f) ∧ PySem.W.keepIn K (.ref f) = true ∧ Binds K fd ps []
theorem Cal.mono {CX : CXT} {j k : Nat} {x : Str} {sp : Sp} (c : Cal P w K mg base CX j x sp) (h : j ≤ k) : Cal P w K mg base CX k x sp := by
  obtain ⟨f, fd, ps, F, r⟩ := c.ex
  exact ⟨f, fd, ps, F.mono h, r⟩
/-- a def that lets no error out -/
theorem cal_of {x : Str} {st : Stmt} {N ps : List Str} {k : Nat} {sp : Sp} (T : Top K mg) (D : DefAt K x st) (S : FnScope N ps (defScope st)) (b : BindOk x st ps) (len : ∀ vs H Q E, sp vs H Q E → vs.length = ps.length)
    (hbody : ∀ (f : Addr) (cdv : Value) (A : Around) (outer : List Env) (s : Shared) (H : Hp) (vs : List V) (Q : VK) (E : XK), Room k (A.deeper (envOfC x (defScope st) s.heap.objs.size f cdv)) → sp vs H Q E →
      ∃ t, PSs (cxOf CX0 P w K mg base N x (defScope st) f cdv A outer s H E).nox (defBody st) t ∧ t { nx := fun _ H' => Q .non H', rt := Q } (start N vs) H) : Cal P w K mg base CX0 (k + 1) x sp := by
  obtain ⟨f, oc, od, an, osl, kV, doc, pm, cdv, ct, a, l, c, kp⟩ := D
  have F := fun_mk (st := st) l c kp
  exact ⟨f, _, ps, F.ok S len (fun cdv A outer s H vs Q E hr h => hbody f cdv A outer s H vs Q E hr h), T.of a, kp, F.binds b⟩
/-- .. that may raise -/
theorem cal_ofX {x : Str} {st : Stmt} {N ps : List Str} {k : Nat} {sp : Sp} (T : Top K mg) (D : DefAt K x st) (S : FnScope N ps (defScope st)) (b : BindOk x st ps) (len : ∀ vs H Q E, sp vs H Q E → vs.length = ps.length)
    (hbody : ∀ (f : Addr) (cdv : Value) (A : Around) (outer : List Env) (s : Shared) (H : Hp) (vs : List V) (Q : VK) (E : XK), Room k (A.deeper (envOfC x (defScope st) s.heap.objs.size f cdv)) → sp vs H Q E →
      ∃ t, PSs (cxOf (L2.CX P w) P w K mg base N x (defScope st) f cdv A outer s H E) (defBody st) t ∧ t { nx := fun _ H' => Q .non H', rt := Q } (start N vs) H) : Cal P w K mg base (L2.CX P w) (k + 1) x sp := by
  obtain ⟨f, oc, od, an, osl, kV, doc, pm, cdv, ct, a, l, c, kp⟩ := D
  have F := fun_mk (st := st) l c kp
  exact ⟨f, _, ps, F.okX S len (fun cdv A outer s H vs Q E hr h => hbody f cdv A outer s H vs Q E hr h), T.of a, kp, F.binds b⟩
end
section
variable {X : Cx} {k j : Nat} {x : Str} {sp : Sp} {p pos : Pos} {e : Expr} {es : List Expr} {t : TA}
/-- f(..), f lets no error out -/
theorem pe_c (c : Cal X.prog X.w X.K X.mg X.base CX0 k x sp) (hr : Room j X.A) (hk : k ≤ j) (hg : Gl X x) (ha : PA X (e :: es) t)
    (hdb : (x == ("__debug__" : Str)) = false := by decide) (he : starEach (e :: es) X.env = (false, eval e X.env) :: starEach es X.env := by rfl) (hpl : (backTo pos (starEach es X.env)).any (·.1) = false := by rfl) :
    PE X (.Call (.Name x p) (e :: es) [] pos) (tCall sp [] E0 t) := by
  obtain ⟨f, fd, ps, F, hm, kp, b⟩ := c.ex
  exact pe_call F (hr.mono hk) hg hm kp b .nil pass0 ha hdb he hpl
/-- f(..), f may raise: what is raised is wished for by W -/
theorem pe_cx {W : WX} (c : Cal X.prog X.w X.K X.mg X.base (L2.CX X.prog X.w) k x sp) (tk : Takes X W) (hr : Room j X.A) (hk : k ≤ j) (hg : Gl X x) (ha : PA X (e :: es) t)
    (hdb : (x == ("__debug__" : Str)) = false := by decide) (he : starEach (e :: es) X.env = (false, eval e X.env) :: starEach es X.env := by rfl) (hpl : (backTo pos (starEach es X.env)).any (·.1) = false := by rfl) :
    PE X (.Call (.Name x p) (e :: es) [] pos) (tCallS sp (WE W) t) := by
  obtain ⟨f, fd, ps, F, hm, kp, b⟩ := c.ex
  exact pe_callS F (hr.mono hk) hg hm kp b (fun σ => passAt tk σ) ha hdb he hpl
/-- .. where it does not raise -/
theorem pe_c0 (c : Cal X.prog X.w X.K X.mg X.base (L2.CX X.prog X.w) k x sp) (hr : Room j X.A) (hk : k ≤ j) (hg : Gl X x) (ha : PA X (e :: es) t)
    (hdb : (x == ("__debug__" : Str)) = false := by decide) (he : starEach (e :: es) X.env = (false, eval e X.env) :: starEach es X.env := by rfl) (hpl : (backTo pos (starEach es X.env)).any (·.1) = false := by rfl) :
    PE X (.Call (.Name x p) (e :: es) [] pos) (tCall sp [] E0 t) := by
  obtain ⟨f, fd, ps, F, hm, kp, b⟩ := c.ex
  exact pe_call F (hr.mono hk) hg hm kp b .nil passL ha hdb he hpl
end

/-! ### places -/
theorem at_in {α : Type} {xs : List α} {i : Int} {v : α} (h0 : 0 ≤ i) (h : xs[i.toNat]? = some v) : atI xs i = some v := by
  have e : i = ((i.toNat : Nat) : Int) := (Int.toNat_of_nonneg h0).symm
  rw [e]
  exact atI_nat (by simpa using h)
theorem at_getD {α : Type} {xs : List α} {i : Int} {d : α} (h0 : 0 ≤ i) (h : i < xs.length) : atI xs i = some (xs.getD i.toNat d) := by
  refine at_in h0 ?_
  have : i.toNat < xs.length := by omega
  rw [List.getD_eq_getElem?_getD, List.getElem?_eq_getElem this]; rfl
theorem at_ints {ns : List Int} {i : Int} (h0 : 0 ≤ i) (h : i < ns.length) : atI (ns.map V.int) i = some (.int (ns.getD i.toNat 0)) := by
  refine at_in h0 ?_
  have : i.toNat < ns.length := by omega
  rw [List.getElem?_map, List.getD_eq_getElem?_getD, List.getElem?_eq_getElem this]; rfl
theorem at_strs {ns : List Str} {i : Int} (h0 : 0 ≤ i) (h : i < ns.length) : atI (ns.map V.str) i = some (.str (ns.getD i.toNat Str.empty)) := by
  refine at_in h0 ?_
  have : i.toNat < ns.length := by omega
  rw [List.getElem?_map, List.getD_eq_getElem?_getD, List.getElem?_eq_getElem this]; rfl
theorem mod_nn (c : Int) {n : Int} (h : 0 < n) : 0 ≤ c % n := Int.emod_nonneg c (by omega)
theorem mod_lt (c : Int) {n : Int} (h : 0 < n) : c % n < n := Int.emod_lt_of_pos c h
theorem at_ints_mod {ns : List Int} (c : Int) {n : Int} (h : 0 < n) (e : (ns.length : Int) = n) : atI (ns.map V.int) (c % n) = some (.int (ns.getD (c % n).toNat 0)) :=
  at_ints (mod_nn c h) (by rw [e]; exact mod_lt c h)
theorem at_strs_mod {ns : List Str} (c : Int) {n : Int} (h : 0 < n) (e : (ns.length : Int) = n) : atI (ns.map V.str) (c % n) = some (.str (ns.getD (c % n).toNat Str.empty)) :=
  at_strs (mod_nn c h) (by rw [e]; exact mod_lt c h)
theorem _root_.L2.Same.sqt {K : PySem.W.Frag} {H H' : Hp} {a : Addr} {xs : List V} (e : Same H H') (h : SqT K H a xs) : SqT K H' a xs := by
  rcases h with (h | ⟨o, h⟩) | h
  · exact .inl (.inl (e _ _ h))
  · exact .inl (.inr ⟨o, e _ _ h⟩)
  · exact .inr h
theorem _root_.L2.Same.new {H : Hp} {p : Addr} {o : HO} (h : H p = none) : Same H (upd H p o) := fun a u e => by
  rw [upd_ne (ne_of_none e h)]
  exact e
theorem _root_.L2.Same.more {H0 H : Hp} {p : Addr} {o : HO} (s : Same H0 H) (h : H p = none) : Same H0 (upd H p o) := s.trans (Same.new h)
/-- an object that H0 does not know changes -/
theorem _root_.L2.Same.mut {H0 H : Hp} {p : Addr} {o : HO} (s : Same H0 H) (h : H0 p = none) : Same H0 (upd H p o) := fun a u e => by
  rw [upd_ne (ne_of_none e h)]
  exact s a u e
/-! ### comprehensions whose elements leave the tracked things as they are -/
/-- the new list keeps: at its address D what is made so far -/
theorem lc_gen {J : It} {g : TG} {tt : TT} {te : TE} {vs : List Nat} {σ : L2.St} {H1 : Hp} {D : Addr} {Qd : Hp → Prop} (n : Nat) (R : Nat → V → Hp → Prop) (fs : Nat → Option V) (hD : H1 D = none) (hz : n < sizeLine)
    (go : ∀ i H, i < n → Same H1 H → J.go i H) (stop : ∀ H, Same H1 H → J.stop n H) (yld : ∀ i H x H', i < n → Same H1 H → J.yld i H x H' → Same H H' ∧ R i x H')
    (hs : ∀ i x H, i < n → Same H1 H → R i x H → ∀ (k1 : VK) (k0 : Hp → Prop), (∀ v H', fs i = some v → Same H H' → k1 v H') → (∀ H', fs i = none → Same H H' → k0 H') →
      g x (wipe σ vs) H fun σ2 H2 => wipe σ2 vs = wipe σ vs ∧ tt σ2 H2 fun b H3 => if b = true then te σ2 H3 k1 else k0 H3)
    (hd : ∀ H, Same H1 H → H D = some (.lst ((List.range n).filterMap fs)) → Qd H) :
    ∃ W : Nat → Nat → Hp → Prop, (∃ m, W 0 m (upd H1 D (.lst []))) ∧ ∀ i m H, W i m H →
      (J.stop i H ∧ Qd H) ∨ (J.go i H ∧ ∃ Nx : Hp → Prop, (∀ H', Nx H' → ∃ m', m' < m ∧ W (i + 1) m' H') ∧ ∀ x H', J.yld i H x H' → g x (wipe σ vs) H' fun σ2 H2 => wipe σ2 vs = wipe σ vs ∧ tt σ2 H2 fun b H3 =>
        if b = true then te σ2 H3 fun y H4 => ∃ acc, H4 D = some (.lst acc) ∧ acc.length < sizeLine ∧ Nx (upd H4 D (.lst (acc ++ [y]))) else Nx H3) := by
  refine ⟨fun i m H => m = n - i ∧ i ≤ n ∧ Same H1 H ∧ H D = some (.lst ((List.range i).filterMap fs)), ⟨n, by simp, Nat.zero_le _, Same.new hD, upd_same⟩, ?_⟩
  rintro i m H ⟨rfl, hi, s1, h1⟩
  by_cases hlt : i < n
  · refine .inr ⟨go i H hlt s1, fun H' => Same H1 H' ∧ H' D = some (.lst ((List.range (i + 1)).filterMap fs)), fun H' p' => ⟨n - (i + 1), by omega, rfl, hlt, p'⟩, fun x H' y => ?_⟩
    obtain ⟨s2, r⟩ := yld i H x H' hlt s1 y
    refine hs i x H' hlt (s1.trans s2) r _ _ (fun v H'' e s3 => ?_) (fun H'' e s3 => ?_)
    · refine ⟨_, s3 _ _ (s2 _ _ h1), ?_, ((s1.trans s2).trans s3).mut hD, ?_⟩
      · exact Nat.lt_of_le_of_lt (Nat.le_trans (List.length_filterMap_le _ _) (by rw [List.length_range]; omega)) hz
      · rw [upd_same, List.range_succ, List.filterMap_append]
        simp [e]
    · refine ⟨(s1.trans s2).trans s3, ?_⟩
      rw [s3 _ _ (s2 _ _ h1), List.range_succ, List.filterMap_append]
      simp [e]
  · have e : i = n := by omega
    subst e
    exact .inl ⟨stop H s1, hd H s1 h1⟩
theorem range_fm {α β : Type} (xs : List α) (f : α → Option β) : (List.range xs.length).filterMap (fun i => (xs[i]?).bind f) = xs.filterMap f := by
  induction xs with
  | nil => rfl
  | cons x xs ih =>
    rw [List.length_cons, List.range_succ_eq_map, List.filterMap_cons, List.filterMap_map, List.filterMap_cons]
    have e : (List.range xs.length).filterMap ((fun i => ((x :: xs)[i]?).bind f) ∘ Nat.succ) = xs.filterMap f := by
      rw [← ih]
      rfl
    rw [e]
    rfl
section
variable {K : PySem.W.Frag} {g : TG} {tt : TT} {te : TE} {vs : List Nat} {σ : L2.St} {H1 : Hp} {D a : Addr} {Qd : Hp → Prop} {xs : List V}
abbrev LcW (J : It) (g : TG) (tt : TT) (te : TE) (vs : List Nat) (σ : L2.St) (H1 : Hp) (D : Addr) (Qd : Hp → Prop) : Prop :=
  ∃ W : Nat → Nat → Hp → Prop, (∃ m, W 0 m (upd H1 D (.lst []))) ∧ ∀ i m H, W i m H →
      (J.stop i H ∧ Qd H) ∨ (J.go i H ∧ ∃ Nx : Hp → Prop, (∀ H', Nx H' → ∃ m', m' < m ∧ W (i + 1) m' H') ∧ ∀ x H', J.yld i H x H' → g x (wipe σ vs) H' fun σ2 H2 => wipe σ2 vs = wipe σ vs ∧ tt σ2 H2 fun b H3 =>
        if b = true then te σ2 H3 fun y H4 => ∃ acc, H4 D = some (.lst acc) ∧ acc.length < sizeLine ∧ Nx (upd H4 D (.lst (acc ++ [y]))) else Nx H3)
abbrev LcTurn (g : TG) (tt : TT) (te : TE) (vs : List Nat) (σ : L2.St) (x : V) (H : Hp) (fx : Option V) : Prop := ∀ (k1 : VK) (k0 : Hp → Prop), (∀ v H', fx = some v → Same H H' → k1 v H') → (∀ H', fx = none → Same H H' → k0 H') →
      g x (wipe σ vs) H fun σ2 H2 => wipe σ2 vs = wipe σ vs ∧ tt σ2 H2 fun b H3 => if b = true then te σ2 H3 k1 else k0 H3
/-- over a list: [f x for x in xs if ..] -/
theorem lc_fl (f : V → Option V) (hD : H1 D = none) (hq : SqL K H1 a xs) (hz : xs.length < sizeLine) (hs : ∀ (i : Nat) x H, xs[i]? = some x → Same H1 H → LcTurn g tt te vs σ x H (f x))
    (hd : ∀ H, Same H1 H → H D = some (.lst (xs.filterMap f)) → Qd H) : LcW (Itl K a) g tt te vs σ H1 D Qd :=
  lc_gen xs.length (fun i x _ => xs[i]? = some x) (fun i => (xs[i]?).bind f) hD hz
    (fun i H hi s => ⟨xs, xs[i], s.seq hq, by simp [hi]⟩) (fun H s => ⟨xs, s.seq hq, Nat.le_refl _⟩) (fun i H x H' hi s y => by
      obtain ⟨e, y⟩ := y
      subst e
      exact ⟨Same.refl _, y xs (s.seq hq)⟩)
    (fun i x H hi s r k1 k0 h1 h0 => hs i x H r s k1 k0 (fun v H' e => h1 v H' (by rw [r]; exact e)) (fun H' e => h0 H' (by rw [r]; exact e))) (fun H s h => hd H s (by rw [h, range_fm]))
/-- over a tuple -/
theorem lc_ft (f : V → Option V) (hD : H1 D = none) (hq : SqT K H1 a xs) (hz : xs.length < sizeLine) (hs : ∀ (i : Nat) x H, xs[i]? = some x → Same H1 H → LcTurn g tt te vs σ x H (f x))
    (hd : ∀ H, Same H1 H → H D = some (.lst (xs.filterMap f)) → Qd H) : LcW (Itt K a) g tt te vs σ H1 D Qd :=
  lc_gen xs.length (fun i x _ => xs[i]? = some x) (fun i => (xs[i]?).bind f) hD hz
    (fun i H hi s => ⟨xs, xs[i], s.sqt hq, by simp [hi]⟩) (fun H s => ⟨xs, s.sqt hq, Nat.le_refl _⟩) (fun i H x H' hi s y => by
      obtain ⟨e, y⟩ := y
      subst e
      exact ⟨Same.refl _, y xs (s.sqt hq)⟩)
    (fun i x H hi s r k1 k0 h1 h0 => hs i x H r s k1 k0 (fun v H' e => h1 v H' (by rw [r]; exact e)) (fun H' e => h0 H' (by rw [r]; exact e))) (fun H s h => hd H s (by rw [h, range_fm]))
/-- over range(lo, lo + n) -/
theorem lc_fr {lo : Int} {n : Nat} (f : Nat → Option V) (hD : H1 D = none) (hz : n < sizeLine) (hs : ∀ (i : Nat) H, i < n → Same H1 H → LcTurn g tt te vs σ (.int (lo + i)) H (f i))
    (hd : ∀ H, Same H1 H → H D = some (.lst ((List.range n).filterMap f)) → Qd H) : LcW (Itr lo n) g tt te vs σ H1 D Qd :=
  lc_gen n (fun i x _ => x = .int (lo + i)) f hD hz (fun i H hi s => hi) (fun H s => Nat.le_refl _) (fun i H x H' hi s y => by
      obtain ⟨e, y⟩ := y
      subst e
      exact ⟨Same.refl _, y⟩)
    (fun i x H hi s r k1 k0 h1 h0 => by subst r; exact hs i H hi s k1 k0 h1 h0) hd
end
/-! ### the law's own def, the end -/
def spLaw (K : PySem.W.Frag) : Sp := fun vs H Q _ => ∃ (a : Addr) (ns : List Int), vs = [.ref a] ∧ SqL K H a (ns.map V.int) ∧ ns.length ≤ 63 ∧ ∀ H', Q (.bl true) H'
abbrev LawOk (P : Program) (w : World) (K : PySem.W.Frag) (mg : Str → Option Value) (k : Nat) : Prop :=
  ∃ (f : Addr) (fd : FuncData), mg "law" = some (.ref f) ∧ (∀ (s : Shared) (v : Value), BindsTo s fd ⟨[v], []⟩ [("_law_script", v)]) ∧ ∀ base : Heap, FnOk P w K mg base CX0 k f fd ["_law_script"] (spLaw K)
theorem law_of {P : Program} {w : World} {K : PySem.W.Frag} {mg : Str → Option Value} {st : Stmt} {N : List Str} {k : Nat} (T : Top K mg) (D : DefAt K "law" st) (S : FnScope N ["_law_script"] (defScope st))
    (b : ∀ (kV doc pm : Value) (an : Option Addr) (cdv ct v : Value), bindArgs (PySem.W.fnOf "law" "law" (defArgs st) (defBody st) (defScope st) .none kV doc pm an cdv ct) ⟨[v], []⟩ = pure [(("_law_script" : Str), v)])
    (hbody : ∀ (base : Heap) (f : Addr) (cdv : Value) (A : Around) (outer : List Env) (s : Shared) (H : Hp) (a : Addr) (ns : List Int) (Q : VK) (E : XK), Room k (A.deeper (envOfC "law" (defScope st) s.heap.objs.size f cdv)) → SqL K H a (ns.map V.int) → ns.length ≤ 63 → (∀ H', Q (.bl true) H') →
      ∃ t, PSs (cxOf CX0 P w K mg base N "law" (defScope st) f cdv A outer s H E).nox (defBody st) t ∧ t { nx := fun _ H' => Q .non H', rt := Q } (start N [.ref a]) H) : LawOk P w K mg (k + 1) := by
  obtain ⟨f, oc, od, an, osl, kV, doc, pm, cdv, ct, a, l, c, kp⟩ := D
  have F := fun_mk (st := st) l c kp
  refine ⟨f, _, T.of a, fun s v => .of_eq (b kV doc pm an cdv ct v), fun base => F.ok S (fun vs H Q E h => ?_) fun cdv A outer s H vs Q E hr h => ?_⟩
  · obtain ⟨_, _, rfl, _⟩ := h
    rfl
  · obtain ⟨a, ns, rfl, h1, h2, h3⟩ := h
    exact hbody base f cdv A outer s H a ns Q E hr h1 h2 h3
theorem walk_end {l : PySem.W.OpenLaw} {q : Program} {loose : List Str} {XP : (Str → Option Value) → Heap → Prop} {YP : World → Heap → Prop} {d : DefRec} {K : Params → PySem.W.Frag} (k : Nat) (hn : l.most = some 63) (hdf : d.params.defaults = []) (hr : Room k callerA) (hd : d.name = "law")
    (hY : ∀ (w : World) (h : Heap), YP w h → (K w.params).In h)
    (F : ∀ (w : World) (mg : Str → Option Value), Top (K w.params) mg → LawOk l.prog w (K w.params) mg k) :
    PySem.W.WalkO q loose XP YP l.row.toRowW d [] (fun f vs => PySem.call f vs) :=
  L2.walk_of (n := 63) (k := k) (x := "_law_script") (CX := fun _ => CX0) (sp := fun w => spLaw (K w.params)) hn (by decide) hdf hr hY (fun w mg fa h X G hm => by
    obtain ⟨f, fd, e, b, ok⟩ := F w mg ⟨h, X, G⟩
    rw [hd, e] at hm
    cases hm
    exact ⟨fd, b, fun base _ _ => ok base⟩) (fun _ _ a ns hl _ hS => ⟨a, ns, rfl, hS, hl, fun _ => rfl⟩) fun _ _ _ _ _ z => z
/-! ### a block cut in two: P is what holds between -/
def tCut (D : Ends) (P : L2.St → Hp → Prop) : TS := fun D' σ H => D' = D ∧ P σ H
theorem pss_cut {X : Cx} {rest : List Stmt} {D : Ends} {P : L2.St → Hp → Prop} (h : ∃ u, PSs X rest u ∧ ∀ σ H, P σ H → u D σ H) : PSs X rest (tCut D P) := by
  obtain ⟨u, hu, hP⟩ := h
  refine ⟨fun pins s σ H D' I h => ?_⟩
  obtain ⟨e, h⟩ := h
  subst e
  exact hu.run pins s σ H D' I (hP σ H h)
/-! ### texts -/
/-- for c in a text -/
theorem for_its {x : Str} {g : TG} {tb : TS} {D : Ends} {σ : L2.St} {H : Hp} (Pv : Nat → L2.St → Hp → Prop) (h0 : Pv 0 σ H)
    (hs : ∀ i c σ H, x.cps[i]? = some c → Pv i σ H → g (.str ⟨#[c]⟩) σ H fun σ2 H2 => tb { D with nx := Pv (i + 1), ct := Pv (i + 1), bk := D.nx } σ2 H2) (hd : ∀ σ H, Pv x.cps.size σ H → D.nx σ H) :
    ∃ W : Nat → Nat → L2.St → Hp → Prop, (∃ m, W 0 m σ H) ∧ ∀ i m σ H, W i m σ H →
      ((Its x).stop i H ∧ D.nx σ H) ∨ ((Its x).go i H ∧ ∃ N : L2.St → Hp → Prop, (∀ σ' H', N σ' H' → ∃ m', m' < m ∧ W (i + 1) m' σ' H') ∧ ∀ y H', (Its x).yld i H y H' → g y σ H' fun σ2 H2 => tb { D with nx := N, ct := N, bk := D.nx } σ2 H2) := by
  refine ⟨fun i m σ H => m = x.cps.size - i ∧ i ≤ x.cps.size ∧ Pv i σ H, ⟨x.cps.size, by simp, Nat.zero_le _, h0⟩, ?_⟩
  rintro i m σ H ⟨rfl, hi, p⟩
  by_cases hlt : i < x.cps.size
  · refine .inr ⟨hlt, Pv (i + 1), fun σ' H' p' => ⟨x.cps.size - (i + 1), by omega, rfl, hlt, p'⟩, fun y H' q => ?_⟩
    obtain ⟨e, c, hc, ey⟩ := q
    subst e ey
    exact hs i c σ _ hc p
  · have e : i = x.cps.size := by omega
    subst e
    exact .inl ⟨Nat.le_refl _, hd σ H p⟩
theorem cutS_len (z : Str) (lo hi : Option Int) : (cutS z lo hi).length ≤ z.length := by
  show (((z.cps.toList.drop _).take _).toArray).size ≤ z.cps.size
  rw [List.size_toArray, List.length_take, List.length_drop, Array.length_toList]
  omega
theorem app_len (a b : Str) : (a ++ b).length = a.length + b.length := by
  show (a.cps ++ b.cps).size = a.cps.size + b.cps.size
  exact Array.size_append
/-- a text some times over -/
theorem op_repS {X : Cx} : OpR X (binaryOp .Mult) (fun x y H Q => ∃ (z : Str) (n : Int), x = .str z ∧ y = .int n ∧ PySem.MulOk z n ∧ Q (.str (Txt.mul z n)) H) := by
  intro pins s σ H x y v u Q I rx ry h
  obtain ⟨z, n, rfl, rfl, ok, q⟩ := h
  obtain ⟨t, rfl⟩ := rx
  obtain ⟨t', rfl⟩ := ry
  exact PySem.SB.mul ok fun t2 k => ⟨.str _, H, I.tok k, ⟨t2, rfl⟩, q⟩
theorem bl_of {b c : Bool} (h : b = c) : V.bl b = V.bl c := congrArg V.bl h
theorem fm_some {α β : Type} (xs : List α) (f : α → β) : xs.filterMap (fun x => some (f x)) = xs.map f := by
  induction xs with
  | nil => rfl
  | cons x xs ih => simp
/-! ### the helpers every law has -/
def cellAt (ns : List Int) (k : Int) : Int := ns.getD k.toNat 0
def mixed (c : Int) : Int := c * 48271 % 2147483647
def spCellAt (K : PySem.W.Frag) : Sp := fun vs H Q _ => ∃ (a : Addr) (ns : List Int) (k : Int), vs = [.ref a, .int k] ∧ SqL K H a (ns.map V.int) ∧ 0 ≤ k ∧ Q (.int (cellAt ns k)) H
def spMixed : Sp := fun vs H Q _ => ∃ c : Int, vs = [.int c] ∧ Q (.int (mixed c)) H
end Nl

set_option Elab.async false
set_option linter.all false
set_option maxRecDepth 100000
set_option maxHeartbeats 1000000
namespace Nl
open PySem PySem.Spec PySem.Calls PyProof.Rows PySem.W
/-- a, *rest = a list: the rest is a new list -/
theorem star_list {prog : Program} {w : World} {A : Around} {E : Value → Shared → Prop} {s : Shared} {l : Addr} {items : Array Value} {first rest : List Value} {Q : List Value → Shared → Prop}
    (hl : s.heap.IsList l items) (hh : A.handled = none) (hn : 1 ≤ items.size) (hz : items.size ≤ 16384) (h1 : items.toList = first ++ rest) (h2 : first.length = 1)
    (h : ∀ (h₂ : Heap) (tk : Nat), (∀ b o, s.heap.get? b = some o → h₂.get? b = some o) → Q (first ++ [.ref h₂.objs.size]) { s with heap := h₂.push { cls := .type "list", data := .seq rest.toArray 0 }, toks := tk }) :
    wpAny (model prog w) A (unpackItems (.ref l) 2 (some 1)) Q E s := by
  have hlt : l ≠ s.heap.objs.size := by obtain ⟨o, ho, _⟩ := hl; exact Nat.ne_of_lt (Heap.lt_size ho)
  have hsz : items.toList.length = items.size := Array.length_toList
  have ht : items.toList.take 1 = first := by rw [h1, List.take_append_of_le_length (by omega), List.take_of_length_le (by omega)]
  have hd : items.toList.drop 1 = rest := by rw [h1, List.drop_append_of_le_length (by omega), List.drop_of_length_le (by omega)]; rfl
  unfold unpackItems
  refine wpAny_bind ?_
  unfold notIterableAtAll
  refine wpAny_bind (wpAny_specialOf hl.typeIs slot_list_iter.lookup ?_)
  refine wpAny_pure ?_
  simp only [Bool.false_eq_true, if_false]
  refine wpAny_bind (wpAny_holding (wpAny_pyIter_list hl ?_))
  refine wpAny_bind (wpAny_holding (kun_draw hlt 1 0 _ _ ⟨_, Heap.get?_push_size _ rfl, rfl, rfl⟩ (hl.push _) (by omega) fun h₁ hit₁ hs₁ => ?_))
  have hl₁ : h₁.IsList l items := (hl.push _).extBut hs₁.extBut hlt
  rw [Nat.zero_add] at hit₁
  have hit₁' := hit₁
  obtain ⟨oi, hoi, _⟩ := hit₁'
  have hl₁' := hl₁
  obtain ⟨ol, hol, _⟩ := hl₁'
  rw [List.drop_zero, ht]
  rw [if_neg (show ¬ (first.length < 1) by omega)]
  refine wpAny_bind (wpAny_holding (kun_collect (s := { s with heap := h₁ }) (T := "list_iterator") (.inr (.inr (.inl rfl))) (Walks.list (A := A.in1) hh s.heap.objs.size l hlt items) (fun j u st => st.1.typeIs) (k := 1) (by omega) ⟨hit₁, hl₁⟩ (Heap.lt_size hoi) (Heap.lt_size hol) (fun h₂ tk hk => ?_) (by rw [sizeLine_eq]; omega)))
  rw [hd]
  show wpAny _ _ (if rest.length < 0 then _ else _) _ _ _
  rw [if_neg (Nat.not_lt_zero _)]
  show wpAny _ _ (newList (rest.take (rest.length - 0)) >>= fun d => pure (first ++ [d] ++ rest.drop (rest.length - 0))) _ _ _
  rw [Nat.sub_zero, List.take_length, List.drop_length]
  have hr : rest.length ≤ items.size := by rw [← hsz, h1, List.length_append]; omega
  have he : ∀ b o, s.heap.get? b = some o → h₂.get? b = some o := fun b o e =>
    hk b o (Nat.ne_of_lt (Heap.lt_size e)) ((hs₁.2 b (Nat.ne_of_lt (Heap.lt_size e))).trans (Heap.get?_push_of_some _ e))
  refine wpAny_bind (wpAny_newObj_type ?_ (by show rest.toArray.size ≤ sizeLine; rw [List.size_toArray, sizeLine_eq]; omega))
  refine wpAny_pure ?_
  rw [List.append_nil]
  exact h h₂ tk he
end Nl
namespace Nl
open PySem PySem.Spec PyProof.Rows L2
/-- a, *rest = xs, a list; both names in slots -/
def gStar (K : PySem.W.Frag) (i j : Nat) : TG := fun v σ H Q => ∃ a x xs, v = .ref a ∧ SqL K H a (x :: xs) ∧ xs.length < 16384 ∧ ∀ p, H p = none → Q ((σ.set i (some x)).set j (some (.ref p))) (upd H p (.lst xs))
theorem pg_star {X : Cx} {i j : Nat} {x y : Str} {px py pp pos : Pos} {k1 : Nat} (hc : X.calm = true) (hN : X.N.Nodup) (hi : X.N[i]? = some x) (hx : Loc X.env.scope x) (hj : X.N[j]? = some y) (hy : Loc X.env.scope y)
    (fx : X.fn x = true ∨ X.env.scope.names.lookup x = some .local := by first | exact .inl rfl | exact .inr rfl | assumption) (fy : X.fn y = true ∨ X.env.scope.names.lookup y = some .local := by first | exact .inl rfl | exact .inr rfl | assumption) :
    PG X (.Tuple [.Name x px, .Starred (.Name y py) pp] k1 pos) (gStar X.K i j) := by
  refine ⟨fun pins s σ H v u Q I r h => ?_⟩
  obtain ⟨a, x1, xs, rfl, hs, hz, q⟩ := h
  cases r
  obtain ⟨its, rv, pl, hl⟩ := I.list hs
  have el : (x1 :: xs).length = its.length := rv.length
  cases rv with
  | cons r1 rr =>
    rename_i u1 us
    rw [PyProof.Rows.assign_Tuple]
    refine wpAny_bind (wpAny_standAt ?_)
    unfold unpack
    have h1 : (assignEach [.Name x px, .Starred (.Name y py) pp] X.env).length = 2 := rfl
    have h2 : (assignEach [.Name x px, .Starred (.Name y py) pp] X.env).findIdx? (·.1) = some 1 := rfl
    rw [h1, h2]
    refine wpAny_bind (wpAny_holding (star_list (first := [u1]) (rest := us) pl.isList (I.ok.hd hc) (by simp) (by simp at el ⊢; omega) (by simp) rfl fun h₂ tk hk => ?_))
    have I2 : Inv X pins σ H { s with heap := h₂, toks := tk } := I.kept hk
    have I3 := I2.laid (a := h₂.objs.size) (o := .lst xs) (h' := h₂.push { cls := .type "list", data := .seq us.toArray 0 }) (t' := tk) (fun b o e => Heap.get?_push_of_some _ e) (Nat.le_refl _) ⟨(by simp at hl; omega), us, 0, rr, Heap.get?_push_size _ rfl⟩
    have hf : H h₂.objs.size = none := I2.hok.fresh (Nat.le_refl _)
    show wpAny _ _ (assignInOrder [assign (.Name x px) X.env, assign (.Name y py) X.env] [u1, .ref h₂.objs.size]) _ _ _
    refine assignInOrder_cons (wpAny_assign_Name (store_ok I3 hN hi hx r1 (fun s4 I4 => ?_) fx))
    refine assignInOrder_cons (wpAny_assign_Name (store_ok (v := V.ref h₂.objs.size) I4 hN hj hy rfl (fun s5 I5 => assignInOrder_nil ⟨_, _, I5, q _ hf⟩) fy))
end Nl

set_option Elab.async false
set_option linter.all false
set_option maxRecDepth 100000
set_option maxHeartbeats 1000000
namespace Nl
open PySem PySem.Spec PyProof.Rows L2 L2H
/-! ### a def that is called while an error of the class at D, that stands at p, is handled -/
structure FnS (P : Program) (w : World) (K : PySem.W.Frag) (mg : Str → Option Value) (base : Heap) (k : Nat) (f : Addr) (fd : FuncData) (ps : List Str) (sp : Addr → Addr → Sp) : Prop where
  len : ∀ D a vs H Q E, sp D a vs H Q E → vs.length = ps.length
  run : ∀ (A : Around) (outer : List Env) (s : Shared) (H : Hp) (args : Args) (us : List Value) (vs : List V) (Q : VK) (E : XK) (p : Addr × Obj) (D : Addr), RoomH k A → Zc (.ref D) none p.2 → (∃ fs, p.2.data = .fields fs) → PinOk outer H s p → Env0 P w K mg base A outer s H →
    BindsTo s fd args (ps.zip us) → Vals vs us → sp D p.1 vs H Q E → codeAny (model P w) A (.call (.ref f) args) (CR CX0 outer P w H s Q E) s
theorem fn_ofS {P : Program} {w : World} {K : PySem.W.Frag} {mg : Str → Option Value} {base : Heap} {k : Nat} {f : Addr} {name qual : Str} {params : Arguments} {body : List Stmt} {scope : Scope} {dV kV doc pm cdv ct oc : Value} {an od : Option Addr}
    {osl : Array (Option Value)} {N ps : List Str} {sp : Addr → Addr → Sp} (lk : K.lookup f = some ⟨oc, od, .func (PySem.W.fnOf name qual params body scope dV kV doc pm an cdv ct), osl⟩) (hcd : PySem.W.codeIn K cdv qual = true) (S : FnScope N ps scope)
    (len : ∀ D a vs H Q E, sp D a vs H Q E → vs.length = ps.length)
    (hbody : ∀ (A : Around) (outer : List Env) (s : Shared) (H : Hp) (vs : List V) (Q : VK) (E : XK) (p : Addr × Obj) (D : Addr), Zc (.ref D) none p.2 → (∃ fs, p.2.data = .fields fs) → RoomH k (A.deeper (envOfC qual scope s.heap.objs.size f cdv)) → sp D p.1 vs H Q E →
      ∃ t, PSs (cxH CX0 P w K mg base N qual scope f cdv A outer s H E p) body t ∧ t { nx := fun _ H' => Q .non H', rt := Q } (L2.start N vs) H) :
    FnS P w K mg base (k + 1) f (PySem.W.fnOf name qual params body scope dV kV doc pm an cdv ct) ps sp := by
  refine ⟨len, fun A outer s H args us vs Q E p D hr hz hf hpin e0 hb r hsp => ?_⟩
  have hl := len _ _ _ _ _ _ hsp
  have stay := fun b o e => (e0.bs b o e).1
  have hkind : ∀ y ∈ ps.zip us, scope.names.lookup y.1 = some .local ∨ (scope.names.lookup y.1 = some .cell ∧ ((cellsFrom (s.heap.objs.size + 1) scope.names []).lookup y.1).isSome = true) := fun ⟨n, v⟩ hy =>
    (S.par n (List.of_mem_zip hy).1).elim (fun q => .inl q) fun q => .inr ⟨q, PySem.W.cellsFrom_some _ _ _ (.inl q)⟩
  have KX : K.In s.heap := e0.mod.kin.keeps stay
  have lim : s.heap.NoLimit := e0.mod.nolimit.keeps stay
  refine codeAny_call_function hr.depth (KX _ _ lk) rfl S.co S.gen rfl (PySem.W.codeRec_of KX hcd) (hb _ _ _ _ ?_)
  refine wpAny_newFunctionEnv_cells S.kind hkind fun env he s1 x => ?_
  subst he
  refine ⟨lim.keeps x.toInCall.keep, codeAny_func ?_⟩
  obtain ⟨t, ht, hq⟩ := hbody A outer s H vs Q E p D hz hf (hr.deeper _) hsp
  refine wpAny_mono (ht.run [] s1 (L2.start N vs) H _ (inv_startH S hpin e0 hl r x) hq) (fun fl s' hs => ?_) fun e s' hs => hs
  cases fl with
  | ret u =>
    obtain ⟨v, σ', H', J, rv, q⟩ := hs
    exact ⟨v, H', J.os, J.bare, J.base, J.hok, rv, q⟩
  | next =>
    obtain ⟨σ', H', J, q⟩ := hs
    exact ⟨V.non, H', J.os, J.bare, J.base, J.hok, rfl, q⟩
  | brk =>
    obtain ⟨_, _, _, q⟩ := hs
    exact q.elim
  | cont =>
    obtain ⟨_, _, _, q⟩ := hs
    exact q.elim
structure CalS (P : Program) (w : World) (K : PySem.W.Frag) (mg : Str → Option Value) (base : Heap) (k : Nat) (x : Str) (sp : Addr → Addr → Sp) : Prop where
  ex : ∃ (f : Addr) (fd : FuncData) (ps : List Str), FnS P w K mg base k f fd ps sp ∧ mg x = some (.ref f) ∧ PySem.W.keepIn K (.ref f) = true ∧ Binds K fd ps []
theorem calS_of {P : Program} {w : World} {K : PySem.W.Frag} {mg : Str → Option Value} {base : Heap} {x : Str} {st : Stmt} {N ps : List Str} {k : Nat} {sp : Addr → Addr → Sp} (T : Top K mg) (D : DefAt K x st) (S : FnScope N ps (defScope st)) (b : BindOk x st ps)
    (len : ∀ D a vs H Q E, sp D a vs H Q E → vs.length = ps.length)
    (hbody : ∀ (f : Addr) (cdv : Value) (A : Around) (outer : List Env) (s : Shared) (H : Hp) (vs : List V) (Q : VK) (E : XK) (p : Addr × Obj) (D : Addr), Zc (.ref D) none p.2 → (∃ fs, p.2.data = .fields fs) → RoomH k (A.deeper (envOfC x (defScope st) s.heap.objs.size f cdv)) → sp D p.1 vs H Q E →
      ∃ t, PSs (cxH CX0 P w K mg base N x (defScope st) f cdv A outer s H E p) (defBody st) t ∧ t { nx := fun _ H' => Q .non H', rt := Q } (L2.start N vs) H) : CalS P w K mg base (k + 1) x sp := by
  obtain ⟨f, oc, od, an, osl, kV, doc, pm, cdv, ct, a, l, c, kp⟩ := D
  have F := fun_mk (st := st) l c kp
  exact ⟨f, _, ps, fn_ofS l c S len fun A outer s H vs Q E p D hz hf hr h => hbody f cdv A outer s H vs Q E p D hz hf hr h, T.of a, kp, F.binds b⟩
section
variable {X : Cx} {k j : Nat} {x : Str} {sp : Addr → Addr → Sp} {p pos : Pos} {e : Expr} {es : List Expr} {t : TA}
/-- f(..) within the suite of a clause; the error at a, of the class cls -/
def tCallSu (sp : Addr → Addr → Sp) (a : Addr) (cls : Value) (d : Option Addr) (t : TA) : TE := fun σ H Q => t σ H fun vs H1 => ∃ D, cls = .ref D ∧ d = none ∧ sp D a vs H1 Q E0
theorem pe_su {a : Addr} {oe : Obj} {cls : Value} {d : Option Addr} {pn : List (Addr × Obj)} (c : CalS X.prog X.w X.K X.mg X.base k x sp) (hz : Zc cls d oe) (hf : ∃ fs, oe.data = .fields fs) (hr : Room j X.A) (hk : k ≤ j) (hg : Gl X x) (ha : PA (X.suite a ((a, oe) :: pn)) (e :: es) t)
    (hdb : (x == ("__debug__" : Str)) = false := by decide) (he : starEach (e :: es) X.env = (false, eval e X.env) :: starEach es X.env := by rfl) (hpl : (backTo pos (starEach es X.env)).any (·.1) = false := by rfl) :
    PE (X.suite a ((a, oe) :: pn)) (.Call (.Name x p) (e :: es) [] pos) (tCallSu sp a cls d t) := by
  obtain ⟨f, fd, ps, F, hm, kp, hb⟩ := c.ex
  refine ⟨fun pins s σ H Q I h => ?_⟩
  refine wpAny_Call_Name_kw (ld_glob I hg hm ?_ hdb)
  refine PySem.W.callWith_K (h₀ := X.base) I.ok.mod.kin kp (thn (ha.run pos pins s σ H _ I h) fun us s1 ⟨vs, H1, I1, r, D, ec, ed, q⟩ => ⟨I1.kIn, ?_⟩) he hpl
  subst ec ed
  have hl : us.length = ps.length := by rw [← r.length]; exact F.len _ _ _ _ _ _ q
  have b := hb s1 us I1.kIn (by rw [List.append_nil]; exact hl)
  rw [List.append_nil] at b
  have P1 := I1.pin (a, oe) (List.mem_append_left _ List.mem_cons_self)
  have hpin : PinOk (X.suite a ((a, oe) :: pn)).stack H1 s1 (a, oe) := ⟨P1.1, P1.2.1, fun hm => (List.mem_cons.mp (I1.stkSub a hm)).elim P1.2.2.1 P1.2.2.2.1, P1.2.2.2.2⟩
  have hr2 : RoomH k (X.suite a ((a, oe) :: pn)).A := ⟨(hr.mono hk).dp, (hr.mono hk).un⟩
  refine wpAny_call (codeAny_mono (F.run _ _ s1 H1 ⟨us, []⟩ us vs Q E0 (a, oe) D hr2 hz hf hpin I1.env0 b r q) fun r s' hq => ?_)
  cases r with
  | error e => exact hq.elim
  | ok fl =>
    cases fl with
    | ret u => exact I1.after hq
    | next => exact hq.elim
    | brk => exact hq.elim
    | cont => exact hq.elim
/-- isinstance of an error that is pinned -/
theorem call_isP {q : Addr × Obj} {D : Addr} (hq : q ∈ X.pn) (C : ExcC X.K D) (hz : Zc (.ref D) none q.2) (hf : ∃ fs, q.2.data = .fields fs) : CallR X (.builtin "isinstance") (rIsE X.K D q.1) := by
  intro pins s σ H xs us Q I r h
  obtain ⟨c, cv, b, rfl, hcv, e, k⟩ := h
  cases r with
  | cons rx rr =>
    cases rr with
    | cons rt rr =>
      cases rr
      cases rx
      have ec := hcv _ rt
      subst ec
      have hget := (I.pin q (List.mem_append_left _ hq)).1
      have J : PySem.W.InstAt s.heap q.1 q.2 D none := by
        obtain ⟨fs, hv⟩ := hf
        obtain ⟨a, oc, od, oda, osl⟩ := q
        obtain ⟨h1, h2⟩ := hz
        dsimp only at h1 h2 hv
        subst h1 h2 hv
        exact ⟨hget, rfl, rfl, trivial⟩
      exact PySem.W.kia_one (PySem.W.handS_kitx_exc C.hg C.hk C.hs C.hd C.ha C.hn C.ht C.hm) I.kIn J e (fun z => nomatch z) fun tk => ⟨.bl b, H, I.kept (t' := tk) fun _ _ z => z, rfl, k⟩
/-- xs.count(x), all of them plain -/
def rCntV (K : PySem.W.Frag) : V → List V → Hp → VK → Prop := fun x xs H Q => ∃ (p : Addr) (ys : List V) (y : V), x = .ref p ∧ xs = [y] ∧ SqL K H p ys ∧ flatV y = true ∧ ys.all flatV = true ∧ Q (.int (ys.countP (fun z => eqV z y) : Nat)) H
theorem countU {x : V} : ∀ {ys : List V} {us : List Value}, Vals ys us → ys.all flatV = true → us.countP (eqU x) = ys.countP fun z => eqV z x
  | _, _, .nil, _ => rfl
  | _, _, .cons r t, f => by
    rw [List.all_cons, Bool.and_eq_true] at f
    rw [List.countP_cons, List.countP_cons, countU t f.2, eqU_of r f.1]
theorem mt_countV : MtR X "list.count" (rCntV X.K) := by
  intro pins s σ H x xs v us Q I rx rxs h
  obtain ⟨p, ys, y, rfl, rfl, hs, fy, fl, q⟩ := h
  cases rx
  obtain ⟨u, rfl, ru⟩ := rxs.one
  obtain ⟨its, rv, ⟨⟨cls, dd, data, sl⟩, n, ho, hc, hdn, hd⟩, hlen⟩ := I.list hs
  simp only at hc hd
  subst hc hd
  refine call_meets PySem.F.slot_list_count ⟨_, ho, rfl⟩ PySem.F.entry_list_count (PySem.F.args_list_count_2 _ _) (SeqAt.list_countAt p its.toArray n dd sl u (eqU y)) ⟨ho, fun z hz => mem_eqAt ru fy rv fl z (by simpa using hz), ?_⟩
  have ec : its.toArray.toList.countP (eqU y) = ys.countP (fun z => eqV z y) := by rw [List.toList_toArray]; exact countU rv fl
  rw [ec]
  exact ⟨.int _, H, I.tok _, ⟨s.toks, rfl⟩, q⟩
end
/-! ### isinstance of one of the five refusals -/
structure AloneAt (K : PySem.W.Frag) (cs : List Addr) (cL : Addr) (D : Addr) (own : Nat) : Prop where
  ex : ExcC K D
  k : ∀ j c, cs[j]? = some c → PySem.W.kitOne K (.ref D) (.ref c) = some (decide (j = own))
  line : PySem.W.kitOne K (.ref D) (.ref cL) = some true
  val : PySem.W.kitOne K (.ref D) (.type "ValueError") = some true
/-- an error of the class D is the own-th of the five and none else -/
def spAlone (K : PySem.W.Frag) (cs : List Addr) (cL : Addr) : Addr → Addr → Sp := fun D a vs H Q _ => ∃ own : Nat, vs = [.ref a, .int (own : Nat)] ∧ own < 5 ∧ AloneAt K cs cL D own ∧ ∀ H', Same H H' → Q (.bl true) H'
/-! ### plain values as data -/
def dOf : V → PyData
  | .bl b => .bool b
  | .int i => .int i
  | .str x => .str x
  | _ => .none
theorem dp_flat {K : PySem.W.Frag} {H : Hp} {v : V} (h : flatV v = true) : Dp K H v (dOf v) := by
  cases v with
  | non => exact .non
  | bl b => exact .bl b
  | int i => exact .int i
  | str x => exact .str x
  | _ => cases h
theorem dpAll_flat {K : PySem.W.Frag} {H : Hp} : ∀ {xs : List V}, xs.all flatV = true → DpAll K H xs (xs.map dOf)
  | [], _ => .nil
  | x :: xs, h => by
    rw [List.all_cons, Bool.and_eq_true] at h
    exact .cons (dp_flat h.1) (dpAll_flat h.2)
theorem dp_tup {K : PySem.W.Frag} {H : Hp} {p : Addr} {xs : List V} (h : SqT K H p xs) (f : xs.all flatV = true) : Dp K H (.ref p) (.tuple (xs.map dOf)) := .tup h (dpAll_flat f)
theorem dp_lst {K : PySem.W.Frag} {H : Hp} {p : Addr} {xs : List V} (h : SqL K H p xs) (f : xs.all flatV = true) : Dp K H (.ref p) (.list (xs.map dOf)) := .lst h (dpAll_flat f)
theorem depth_flat : ∀ xs : List V, PyData.depthAll (xs.map dOf) = 0
  | [] => rfl
  | x :: xs => by
    have e : (dOf x).depth = 0 := by cases x <;> rfl
    rw [List.map_cons, PyData.depthAll, e, depth_flat xs]
    rfl
theorem shaped_tup {xs : List V} (h : PyData.canLayAll0 (xs.map dOf) = true) : SeqAt.shaped (.tuple (xs.map dOf)) = true := by
  have e : PyData.depth (.tuple (xs.map dOf)) = 1 := by rw [PyData.depth, depth_flat]
  unfold SeqAt.shaped
  rw [e]
  show (PyData.canLayAll0 (xs.map dOf) && _) = true
  rw [h]
  rfl
theorem shaped_lst {xs : List V} (h : PyData.canLayAll0 (xs.map dOf) = true) : SeqAt.shaped (.list (xs.map dOf)) = true := by
  have e : PyData.depth (.list (xs.map dOf)) = 1 := by rw [PyData.depth, depth_flat]
  unfold SeqAt.shaped
  rw [e]
  show (PyData.canLayAll0 (xs.map dOf) && _) = true
  rw [h]
  rfl
theorem lay_ints : ∀ ns : List Int, PyData.canLayAll0 ((ns.map V.int).map dOf) = true
  | [] => rfl
  | n :: ns => by
    show (true && PyData.canLayAll0 ((ns.map V.int).map dOf)) = true
    rw [lay_ints ns]
    rfl
theorem eqv_same {d : PyData} (h : SeqAt.shaped d = true) : PyData.eqv d d = true := PySem.SeqAt.eqv_refl d (SeqAt.canLay_of_shaped h)
end Nl

set_option Elab.async false
set_option linter.all false
set_option maxRecDepth 100000
set_option maxHeartbeats 4000000
namespace Nl
open PySem PySem.Spec PyProof.Rows L2 L2H
/-! ### data at any depth -/
mutual
theorem dp_same {K : PySem.W.Frag} {H H' : Hp} (s : Same H H') : ∀ (d : PyData) (v : V), Dp K H v d → Dp K H' v d
  | .none, _, h => by cases h; exact .non
  | .bool _, _, h => by cases h; exact .bl _
  | .int _, _, h => by cases h; exact .int _
  | .str _, _, h => by cases h; exact .str _
  | .list ds, _, h => by
    cases h with
    | lst q a => exact .lst (s.seq q) (dpAll_same s ds _ a)
  | .tuple ds, _, h => by
    cases h with
    | tup q a => exact .tup (s.sqt q) (dpAll_same s ds _ a)
  | .dict _, _, h => by cases h
theorem dpAll_same {K : PySem.W.Frag} {H H' : Hp} (s : Same H H') : ∀ (ds : List PyData) (vs : List V), DpAll K H vs ds → DpAll K H' vs ds
  | [], _, h => by cases h; exact .nil
  | d :: ds, _, h => by
    cases h with
    | cons a b => exact .cons (dp_same s d _ a) (dpAll_same s ds _ b)
end
theorem dpA_len {K : PySem.W.Frag} {H : Hp} : ∀ {vs : List V} {ds : List PyData}, DpAll K H vs ds → vs.length = ds.length
  | _, _, .nil => rfl
  | _, _, .cons _ h => by simp only [List.length_cons, dpA_len h]
theorem dpA_get {K : PySem.W.Frag} {H : Hp} : ∀ {vs : List V} {ds : List PyData} {i : Nat} {v : V}, DpAll K H vs ds → vs[i]? = some v → ∃ d, ds[i]? = some d ∧ Dp K H v d
  | _, _, i, v, .nil, e => by simp at e
  | _, _, 0, v, .cons (d := d) a h, e => by
    rw [List.getElem?_cons_zero] at e
    cases e
    exact ⟨d, rfl, a⟩
  | _, _, i + 1, v, .cons a h, e => by
    rw [List.getElem?_cons_succ] at e
    obtain ⟨d, e2, q⟩ := dpA_get h e
    exact ⟨d, by rw [List.getElem?_cons_succ]; exact e2, q⟩
theorem dpA_set {K : PySem.W.Frag} {H : Hp} {v : V} {d : PyData} (q : Dp K H v d) : ∀ {vs : List V} {ds : List PyData} {i : Nat}, DpAll K H vs ds → DpAll K H (vs.set i v) (ds.set i d)
  | _, _, _, .nil => .nil
  | _, _, 0, .cons a h => .cons q h
  | _, _, i + 1, .cons a h => .cons a (dpA_set q h)
theorem dpA_app {K : PySem.W.Frag} {H : Hp} {v : V} {d : PyData} (q : Dp K H v d) : ∀ {vs : List V} {ds : List PyData}, DpAll K H vs ds → DpAll K H (vs ++ [v]) (ds ++ [d])
  | _, _, .nil => .cons q .nil
  | _, _, .cons a h => .cons a (dpA_app q h)
theorem dpAll_flat2 {K : PySem.W.Frag} {H : Hp} : ∀ {xs : List V}, xs.all flatV = true → DpAll K H xs (xs.map dOf)
  | [], _ => .nil
  | x :: xs, h => by
    rw [List.all_cons, Bool.and_eq_true] at h
    exact .cons (dp_flat h.1) (dpAll_flat2 h.2)
def tyN : PyData → String
  | .none => "NoneType" | .bool _ => "bool" | .int _ => "int" | .str _ => "str" | .list _ => "list" | .tuple _ => "tuple" | .dict _ => "dict"
theorem ty_l {K : PySem.W.Frag} {H : Hp} {a : Addr} {xs : List V} (h : SqL K H a xs) : TyX K H (.ref a) (.type "list") := by
  rcases h with (h | ⟨_, h⟩) | ⟨_, _, _, h, c, _⟩
  · exact .base (.lst h)
  · exact .base (.frz h)
  · exact .kList h c
theorem ty_t {K : PySem.W.Frag} {H : Hp} {a : Addr} {xs : List V} (h : SqT K H a xs) : TyX K H (.ref a) (.type "tuple") := by
  rcases h with (h | ⟨_, h⟩) | ⟨_, _, _, h, c, _⟩
  · exact .base (.tup h)
  · exact .fTuple h
  · exact .kTuple h c
theorem dp_ty {K : PySem.W.Frag} {H : Hp} {v : V} {d : PyData} (h : Dp K H v d) : TyX K H v (.type (tyN d)) := by
  cases h with
  | non => exact .base .non
  | bl b => exact .base (.bl b)
  | int i => exact .base (.int i)
  | str x => exact .base (.str x)
  | lst h _ => exact ty_l h
  | tup h _ => exact ty_t h
theorem tyN_in (d : PyData) : tyN d ∈ ["NoneType", "bool", "int", "str", "list", "tuple", "dict"] := by
  cases d <;> simp [tyN]
theorem kit_d {n : String} (h : ∀ a ∈ ["NoneType", "bool", "int", "str", "list", "tuple", "dict"], kitB a n = some (decide (a = n))) (d : PyData) : kitB (tyN d) n = some (decide (tyN d = n)) := h _ (tyN_in d)
theorem kit_int (d : PyData) : kitB (tyN d) "int" = some (decide (tyN d = "int" ∨ tyN d = "bool")) :=
  (by decide +kernel : ∀ a ∈ ["NoneType", "bool", "int", "str", "list", "tuple", "dict"], kitB a "int" = some (decide (a = "int" ∨ a = "bool"))) _ (tyN_in d)
theorem kit_bool (d : PyData) : kitB (tyN d) "bool" = some (decide (tyN d = "bool")) := kit_d (by decide +kernel) d
theorem kit_tup (d : PyData) : kitB (tyN d) "tuple" = some (decide (tyN d = "tuple")) := kit_d (by decide +kernel) d
theorem kit_str (d : PyData) : kitB (tyN d) "str" = some (decide (tyN d = "str")) := kit_d (by decide +kernel) d
/-- for x in an iterator -/
theorem for_gen {J : It} {g : TG} {tb : TS} {D : Ends} {σ : L2.St} {H : Hp} (n : Nat) (Pv : Nat → L2.St → Hp → Prop) (h0 : Pv 0 σ H) (go : ∀ i σ H, i < n → Pv i σ H → J.go i H) (stop : ∀ σ H, Pv n σ H → J.stop n H)
    (hs : ∀ i σ H y H', i < n → Pv i σ H → J.yld i H y H' → g y σ H' fun σ2 H2 => tb { D with nx := Pv (i + 1), ct := Pv (i + 1), bk := D.nx } σ2 H2) (hd : ∀ σ H, Pv n σ H → D.nx σ H) :
    ∃ W : Nat → Nat → L2.St → Hp → Prop, (∃ m, W 0 m σ H) ∧ ∀ i m σ H, W i m σ H →
      (J.stop i H ∧ D.nx σ H) ∨ (J.go i H ∧ ∃ N : L2.St → Hp → Prop, (∀ σ' H', N σ' H' → ∃ m', m' < m ∧ W (i + 1) m' σ' H') ∧ ∀ y H', J.yld i H y H' → g y σ H' fun σ2 H2 => tb { D with nx := N, ct := N, bk := D.nx } σ2 H2) := by
  refine ⟨fun i m σ H => m = n - i ∧ i ≤ n ∧ Pv i σ H, ⟨n, by simp, Nat.zero_le _, h0⟩, ?_⟩
  rintro i m σ H ⟨rfl, hi, p⟩
  by_cases hlt : i < n
  · exact .inr ⟨go i σ H hlt p, Pv (i + 1), fun σ' H' p' => ⟨n - (i + 1), by omega, rfl, hlt, p'⟩, fun y H' q => hs i σ H y H' hlt p q⟩
  · have e : i = n := by omega
    subst e
    exact .inl ⟨stop σ H p, hd σ H p⟩
/-- a whole number within the bounds, True and False are none -/
def wholeIn (d : PyData) (lo hi : Int) : Bool := match d with
  | .int i => decide (lo ≤ i) && decide (i ≤ hi)
  | _ => false
def lastOf (size count : Int) (k : Str) : Int := if k = "box" then size - 1 else if k = "number" then 999999 else count
def fitK (size count : Int) (l : List Str) (ps : List PyData) : Bool := (List.range l.length).all fun k => wholeIn (ps.getD k .none) 0 (lastOf size count (l.getD k Str.empty))
theorem cutV_1 (x : V) (xs : List V) : cutV (x :: xs) (some 1) none = xs := by
  unfold cutV
  have h1 : HT.sIx (x :: xs).length 0 (some 1) = 1 := by
    have := HT.sIx_nat (x :: xs).length 0 1
    simp only [List.length_cons] at this ⊢
    rw [show ((1 : Nat) : Int) = 1 from rfl] at this
    rw [this]
    omega
  rw [h1, HT.sIx_none]
  simp
theorem dpA_by {K : PySem.W.Frag} {H : Hp} : ∀ {vs : List V} {ds : List PyData}, vs.length = ds.length → (∀ (j : Nat) (v : V), vs[j]? = some v → ∃ d, ds[j]? = some d ∧ Dp K H v d) → DpAll K H vs ds
  | [], [], _, _ => .nil
  | v :: vs, d :: ds, hl, h => by
    refine .cons ?_ (dpA_by (Nat.succ.inj hl) fun j v' e => ?_)
    · obtain ⟨d', e, q⟩ := h 0 v rfl
      cases e
      exact q
    · obtain ⟨d', e', q⟩ := h (j + 1) v' (by rw [List.getElem?_cons_succ]; exact e)
      exact ⟨d', by rw [List.getElem?_cons_succ] at e'; exact e', q⟩
  | [], _ :: _, hl, _ => by cases hl
  | _ :: _, [], hl, _ => by cases hl
/-- [a new tuple for k in range(..)] -/
theorem lc_tr {g : TG} {tt : TT} {te : TE} {vs : List Nat} {σ : L2.St} {H1 : Hp} {D : Addr} {Qd : Hp → Prop} {lo : Int} {n : Nat} (fx : Nat → List V) (hD : H1 D = none) (hz : n < sizeLine)
    (hs : ∀ i H, i < n → Same H1 H → ∀ (k1 : VK) (k0 : Hp → Prop), (∀ p H', H' p = some (.tup (fx i)) → Same H H' → k1 (.ref p) H') →
      g (.int (lo + (i : Nat))) (wipe σ vs) H fun σ2 H2 => wipe σ2 vs = wipe σ vs ∧ tt σ2 H2 fun b H3 => if b = true then te σ2 H3 k1 else k0 H3)
    (hd : ∀ H acc, Same H1 H → H D = some (.lst acc) → acc.length = n → (∀ j, j < n → ∃ p, acc[j]? = some (.ref p) ∧ H p = some (.tup (fx j))) → Qd H) : LcW (Itr lo n) g tt te vs σ H1 D Qd := by
  refine ⟨fun i m H => m = n - i ∧ i ≤ n ∧ Same H1 H ∧ ∃ acc, H D = some (.lst acc) ∧ acc.length = i ∧ ∀ j, j < i → ∃ p, acc[j]? = some (.ref p) ∧ H p = some (.tup (fx j)), ⟨n, by simp, Nat.zero_le _, Same.new hD, [], upd_same, rfl, fun j h => absurd h (Nat.not_lt_zero _)⟩, ?_⟩
  rintro i m H ⟨rfl, hi, s1, acc, h1, hl, ha⟩
  by_cases hlt : i < n
  · refine .inr ⟨hlt, fun H' => Same H1 H' ∧ ∃ acc, H' D = some (.lst acc) ∧ acc.length = i + 1 ∧ ∀ j, j < i + 1 → ∃ p, acc[j]? = some (.ref p) ∧ H' p = some (.tup (fx j)), fun H' p' => ⟨n - (i + 1), by omega, rfl, hlt, p'⟩, fun x H' y => ?_⟩
    obtain ⟨e, y⟩ := y
    subst e y
    refine hs i _ hlt s1 _ _ (fun p H'' hp s3 => ?_)
    refine ⟨acc, s3 _ _ h1, by omega, (s1.trans s3).mut hD, acc ++ [.ref p], upd_same, by rw [List.length_append, hl]; rfl, fun j hj => ?_⟩
    have hne : ∀ q u, H'' q = some (.tup u) → q ≠ D := fun q u e z => by
      rw [z, s3 _ _ h1] at e
      cases e
    by_cases h : j < i
    · obtain ⟨q, e1, e2⟩ := ha j h
      have e3 := s3 _ _ e2
      exact ⟨q, by rw [List.getElem?_append_left (by omega)]; exact e1, by rw [upd_ne (hne q _ e3)]; exact e3⟩
    · have : j = i := by omega
      subst this
      exact ⟨p, by rw [List.getElem?_append_right (by omega), hl, Nat.sub_self]; rfl, by rw [upd_ne (hne p _ hp)]; exact hp⟩
  · have e : i = n := by omega
    subst e
    exact .inl ⟨Nat.le_refl _, hd H acc s1 h1 hl ha⟩
end Nl

set_option Elab.async false
set_option linter.all false
set_option maxRecDepth 100000
set_option maxHeartbeats 4000000
namespace Nl
open PySem PySem.Spec PyProof.Rows L2 L2H
/-! ### match over a tuple whose first item is a text -/
/-- the cases of a match, by the subject -/
structure PMs (X : Cx) (cs : List MatchCase) (t : V → TS) : Prop where
  run : ∀ (pins : List (Addr × Obj)) (s : Shared) (σ : L2.St) (H : Hp) (D : Ends) (v : V) (u : Value) (first : Bool), Inv X pins σ H s → RelV v u → t v D σ H → wpAny (model X.prog X.w) X.A (matchCases cs X.env u first) (SP X pins D) X.xe s
def mNil : V → TS := fun _ D σ H => D.nx σ H
theorem pm_nil {X : Cx} : PMs X [] mNil := ⟨fun pins s σ H D v u first I r h => wpAny_matchCases_nil ⟨σ, H, I, h⟩⟩
/-- the names of the other items go to their slots -/
def setAll : List Nat → List V → L2.St → L2.St
  | i :: is, y :: ys, σ => setAll is ys (σ.set i (some y))
  | _, _, σ => σ
inductive Caps (X : Cx) : List Pattern → List Nat → Prop
  | nil : Caps X [] []
  | cons {x : Str} {p : Pos} {ps : List Pattern} {i : Nat} {is : List Nat} (hi : X.N[i]? = some x) (hx : Loc X.env.scope x) (hf : X.fn x = true ∨ X.env.scope.names.lookup x = some .local) (h : Caps X ps is) : Caps X (.MatchAs none (some x) p :: ps) (i :: is)
def capB : List Pattern → List Value → List (Str × Value)
  | .MatchAs none (some x) _ :: ps, u :: us => (x, u) :: capB ps us
  | _, _ => []
theorem Caps.len {X : Cx} {ps : List Pattern} {is : List Nat} (c : Caps X ps is) : ps.length = is.length := by
  induction c with
  | nil => rfl
  | cons _ _ _ _ ih => rw [List.length_cons, List.length_cons, ih]
theorem caps_each {X : Cx} {M : Model} {A : Around} {E : Value → Shared → Prop} {env : Env} {ps : List Pattern} {is : List Nat} (c : Caps X ps is) : ∀ {us : List Value} {s : Shared} {Q : Option (List (Str × Value)) → Shared → Prop}, us.length = ps.length → Q (some (capB ps us)) s → wpAny M A (matchEach ps env us) Q E s := by
  induction c with
  | nil => exact fun _ h => wpAny_matchEach_nil h
  | cons hi hx hf c ih =>
    intro us s Q hl h
    cases us with
    | nil => cases hl
    | cons u us =>
      refine wpAny_matchEach_cons (wpAny_matchPattern_Capture ?_)
      exact ih (Nat.succ.inj hl) h
theorem caps_set {X : Cx} (hN : X.N.Nodup) {pins : List (Addr × Obj)} {H : Hp} {ps : List Pattern} {is : List Nat} (c : Caps X ps is) : ∀ {ys : List V} {us : List Value} {σ : L2.St} {s : Shared} {Q : Unit → Shared → Prop}, Vals ys us → us.length = ps.length → Inv X pins σ H s → (∀ s', Inv X pins (setAll is ys σ) H s' → Q () s') →
    wpAny (model X.prog X.w) X.A (assignInOrder ((capB ps us).map fun (n, _) => bindName X.env n) ((capB ps us).map (·.2))) Q X.xe s := by
  induction c with
  | nil => exact fun r hl I h => wpAny_assignInOrder_none (by
      cases r with
      | nil => exact h _ I
      | cons _ _ => cases hl)
  | cons hi hx hf c ih =>
    intro ys us σ s Q r hl I h
    cases r with
    | nil => cases hl
    | cons r rr =>
      refine wpAny_assignInOrder_more (wpAny_bindName (store_ok I hN hi hx r (fun s1 I1 => ?_) hf))
      exact ih rr (Nat.succ.inj hl) I1 h
def mSeq (K : PySem.W.Frag) (x : Str) (is : List Nat) (b : TS) (r : V → TS) : V → TS := fun v D σ H => ∃ (a : Addr) (z : Str) (ys : List V), v = .ref a ∧ SqT K H a (.str z :: ys) ∧ (ys.length = is.length ∧ z = x → b D (setAll is ys σ) H) ∧ (¬ (ys.length = is.length ∧ z = x) → r v D σ H)
theorem pm_seq {X : Cx} (hc : X.calm = true) (hN : X.N.Nodup) {x : Str} {j : Nat} {p1 p2 p3 : Pos} {ps : List Pattern} {is : List Nat} {body : List Stmt} {rest : List MatchCase} {b : TS} {r : V → TS} (hC : Caps X ps is) (hb : PSs X body b) (hr : PMs X rest r)
    (hs : (Pattern.MatchValue (.Constant (.str x) j p1) p2 :: ps).findIdx? (·.isStar) = none := by rfl) (hw : ((Pattern.MatchValue (.Constant (.str x) j p1) p2 :: ps).all fun p => p.isWildcard || (p.isStar && p.names.isEmpty)) = false := by rfl) :
    PMs X (⟨.MatchSequence (.MatchValue (.Constant (.str x) j p1) p2 :: ps) p3, none, body⟩ :: rest) (mSeq X.K x is b r) := by
  refine ⟨fun pins s σ H D v u first I rv h => ?_⟩
  obtain ⟨a, z, ys, rfl, hS, h1, h0⟩ := h
  cases (show u = Value.ref a from rv)
  obtain ⟨its, ri, ht, hz⟩ := I.tuple hS
  have hfit : ((its.toArray.size : Nat) : Int) < 2 ^ 63 := by
    have e := ri.length
    rw [List.size_toArray, ← e]
    have : sizeLine < 2 ^ 63 := by decide
    omega
  cases ri with
  | @cons _ v0 _ us r0 rr =>
    have hlen := rr.length
    refine wpAny_matchCases_cons ?_
    by_cases hn : ys.length = is.length
    · have hps : (v0 :: us).toArray.size = (Pattern.MatchValue (.Constant (.str x) j p1) p2 :: ps).length := by
        rw [List.size_toArray, List.length_cons, List.length_cons, hC.len]
        omega
      refine matchSeq_tuple_hit ht hfit hps ?_ hs hw
      rw [← hps]
      refine unpackItems_tuple (I.ok.hd hc) ht fun h' hx => ?_
      have I1 : Inv X pins σ H { s with heap := h', toks := s.toks + 1 + 1 } := I.kept (t' := s.toks + 1 + 1) fun b o e => hx b o (Nat.ne_of_lt (Heap.lt_size e)) e
      refine wpAny_matchEach_cons (wpAny_matchPattern_Value ?_)
      refine thn ((pe_str (x := x) (j := j) (pos := p1)).run pins _ σ H (fun y H1 => y = .str x ∧ H1 = H) I1 ⟨rfl, rfl⟩) fun u1 s1 ⟨y, H1, I2, ry, ey, eH⟩ => ?_
      subst ey eH
      refine thn (op_eq pins s1 σ _ (.str z) (.str x) v0 u1 (fun q H2 => q = .bl (decide (V.str z = V.str x)) ∧ H2 = H1) I2 r0 ry ⟨rfl, rfl, rfl⟩) fun c s2 ⟨q, H2, I3, rq, eq, eH⟩ => ?_
      subst eq eH
      cases rq
      refine wpAny_truthy_bool ?_
      by_cases hzx : z = x
      · rw [if_pos (decide_eq_true (congrArg V.str hzx))]
        refine caps_each hC (by rw [hC.len]; omega) ?_
        refine caps_set hN hC rr (by rw [hC.len]; omega) I3 fun s3 I4 => ?_
        exact hb.run pins s3 _ _ D I4 (h1 ⟨hn, hzx⟩)
      · rw [if_neg (fun e => hzx (V.str.inj (of_decide_eq_true e)))]
        exact hr.run pins s2 σ _ D (.ref a) _ _ I3 rfl (h0 fun e => hzx e.2)
    · have hps : (v0 :: us).toArray.size ≠ (Pattern.MatchValue (.Constant (.str x) j p1) p2 :: ps).length := by
        rw [List.size_toArray, List.length_cons, List.length_cons, hC.len]
        omega
      exact matchSeq_tuple_miss ht hfit hps (hr.run pins _ σ _ D (.ref a) _ _ (I.tok _) rfl (h0 fun e => hn e.1)) hs hw
/-- match e: .. -/
def tMatch (te : TE) (t : V → TS) : TS := fun D σ H => te σ H fun v H1 => t v D σ H1
theorem ps_match {X : Cx} {e : Expr} {cs : List MatchCase} {pos : Pos} {te : TE} {t : V → TS} (he : PE X e te) (hm : PMs X cs t) : PS X (.Match e cs pos) (tMatch te t) := by
  refine ⟨fun pins s σ H D I h => ?_⟩
  exact wpAny_Match (thn (he.run pins s σ H _ I h) fun u s1 ⟨v, H1, I1, r, q⟩ => hm.run pins s1 σ H1 D v u true I1 r q)
end Nl

set_option Elab.async false
set_option linter.all false
set_option maxRecDepth 100000
set_option maxHeartbeats 4000000
namespace Nl
open PySem PySem.Spec PyProof.Rows L2 L2H
/-! ### a method of a class of the top, as it stands -/
def MethAt (K : PySem.W.Frag) (C : Addr) (m qual : Str) (st : Stmt) : Prop :=
  ∃ (f : Addr) (oc : Value) (od an : Option Addr) (osl : Array (Option Value)) (kV doc pm cdv ct : Value),
    PySem.W.findIn K (.ref C) m = some (some (.ref f)) ∧ PySem.W.isFn K (.ref f) = true ∧
    K.lookup f = some ⟨oc, od, .func (PySem.W.fnOf m qual (defArgs st) (defBody st) (defScope st) .none kV doc pm an cdv ct), osl⟩ ∧
    PySem.W.codeIn K cdv qual = true ∧ PySem.W.keepIn K (.ref f) = true
theorem meth_mk {K : PySem.W.Frag} {C : Addr} {m qual : Str} {st : Stmt} {f : Addr} {oc : Value} {od an : Option Addr} {osl : Array (Option Value)} {kV doc pm cdv ct : Value} (a : PySem.W.findIn K (.ref C) m = some (some (.ref f))) (i : PySem.W.isFn K (.ref f) = true)
    (l : K.lookup f = some ⟨oc, od, .func (PySem.W.fnOf m qual (defArgs st) (defBody st) (defScope st) .none kV doc pm an cdv ct), osl⟩) (c : PySem.W.codeIn K cdv qual = true) (k : PySem.W.keepIn K (.ref f) = true) : MethAt K C m qual st :=
  ⟨f, oc, od, an, osl, kV, doc, pm, cdv, ct, a, i, l, c, k⟩
theorem cls_mk {K : PySem.W.Frag} {C : Addr} (pg : PySem.W.plainGet K C Str.empty = true) (hd : PySem.W.hasDictIn K C = true) (po : PySem.W.plainOver K C = true) (sa : PySem.W.findIn K (.ref C) "__setattr__" = some (some (.builtin "object.__setattr__"))) : Cls K C := ⟨pg, hd, po, sa⟩
section
variable {P : Program} {w : World} {K : PySem.W.Frag} {mg : Str → Option Value} {base : Heap}
abbrev BindM (m qual : Str) (st : Stmt) (ps : List Str) : Prop := ∀ (kV doc pm : Value) (an : Option Addr) (cdv ct : Value) (us : List Value), us.length = ps.length →
  bindArgs (PySem.W.fnOf m qual (defArgs st) (defBody st) (defScope st) .none kV doc pm an cdv ct) ⟨us, []⟩ = pure (ps.zip us)
theorem met_of {C : Addr} {m qual : Str} {st : Stmt} {N ps : List Str} {k : Nat} {sp : Sp} (c : Cls K C) (D : MethAt K C m qual st) (S : FnScope N ps (defScope st)) (b : BindM m qual st ps) (len : ∀ vs H Q E, sp vs H Q E → vs.length = ps.length)
    (hbody : ∀ (f : Addr) (cdv : Value) (A : Around) (outer : List Env) (s : Shared) (H : Hp) (vs : List V) (Q : VK) (E : XK), Room k (A.deeper (envOfC qual (defScope st) s.heap.objs.size f cdv)) → sp vs H Q E →
      ∃ t, PSs (cxOf CX0 P w K mg base N qual (defScope st) f cdv A outer s H E).nox (defBody st) t ∧ t { nx := fun _ H' => Q .non H', rt := Q } (start N vs) H) : C8.Met P w K mg base (k + 1) C m sp [] := by
  obtain ⟨f, oc, od, an, osl, kV, doc, pm, cdv, ct, a, i, l, cc, kp⟩ := D
  have F := fun_mk (st := st) l cc kp
  exact ⟨f, _, ps, [], c, ⟨a, i, kp⟩, F.ok S len (fun cdv A outer s H vs Q E hr h => hbody f cdv A outer s H vs Q E hr h), F.binds b, .nil⟩
theorem mak_of {C : Addr} {x qual : Str} {st : Stmt} {N ps : List Str} {k : Nat} {sp : Sp} (mk : PySem.W.makesIn K C = true) (kc : PySem.W.keepIn K (.ref C) = true) (hm : mg x = some (.ref C)) (D : MethAt K C "__init__" qual st) (S : FnScope N ps (defScope st)) (b : BindM "__init__" qual st ps) (len : ∀ vs H Q E, sp vs H Q E → vs.length = ps.length)
    (hbody : ∀ (f : Addr) (cdv : Value) (A : Around) (outer : List Env) (s : Shared) (H : Hp) (vs : List V) (Q : VK) (E : XK), Room k (A.deeper (envOfC qual (defScope st) s.heap.objs.size f cdv)) → sp vs H Q E →
      ∃ t, PSs (cxOf CX0 P w K mg base N qual (defScope st) f cdv A outer s H E).nox (defBody st) t ∧ t { nx := fun _ H' => Q .non H', rt := Q } (start N vs) H) : C8.Mak P w K mg base (k + 1) x C sp [] := by
  obtain ⟨f, oc, od, an, osl, kV, doc, pm, cdv, ct, a, i, l, cc, kp⟩ := D
  have F := fun_mk (st := st) l cc kp
  exact ⟨f, _, ps, [], ⟨mk, a, i, kc⟩, F.ok S len (fun cdv A outer s H vs Q E hr h => hbody f cdv A outer s H vs Q E hr h), hm, F.binds b, .nil⟩
end
/-- all but two objects stay -/
def Fr (H H' : Hp) (a b : Addr) : Prop := ∀ q o, H q = some o → q ≠ a → q ≠ b → H' q = some o
end Nl

set_option Elab.async false
set_option linter.all false
set_option maxRecDepth 100000
set_option maxHeartbeats 4000000
namespace Nl
open PySem PySem.Spec PyProof.Rows L2 L2H
structure ExcT (K : PySem.W.Frag) (mg : Str → Option Value) (x : Str) (C : Addr) : Prop where
  g : mg x = some (.ref C)
  x : PySem.W.excIn K C [.type "ValueError", .type "Exception", .type "BaseException", .type "object"] "ValueError.__new__" = true
  k : PySem.W.keepIn K (.ref C) = true
  b : PySem.W.subIn K (.ref C) (.type "BaseException") = some true
  t : PySem.W.typeIn K (.ref C) = some (.type "type")
theorem glob_mk {K : PySem.W.Frag} {x : Str} {v : V} {u : Value} (h : PySem.W.nsIn K mainGlobals x = some (some u)) (r : RelV v u) : ∃ u, PySem.W.nsIn K mainGlobals x = some (some u) ∧ RelV v u := ⟨u, h, r⟩
section
variable {P : Program} {w : World} {K : PySem.W.Frag} {mg : Str → Option Value} {base : Heap}
theorem Cal.imp {CX : CXT} {k : Nat} {x : Str} {sp sp2 : Sp} (c : Cal P w K mg base CX k x sp) (h : ∀ vs H Q E, sp2 vs H Q E → sp vs H Q E) : Cal P w K mg base CX k x sp2 := by
  obtain ⟨f, fd, ps, F, r⟩ := c.ex
  exact ⟨f, fd, ps, F.imp h, r⟩
end
/-- the type of a thing that is no object of the program's own -/
def spWhole (K : PySem.W.Frag) : Sp := fun vs H Q _ => ∃ (v : V) (n : String), vs = [v] ∧ TyX K H v (.type n) ∧ kitB n "int" = some (decide (n = "int" ∨ n = "bool")) ∧ kitB n "bool" = some (decide (n = "bool")) ∧ Q (.bl (decide (n = "int"))) H
/-- a whole number from lo to hi, any thing at all -/
def wholeV (v : V) (lo hi : Int) : Bool := match v with
  | .int i => decide (lo ≤ i) && decide (i ≤ hi)
  | _ => false
/-- what is asked of a thing of any type that is no object of the program's own -/
def AnyT (K : PySem.W.Frag) (H : Hp) (v : V) : Prop := ∃ n : String, TyX K H v (.type n) ∧ kitB n "int" = some (decide (n = "int" ∨ n = "bool")) ∧ kitB n "bool" = some (decide (n = "bool")) ∧ (n = "int" → ∃ i, v = .int i) ∧ ∀ i, v = .int i → n = "int"
def spIsWholeV (K : PySem.W.Frag) : Sp := fun vs H Q _ => ∃ (v : V) (lo hi : Int), vs = [v, .int lo, .int hi] ∧ AnyT K H v ∧ Q (.bl (wholeV v lo hi)) H
def spIsWhole (K : PySem.W.Frag) : Sp := fun vs H Q _ => ∃ (v : V) (d : PyData) (lo hi : Int), vs = [v, .int lo, .int hi] ∧ Dp K H v d ∧ Q (.bl (wholeIn d lo hi)) H
theorem any_dp {K : PySem.W.Frag} {H : Hp} {v : V} {d : PyData} (h : Dp K H v d) : AnyT K H v := by
  refine ⟨tyN d, dp_ty h, kit_int d, kit_bool d, fun e => ?_, fun i e => ?_⟩
  · cases h with
    | int i => exact ⟨i, rfl⟩
    | _ => simp [tyN] at e
  · subst e
    cases h
    rfl
theorem any_int {K : PySem.W.Frag} {H : Hp} (i : Int) : AnyT K H (.int i) := any_dp (.int i)
theorem whole_dp {K : PySem.W.Frag} {H : Hp} {v : V} {d : PyData} (h : Dp K H v d) (lo hi : Int) : wholeV v lo hi = wholeIn d lo hi := by
  cases h <;> rfl
/-- readings by their names, for a comprehension -/
def rLen (K : PySem.W.Frag) : List V → Hp → VK → Prop := fun xs H Q => ∃ p ys, xs = [V.ref p] ∧ (SqL K H p ys ∨ SqT K H p ys) ∧ Q (V.int ys.length) H
def rListOf (K : PySem.W.Frag) : List V → Hp → VK → Prop := fun xs H Q => ∃ p ys, xs = [.ref p] ∧ (SqL K H p ys ∨ SqT K H p ys) ∧ ∀ l, H l = none → Q (.ref l) (upd H l (.lst ys))
/-! ### data that may be laid -/
theorem canAll {ds : List PyData} (h : ∀ d ∈ ds, PyData.canLay0 d = true) : PyData.canLayAll0 ds = true := by
  induction ds with
  | nil => rfl
  | cons d ds ih =>
    show (PyData.canLay0 d && PyData.canLayAll0 ds) = true
    rw [h d List.mem_cons_self, ih fun e he => h e (List.mem_cons_of_mem _ he)]
    rfl
theorem depAll {n : Nat} {ds : List PyData} (h : ∀ d ∈ ds, PyData.depth d ≤ n) : PyData.depthAll ds ≤ n := by
  induction ds with
  | nil => exact Nat.zero_le _
  | cons d ds ih =>
    rw [PyData.depthAll]
    exact Nat.max_le.mpr ⟨h d List.mem_cons_self, ih fun e he => h e (List.mem_cons_of_mem _ he)⟩
/-- texts that may be laid, not deeper than n -/
def okD (n : Nat) (d : PyData) : Prop := PyData.canLay0 d = true ∧ PyData.depth d ≤ n
theorem okD.mono {n m : Nat} {d : PyData} (h : okD n d) (e : n ≤ m) : okD m d := ⟨h.1, Nat.le_trans h.2 e⟩
theorem okD.tup {n : Nat} {ds : List PyData} (h : ∀ d ∈ ds, okD n d) : okD (n + 1) (.tuple ds) :=
  ⟨canAll fun d hd => (h d hd).1, by rw [PyData.depth]; exact Nat.succ_le_succ (depAll fun d hd => (h d hd).2)⟩
theorem okD.lst {n : Nat} {ds : List PyData} (h : ∀ d ∈ ds, okD n d) : okD (n + 1) (.list ds) :=
  ⟨canAll fun d hd => (h d hd).1, by rw [PyData.depth]; exact Nat.succ_le_succ (depAll fun d hd => (h d hd).2)⟩
theorem okD.shaped {n : Nat} {d : PyData} (h : okD n d) (e : n ≤ 64) : SeqAt.shaped d = true := by
  unfold SeqAt.shaped
  rw [h.1, decide_eq_true (Nat.le_trans h.2 e)]
  rfl
theorem okD.int (n : Nat) (i : Int) : okD n (.int i) := ⟨rfl, Nat.zero_le _⟩
theorem okD.bl (n : Nat) (i : Bool) : okD n (.bool i) := ⟨rfl, Nat.zero_le _⟩
theorem okD.non (n : Nat) : okD n .none := ⟨rfl, Nat.zero_le _⟩
theorem okD.str (n : Nat) {z : Str} (h : PyData.strOk z = true) : okD n (.str z) := ⟨h, Nat.zero_le _⟩
theorem okD.ints {n : Nat} (ns : List Int) : ∀ d ∈ (ns.map V.int).map dOf, okD n d := fun d hd => by
  rw [List.map_map] at hd
  obtain ⟨i, _, rfl⟩ := List.mem_map.mp hd
  exact .int _ _
theorem dpA_int {K : PySem.W.Frag} {H : Hp} (ns : List Int) : DpAll K H (ns.map V.int) ((ns.map V.int).map dOf) := dpAll_flat2 (by rw [List.all_map]; exact List.all_eq_true.mpr fun _ _ => rfl)
theorem bs_ok (ns : List Int) : SeqAt.shaped (.list ((ns.map V.int).map dOf)) = true := (okD.lst (okD.ints (n := 0) ns)).shaped (by decide)
/-- of each place one thing: a list of them -/
theorem choose_list {α : Type} (P : Nat → α → Prop) : ∀ n : Nat, (∀ j, j < n → ∃ x, P j x) → ∃ l : List α, l.length = n ∧ ∀ j x, l[j]? = some x → P j x
  | 0, _ => ⟨[], rfl, fun j x e => by simp at e⟩
  | n + 1, h => by
    obtain ⟨l, hl, hp⟩ := choose_list P n fun j hj => h j (Nat.lt_succ_of_lt hj)
    obtain ⟨y, hy⟩ := h n (Nat.lt_succ_self n)
    refine ⟨l ++ [y], by rw [List.length_append, hl]; rfl, fun j x e => ?_⟩
    by_cases hj : j < l.length
    · rw [List.getElem?_append_left hj] at e
      exact hp j x e
    · rw [List.getElem?_append_right (by omega)] at e
      have h0 : j - l.length = 0 := by
        have := (List.getElem?_eq_some_iff.mp e).1
        simp only [List.length_singleton] at this
        omega
      rw [h0] at e
      cases e
      rw [show j = n by omega]
      exact hy
/-- [a new tuple for x in a list]; of each tuple R is known -/
theorem lc_le {K : PySem.W.Frag} {g : TG} {tt : TT} {te : TE} {vs : List Nat} {σ : L2.St} {H1 : Hp} {D a : Addr} {Qd : Hp → Prop} {xs : List V} (R : Nat → List V → Prop) (hD : H1 D = none) (hq : SqL K H1 a xs) (hz : xs.length < sizeLine)
    (hs : ∀ i x H, xs[i]? = some x → Same H1 H → ∀ (k1 : VK) (k0 : Hp → Prop), (∀ p fx H', R i fx → H' p = some (.tup fx) → Same H H' → k1 (.ref p) H') →
      g x (wipe σ vs) H fun σ2 H2 => wipe σ2 vs = wipe σ vs ∧ tt σ2 H2 fun b H3 => if b = true then te σ2 H3 k1 else k0 H3)
    (hd : ∀ H acc, Same H1 H → H D = some (.lst acc) → acc.length = xs.length → (∀ j, j < xs.length → ∃ p fx, acc[j]? = some (.ref p) ∧ H p = some (.tup fx) ∧ R j fx) → Qd H) : LcW (Itl K a) g tt te vs σ H1 D Qd := by
  refine ⟨fun i m H => m = xs.length - i ∧ i ≤ xs.length ∧ Same H1 H ∧ ∃ acc, H D = some (.lst acc) ∧ acc.length = i ∧ ∀ j, j < i → ∃ p fx, acc[j]? = some (.ref p) ∧ H p = some (.tup fx) ∧ R j fx, ⟨xs.length, by simp, Nat.zero_le _, Same.new hD, [], upd_same, rfl, fun j h => absurd h (Nat.not_lt_zero _)⟩, ?_⟩
  rintro i m H ⟨rfl, hi, s1, acc, h1, hl, ha⟩
  by_cases hlt : i < xs.length
  · refine .inr ⟨⟨xs, xs[i], s1.seq hq, by simp [hlt]⟩, fun H' => Same H1 H' ∧ ∃ acc, H' D = some (.lst acc) ∧ acc.length = i + 1 ∧ ∀ j, j < i + 1 → ∃ p fx, acc[j]? = some (.ref p) ∧ H' p = some (.tup fx) ∧ R j fx, fun H' p' => ⟨xs.length - (i + 1), by omega, rfl, hlt, p'⟩, fun x H' y => ?_⟩
    obtain ⟨e, y⟩ := y
    subst e
    refine hs i x _ (y xs (s1.seq hq)) s1 _ _ (fun p fx H'' hR hp s3 => ?_)
    refine ⟨acc, s3 _ _ h1, by omega, (s1.trans s3).mut hD, acc ++ [.ref p], upd_same, by rw [List.length_append, hl]; rfl, fun j hj => ?_⟩
    have hne : ∀ q u, H'' q = some (.tup u) → q ≠ D := fun q u e z => by
      rw [z, s3 _ _ h1] at e
      cases e
    by_cases h : j < i
    · obtain ⟨q, fy, e1, e2, e4⟩ := ha j h
      have e3 := s3 _ _ e2
      exact ⟨q, fy, by rw [List.getElem?_append_left (by omega)]; exact e1, by rw [upd_ne (hne q _ e3)]; exact e3, e4⟩
    · have : j = i := by omega
      subst this
      exact ⟨p, fx, by rw [List.getElem?_append_right (by omega), hl, Nat.sub_self]; rfl, by rw [upd_ne (hne p _ hp)]; exact hp, hR⟩
  · have e : i = xs.length := by omega
    subst e
    exact .inl ⟨⟨xs, s1.seq hq, Nat.le_refl _⟩, hd H acc s1 h1 hl ha⟩
/-- a slice of a list of whole numbers -/
theorem cutV_int (ns : List Int) (lo hi : Option Int) : ∃ cs : List Int, cutV (ns.map V.int) lo hi = cs.map V.int ∧ cs.length ≤ ns.length := by
  unfold cutV
  rw [← List.map_drop, ← List.map_take]
  refine ⟨_, rfl, ?_⟩
  rw [List.length_take, List.length_drop]
  omega
end Nl

set_option linter.all false
namespace Nl
/-! ### lines by their last touch, the longest ago first -/
def ordS (o : List Int) (x : Int) : List Int := o.filter (fun y => y != x) ++ [x]
def ordL (ls : List Int) : List Int := ls.foldl ordS []
theorem ordL_snoc (ls : List Int) (x : Int) : ordL (ls ++ [x]) = ordS (ordL ls) x := by
  unfold ordL
  rw [List.foldl_append]
  rfl
theorem flt_id {o : List Int} {x : Int} (h : x ∉ o) : o.filter (fun y => y != x) = o := List.filter_eq_self.mpr fun a ha => by
  have : a ≠ x := fun e => h (e ▸ ha)
  simpa using this
theorem mem_ordS {o : List Int} {x y : Int} : y ∈ ordS o x ↔ y ∈ o ∨ y = x := by
  unfold ordS
  rw [List.mem_append, List.mem_filter, List.mem_singleton]
  by_cases h : y = x <;> simp [h]
theorem mem_ordF {y : Int} : ∀ {ls o : List Int}, y ∈ ls.foldl ordS o ↔ y ∈ o ∨ y ∈ ls
  | [], o => by simp
  | x :: ls, o => by
    rw [List.foldl_cons, mem_ordF, mem_ordS, List.mem_cons]
    exact or_assoc
theorem mem_ordL {y : Int} {ls : List Int} : y ∈ ordL ls ↔ y ∈ ls := by
  unfold ordL
  rw [mem_ordF]
  simp
theorem nd_ordS {o : List Int} {x : Int} (h : o.Nodup) : (ordS o x).Nodup := by
  unfold ordS
  rw [List.nodup_append]
  refine ⟨h.filter _, by simp, fun a ha b hb => ?_⟩
  rw [List.mem_singleton] at hb
  rw [hb]
  have := (List.mem_filter.mp ha).2
  simpa using this
theorem nd_ordF : ∀ {ls o : List Int}, o.Nodup → (ls.foldl ordS o).Nodup
  | [], o, h => h
  | x :: ls, o, h => nd_ordF (ls := ls) (nd_ordS h)
theorem nd_ordL (ls : List Int) : (ordL ls).Nodup := nd_ordF List.nodup_nil
theorem ordF_front {y : Int} : ∀ {seg o : List Int}, y ∉ o → seg.foldl ordS (y :: o) = if y ∈ seg then seg.foldl ordS o else y :: seg.foldl ordS o
  | [], o, h => by simp
  | z :: seg, o, h => by
    rw [List.foldl_cons, List.foldl_cons]
    by_cases e : y = z
    · subst e
      have : ordS (y :: o) y = ordS o y := by
        unfold ordS
        rw [List.filter_cons]
        simp
      rw [this, if_pos List.mem_cons_self]
    · have h1 : ordS (y :: o) z = y :: ordS o z := by
        unfold ordS
        rw [List.filter_cons]
        simp [e]
      have h2 : y ∉ ordS o z := fun hm => (mem_ordS.mp hm).elim h e
      rw [h1, ordF_front h2]
      simp [List.mem_cons, e]
theorem ordL_cons {y : Int} {seg : List Int} : ordL (y :: seg) = if y ∈ seg then ordL seg else y :: ordL seg := by
  have := ordF_front (y := y) (seg := seg) (o := []) (by simp)
  unfold ordL
  rw [List.foldl_cons]
  show seg.foldl ordS (ordS [] y) = _
  rw [show ordS [] y = [y] by rfl]
  exact this
theorem ordF_mid {x : Int} : ∀ {seg A B : List Int}, x ∉ seg → x ∉ A → x ∉ B → ∃ A', x ∉ A' ∧ seg.foldl ordS (A ++ x :: B) = A' ++ x :: seg.foldl ordS B
  | [], A, B, h, ha, hb => ⟨A, ha, rfl⟩
  | z :: seg, A, B, h, ha, hb => by
    have hz : x ≠ z := fun e => h (e ▸ List.mem_cons_self)
    have e1 : ordS (A ++ x :: B) z = A.filter (fun y => y != z) ++ x :: ordS B z := by
      unfold ordS
      rw [List.filter_append, List.filter_cons]
      simp [hz]
    rw [List.foldl_cons, e1, List.foldl_cons]
    exact ordF_mid (fun hm => h (List.mem_cons_of_mem _ hm)) (fun hm => ha (List.mem_filter.mp hm).1) (fun hm => (mem_ordS.mp hm).elim hb hz)
/-- the depth of a touch of x behind lines of which o tells the order -/
def depO (o : List Int) (x : Int) : Option Nat := if x ∈ o then some (o.length - 1 - o.idxOf x) else none
theorem idx_mid {x : Int} : ∀ {A B : List Int}, x ∉ A → (A ++ x :: B).idxOf x = A.length
  | [], B, h => by simp
  | a :: A, B, h => by
    have : a ≠ x := fun e => h (e ▸ List.mem_cons_self)
    rw [List.cons_append, List.idxOf_cons, show (a == x) = false by simpa using this, List.length_cons, ← idx_mid (A := A) (B := B) fun hm => h (List.mem_cons_of_mem _ hm)]
    rfl
theorem dep_mid {x : Int} {A B : List Int} (h : x ∉ A) : depO (A ++ x :: B) x = some B.length := by
  unfold depO
  rw [if_pos (by simp), idx_mid h]
  congr 1
  simp only [List.length_append, List.length_cons]
  omega
/-- by the lines between a touch and the last one of its own line -/
theorem dep_seg {x : Int} {pre seg : List Int} (h : x ∉ seg) : depO (ordL (pre ++ x :: seg)) x = some (ordL seg).length := by
  unfold ordL
  rw [List.foldl_append, List.foldl_cons]
  obtain ⟨A', h1, h2⟩ := ordF_mid (x := x) (seg := seg) (A := (pre.foldl ordS []).filter (fun y => y != x)) (B := []) h (fun hm => by simpa using (List.mem_filter.mp hm).2) (by simp)
  rw [show ordS (pre.foldl ordS []) x = (pre.foldl ordS []).filter (fun y => y != x) ++ x :: [] from rfl, h2, dep_mid h1]
theorem dep_none {x : Int} {ls : List Int} (h : x ∉ ls) : depO (ordL ls) x = none := by
  unfold depO
  rw [if_neg fun hm => h (mem_ordL.mp hm)]
/-! ### room for R lines by the rule least -/
def lastN (R : Nat) (o : List Int) : List Int := o.drop (o.length - R)
def nearS (R : Nat) (near : List Int) (x : Int) : List Int := if x ∈ near then near.filter (fun y => y != x) ++ [x] else (if near.length = R then near.drop 1 else near) ++ [x]
theorem lastN_of {R : Nat} {A B : List Int} (h : B.length = R ∨ (A = [] ∧ B.length ≤ R)) : lastN R (A ++ B) = B := by
  unfold lastN
  rcases h with h | ⟨h, h2⟩
  · rw [List.length_append, show A.length + B.length - R = A.length by omega]
    simp
  · subst h
    rw [List.nil_append, show B.length - R = 0 by omega]
    rfl
theorem lastN_split (R : Nat) (o : List Int) : ∃ A, o = A ++ lastN R o ∧ ((lastN R o).length = R ∨ (A = [] ∧ (lastN R o).length ≤ R)) := by
  refine ⟨o.take (o.length - R), (List.take_append_drop _ _).symm, ?_⟩
  unfold lastN
  rw [List.length_drop]
  by_cases h : R ≤ o.length
  · exact .inl (by omega)
  · refine .inr ⟨?_, by omega⟩
    rw [show o.length - R = 0 by omega]
    rfl
theorem near_last {R : Nat} (hR : 1 ≤ R) {o : List Int} (ho : o.Nodup) (x : Int) : nearS R (lastN R o) x = lastN R (ordS o x) := by
  obtain ⟨A, e, hs⟩ := lastN_split R o
  generalize lastN R o = B at e hs
  subst e
  have hAB := List.nodup_append.mp ho
  by_cases hB : x ∈ B
  · have hA : x ∉ A := fun h => hAB.2.2 x h x hB rfl
    have e1 : ordS (A ++ B) x = A ++ (B.filter (fun y => y != x) ++ [x]) := by
      unfold ordS
      rw [List.filter_append, flt_id hA, List.append_assoc]
    have hl : (B.filter (fun y => y != x) ++ [x]).length = B.length := by
      have e2 : B.filter (fun y => y != x) = B.erase x := by rw [hAB.2.1.erase_eq_filter]
      rw [e2, List.length_append, List.length_erase_of_mem hB]
      have := List.length_pos_of_mem hB
      simp only [List.length_singleton]
      omega
    rw [e1, lastN_of (by rw [hl]; exact hs)]
    unfold nearS
    rw [if_pos hB]
  · unfold nearS
    rw [if_neg hB]
    have e1 : ordS (A ++ B) x = A.filter (fun y => y != x) ++ (B ++ [x]) := by
      unfold ordS
      rw [List.filter_append, flt_id hB, List.append_assoc]
    rw [e1]
    by_cases hf : B.length = R
    · rw [if_pos hf]
      cases B with
      | nil => simp only [List.length_nil] at hf; omega
      | cons b B =>
        rw [show A.filter (fun y => y != x) ++ (b :: B ++ [x]) = (A.filter (fun y => y != x) ++ [b]) ++ (B ++ [x]) by simp]
        rw [lastN_of (.inl (by rw [List.length_append]; exact hf))]
        rfl
    · rw [if_neg hf]
      rcases hs with hs | ⟨hA, hs⟩
      · exact absurd hs hf
      · subst hA
        rw [show List.filter (fun y => y != x) ([] : List Int) = [] from rfl]
        exact (lastN_of (.inr ⟨rfl, by rw [List.length_append, List.length_singleton]; omega⟩)).symm
theorem mem_last {R : Nat} {o : List Int} (ho : o.Nodup) (x : Int) : x ∈ lastN R o ↔ ∃ d, depO o x = some d ∧ d < R := by
  obtain ⟨A, e, hs⟩ := lastN_split R o
  generalize lastN R o = B at e hs
  subst e
  have hAB := List.nodup_append.mp ho
  constructor
  · intro hB
    have hA : x ∉ A := fun h => hAB.2.2 x h x hB rfl
    obtain ⟨B1, B2, rfl⟩ := List.append_of_mem hB
    have h1 : x ∉ B1 := fun h => by
      have := (List.nodup_append.mp hAB.2.1).2.2 x h x List.mem_cons_self
      exact this rfl
    rw [← List.append_assoc]
    refine ⟨B2.length, dep_mid fun h => (List.mem_append.mp h).elim hA h1, ?_⟩
    simp only [List.length_append, List.length_cons] at hs
    rcases hs with hs | ⟨_, hs⟩ <;> omega
  · rintro ⟨d, hd, hlt⟩
    by_cases hB : x ∈ B
    · exact hB
    · by_cases hA : x ∈ A
      · obtain ⟨A1, A2, rfl⟩ := List.append_of_mem hA
        have h1 : x ∉ A1 := fun h => by
          have := (List.nodup_append.mp hAB.1).2.2 x h x List.mem_cons_self
          exact this rfl
        rw [List.append_assoc, List.cons_append, dep_mid h1] at hd
        cases hd
        rw [List.length_append] at hlt
        rcases hs with hs | ⟨hs, _⟩
        · omega
        · simp at hs
      · unfold depO at hd
        rw [if_neg fun h => (List.mem_append.mp h).elim hA hB] at hd
        cases hd
theorem last_sub {R : Nat} {o : List Int} {x : Int} (h : x ∈ lastN R o) : x ∈ lastN (R + 1) o := by
  unfold lastN at h ⊢
  obtain ⟨k, hk, e⟩ := List.mem_iff_getElem.mp h
  have hl : k < o.length - (o.length - R) := by rw [List.length_drop] at hk; exact hk
  refine List.mem_iff_getElem.mpr ⟨k + (o.length - R - (o.length - (R + 1))), by rw [List.length_drop]; omega, ?_⟩
  rw [List.getElem_drop] at e ⊢
  rw [← e]
  congr 1
  omega
end Nl

set_option Elab.async false
set_option linter.all false
set_option maxRecDepth 100000
set_option maxHeartbeats 4000000
namespace Nl
open PySem PySem.Spec PyProof.Rows L2 L2H
/-! ### rows of touches -/
/-- us are the touches ts -/
def TsAt (H : Hp) (us : List V) (ts : List (Str × Int)) : Prop := us.length = ts.length ∧ ∀ (j : Nat) (t : Str × Int), ts[j]? = some t → ∃ q, us[j]? = some (V.ref q) ∧ H q = some (.tup [.str t.1, .int t.2])
theorem TsAt.same {H H' : Hp} {us : List V} {ts : List (Str × Int)} (h : TsAt H us ts) (s : Same H H') : TsAt H' us ts := ⟨h.1, fun j t e => by
  obtain ⟨q, e1, e2⟩ := h.2 j t e
  exact ⟨q, e1, s _ _ e2⟩⟩
/-- while the list at a changes -/
theorem TsAt.mut {H H' : Hp} {us : List V} {ts : List (Str × Int)} {a : Addr} {ux : List V} (h : TsAt H us ts) (ha : H a = some (.lst ux)) (f : ∀ q o, H q = some o → q ≠ a → H' q = some o) : TsAt H' us ts := ⟨h.1, fun j t e => by
  obtain ⟨q, e1, e2⟩ := h.2 j t e
  exact ⟨q, e1, f _ _ e2 fun z => by rw [z, ha] at e2; cases e2⟩⟩
theorem TsAt.snoc {H : Hp} {us : List V} {ts : List (Str × Int)} {t : Str × Int} {q : Addr} (h : TsAt H us ts) (hq : H q = some (.tup [.str t.1, .int t.2])) : TsAt H (us ++ [.ref q]) (ts ++ [t]) := by
  refine ⟨by rw [List.length_append, List.length_append, h.1]; rfl, fun j t' e => ?_⟩
  have hl := h.1
  by_cases hj : j < ts.length
  · rw [List.getElem?_append_left hj] at e
    obtain ⟨q', e1, e2⟩ := h.2 j t' e
    exact ⟨q', by rw [List.getElem?_append_left (by omega)]; exact e1, e2⟩
  · rw [List.getElem?_append_right (by omega)] at e
    have hj0 : j - ts.length = 0 := by
      have := (List.getElem?_eq_some_iff.mp e).1
      simp only [List.length_singleton] at this
      omega
    rw [hj0] at e
    cases e
    exact ⟨q, by rw [List.getElem?_append_right (by omega), show j - us.length = 0 by omega]; rfl, hq⟩
def RW (t : Str × Int) : Prop := t.1 = "read" ∨ t.1 = "write"
def tsD (t : Str × Int) : PyData := .tuple [.str t.1, .int t.2]
theorem ts_ok {t : Str × Int} (h : RW t) : okD 1 (tsD t) := .tup fun d hd => by
  rcases List.mem_cons.mp hd with rfl | hd
  · exact .str _ (by rcases h with h | h <;> rw [h] <;> decide +kernel)
  · cases List.mem_singleton.mp hd
    exact .int _ _
theorem tsl_ok {ts : List (Str × Int)} (h : ∀ t ∈ ts, RW t) : okD 2 (.list (ts.map tsD)) := .lst fun d hd => by
  obtain ⟨t, ht, rfl⟩ := List.mem_map.mp hd
  exact ts_ok (h t ht)
theorem TsAt.dp {K : PySem.W.Frag} {H : Hp} {us : List V} {ts : List (Str × Int)} (h : TsAt H us ts) : DpAll K H us (ts.map tsD) := by
  refine dpA_by (by rw [List.length_map]; exact h.1) fun j v e => ?_
  have hj : j < ts.length := by
    obtain ⟨hj, _⟩ := List.getElem?_eq_some_iff.mp e
    have := h.1
    omega
  obtain ⟨q, e1, e2⟩ := h.2 j _ (List.getElem?_eq_getElem hj)
  rw [e] at e1
  cases e1
  exact ⟨tsD ts[j], by rw [List.getElem?_map, List.getElem?_eq_getElem hj]; rfl, .tup (SqT.of e2) (.cons (.str _) (.cons (.int _) .nil))⟩
theorem eqV_int {a b : Int} : eqV (.int a) (.int b) = true ↔ a = b := by
  show (a == b) = true ↔ a = b
  exact beq_iff_eq
theorem inV_int (y : Int) (os : List Int) : inV (.int y) (os.map V.int) = decide (y ∈ os) := by
  rw [Bool.eq_iff_iff, decide_eq_true_eq]
  unfold inV
  rw [List.any_map, List.any_eq_true]
  constructor
  · rintro ⟨z, hz, e⟩
    have := eqV_int.mp e
    first
    | (subst this; exact hz)
    | (rw [← this]; exact hz)
  · exact fun h => ⟨y, h, eqV_int.mpr rfl⟩
/-- the lines of touches -/
def linesOf (w : Int) (ts : List (Str × Int)) : List Int := ts.map fun t => t.2 / w
/-- over a list: what is made of item i is known by its place -/
theorem lc_fi {K : PySem.W.Frag} {g : TG} {tt : TT} {te : TE} {vs : List Nat} {σ : L2.St} {H1 : Hp} {D a : Addr} {Qd : Hp → Prop} {xs : List V} (fs : Nat → Option V) (hD : H1 D = none) (hq : SqL K H1 a xs) (hz : xs.length < sizeLine) (hs : ∀ (i : Nat) x H, xs[i]? = some x → Same H1 H → LcTurn g tt te vs σ x H (fs i))
    (hd : ∀ H, Same H1 H → H D = some (.lst ((List.range xs.length).filterMap fs)) → Qd H) : LcW (Itl K a) g tt te vs σ H1 D Qd :=
  lc_gen xs.length (fun i x _ => xs[i]? = some x) fs hD hz
    (fun i H hi s => ⟨xs, xs[i], s.seq hq, by simp [hi]⟩) (fun H s => ⟨xs, s.seq hq, Nat.le_refl _⟩) (fun i H x H' hi s y => by
      obtain ⟨e, y⟩ := y
      subst e
      exact ⟨Same.refl _, y xs (s.seq hq)⟩)
    (fun i x H hi s r k1 k0 h1 h0 => hs i x H r s k1 k0 h1 h0) hd
/-- what range_fm gives of whole numbers -/
theorem range_ints (ls : List Int) (n : Nat) (hn : n = ls.length) : (List.range n).filterMap (fun i => (ls[i]?).bind fun x => some (V.int x)) = ls.map V.int := by
  rw [hn, range_fm, fm_some]
/-- a whole number or None -/
def ovV : Option Nat → V
  | none => .non
  | some d => .int (d : Nat)
theorem flat_ov (o : Option Nat) : flatV (ovV o) = true := by cases o <;> rfl
def depsL (ls : List Int) : List (Option Nat) := (List.range ls.length).map fun k => depO (ordL (ls.take k)) (ls.getD k 0)
theorem depO_le {o : List Int} {x : Int} {d : Nat} (h : depO o x = some d) : d ≤ o.length := by
  unfold depO at h
  split at h
  · cases h
    omega
  · cases h
theorem ordL_len (ls : List Int) : (ordL ls).length ≤ ls.length := by
  have h : ∀ (ls o : List Int), (ls.foldl ordS o).length ≤ o.length + ls.length := by
    intro ls
    induction ls with
    | nil => intro o; simp
    | cons x ls ih =>
      intro o
      have h1 := ih (ordS o x)
      have h2 : (ordS o x).length ≤ o.length + 1 := by
        unfold ordS
        rw [List.length_append]
        have := List.length_filter_le (fun y => y != x) o
        simp only [List.length_singleton]
        omega
      rw [List.foldl_cons, List.length_cons]
      omega
  have := h ls []
  simpa [ordL] using this
end Nl

set_option Elab.async false
set_option linter.all false
set_option maxRecDepth 100000
set_option maxHeartbeats 4000000
namespace Nl
open PySem PySem.Spec PyProof.Rows L2 L2H
/-! ### dicts whose keys are whole numbers -/
section
variable {α : Type}
/-- the dict of the pairs ps, in their order -/
def dk (g : α → V) (ps : List (Int × α)) : List (Key × V) := ps.map fun p => (.inl p.1, g p.2)
def lkP (ps : List (Int × α)) (l : Int) : Option α := (ps.find? fun p => decide (p.1 = l)).map (·.2)
def putP (ps : List (Int × α)) (l : Int) (v : α) : List (Int × α) := if l ∈ ps.map (·.1) then ps.map (fun p => if p.1 = l then (p.1, v) else p) else ps ++ [(l, v)]
def dropP (ps : List (Int × α)) (l : Int) : List (Int × α) := ps.filter fun p => p.1 != l
theorem dk_len (g : α → V) (ps : List (Int × α)) : (dk g ps).length = ps.length := by
  unfold dk
  rw [List.length_map]
theorem dk_val (g : α → V) (l : Int) : ∀ ps : List (Int × α), valV (dk g ps) (.inl l) = (lkP ps l).map g
  | [] => rfl
  | p :: ps => by
    have h := dk_val g l ps
    by_cases e : p.1 = l
    · rw [show dk g (p :: ps) = (.inl p.1, g p.2) :: dk g ps from rfl, valV_pos (by rw [e])]
      unfold lkP
      rw [List.find?_cons_of_pos (by simpa using e)]
      rfl
    · rw [show dk g (p :: ps) = (.inl p.1, g p.2) :: dk g ps from rfl, valV_neg (fun z => e (Sum.inl.inj z)), h]
      unfold lkP
      rw [List.find?_cons_of_neg (by simpa using e)]
theorem dk_drop (g : α → V) (l : Int) : ∀ ps : List (Int × α), dropK (dk g ps) (.inl l) = dk g (dropP ps l)
  | [] => rfl
  | p :: ps => by
    have h := dk_drop g l ps
    unfold dropK dropP at h ⊢
    rw [show dk g (p :: ps) = (.inl p.1, g p.2) :: dk g ps from rfl, List.filter_cons, List.filter_cons, h]
    by_cases e : p.1 = l
    · rw [if_neg (by simp [e]), if_neg (by simp [e])]
    · rw [if_pos (by simpa using e), if_pos (by simpa using e)]
      rfl
theorem dk_any (g : α → V) (l : Int) (ps : List (Int × α)) : ((dk g ps).any fun kv => decide (kv.1 = Sum.inl l)) = decide (l ∈ ps.map (·.1)) := by
  rw [Bool.eq_iff_iff, decide_eq_true_eq, List.any_eq_true]
  unfold dk
  constructor
  · rintro ⟨kv, hm, e⟩
    obtain ⟨p, hp, rfl⟩ := List.mem_map.mp hm
    exact List.mem_map.mpr ⟨p, hp, Sum.inl.inj (of_decide_eq_true e)⟩
  · intro h
    obtain ⟨p, hp, rfl⟩ := List.mem_map.mp h
    exact ⟨_, List.mem_map.mpr ⟨p, hp, rfl⟩, decide_eq_true rfl⟩
theorem dk_put (g : α → V) (l : Int) (v : α) (ps : List (Int × α)) : putK (dk g ps) (.inl l) (g v) = dk g (putP ps l v) := by
  unfold putK putP
  rw [dk_any]
  by_cases h : l ∈ ps.map (·.1)
  · rw [if_pos (decide_eq_true h), if_pos h]
    unfold dk
    rw [List.map_map, List.map_map]
    refine List.map_congr_left fun p _ => ?_
    show (if Sum.inl p.1 = Sum.inl l then (Sum.inl p.1, g v) else (Sum.inl p.1, g p.2)) = _
    by_cases e : p.1 = l
    · rw [if_pos (by rw [e])]
      simp [e]
    · rw [if_neg (fun z => e (Sum.inl.inj z))]
      simp [e]
  · rw [if_neg (fun z => h (of_decide_eq_true z)), if_neg h]
    unfold dk
    rw [List.map_append]
    rfl
theorem lk_some {ps : List (Int × α)} {l : Int} : (lkP ps l).isSome = decide (l ∈ ps.map (·.1)) := by
  unfold lkP
  rw [Option.isSome_map, Bool.eq_iff_iff, decide_eq_true_eq, List.find?_isSome]
  constructor
  · rintro ⟨p, hp, e⟩
    exact List.mem_map.mpr ⟨p, hp, of_decide_eq_true e⟩
  · intro h
    obtain ⟨p, hp, rfl⟩ := List.mem_map.mp h
    exact ⟨p, hp, decide_eq_true rfl⟩
theorem lk_none {ps : List (Int × α)} {l : Int} (h : l ∉ ps.map (·.1)) : lkP ps l = none := by
  have := lk_some (ps := ps) (l := l)
  rw [decide_eq_false h] at this
  exact Option.isNone_iff_eq_none.mp (by simpa using this)
theorem lk_mem {ps : List (Int × α)} {l : Int} {v : α} (h : lkP ps l = some v) : (l, v) ∈ ps := by
  unfold lkP at h
  obtain ⟨p, hp, rfl⟩ := Option.map_eq_some_iff.mp h
  have h1 := List.mem_of_find?_eq_some hp
  have h2 := List.find?_some hp
  rw [← of_decide_eq_true h2]
  exact h1
theorem drop_keys (ps : List (Int × α)) (l : Int) : (dropP ps l).map (·.1) = (ps.map (·.1)).filter (fun y => y != l) := by
  unfold dropP
  rw [List.filter_map]
  rfl
theorem put_new {ps : List (Int × α)} {l : Int} {v : α} (h : l ∉ ps.map (·.1)) : putP ps l v = ps ++ [(l, v)] := if_neg h
theorem put_keys (ps : List (Int × α)) (l : Int) (v : α) : (putP ps l v).map (·.1) = if l ∈ ps.map (·.1) then ps.map (·.1) else ps.map (·.1) ++ [l] := by
  unfold putP
  split
  · rw [List.map_map]
    refine List.map_congr_left fun p _ => ?_
    show (if p.1 = l then (p.1, v) else p).1 = p.1
    split <;> rfl
  · rw [List.map_append]
    rfl
end
/-- the dict that tells of lines that they are there -/
def tkP (near : List Int) : List (Int × Unit) := near.map fun l => (l, ())
def gT : Unit → V := fun _ => .bl true
theorem tk_keys (near : List Int) : (tkP near).map (·.1) = near := by
  unfold tkP
  rw [List.map_map]
  exact List.map_id' near
theorem tk_len (near : List Int) : (tkP near).length = near.length := by
  unfold tkP
  rw [List.length_map]
theorem tk_drop (near : List Int) (l : Int) : dropP (tkP near) l = tkP (near.filter fun y => y != l) := by
  unfold dropP tkP
  rw [List.filter_map]
  rfl
theorem tk_put {near : List Int} {l : Int} : putP (tkP near) l () = tkP (if l ∈ near then near else near ++ [l]) := by
  unfold putP
  rw [tk_keys]
  split
  · unfold tkP
    rw [List.map_map]
    refine List.map_congr_left fun p _ => ?_
    show (if p = l then (p, ()) else (p, ())) = (p, ())
    split <;> rfl
  · unfold tkP
    rw [List.map_append]
    rfl
theorem at_mapmod {α : Type} (f : α → V) (d : α) {ns : List α} (c : Int) {n : Int} (h : 0 < n) (e : (ns.length : Int) = n) : atI (ns.map f) (c % n) = some (f (ns.getD (c % n).toNat d)) := by
  have h0 := mod_nn c h
  have h1 := mod_lt c h
  refine at_in h0 ?_
  have : (c % n).toNat < ns.length := by omega
  rw [List.getElem?_map, List.getD_eq_getElem?_getD, List.getElem?_eq_getElem this]
  rfl
theorem at_map {α : Type} (f : α → V) {ns : List α} {k : Nat} {x : α} (e : ns[k]? = some x) : atI (ns.map f) (k : Nat) = some (f x) := at_in (by omega) (by rw [show ((k : Nat) : Int).toNat = k by omega, List.getElem?_map, e]; rfl)
theorem at_map0 {α : Type} (f : α → V) {ns : List α} {k : Nat} {x : α} (e : ns[k]? = some x) : atI (ns.map f) (0 + (k : Int)) = some (f x) := by
  rw [Int.zero_add]
  exact at_map f e
/-- all but L -/
def neF (L : Int) : V → Option V := fun v => if v = V.int L then none else some v
theorem neV (L : Int) : ∀ ks : List Int, (ks.map V.int).filterMap (neF L) = (ks.filter (fun y => y != L)).map V.int
  | [] => rfl
  | x :: ks => by
    have h := neV L ks
    rw [List.map_cons]
    by_cases e : x = L
    · rw [List.filterMap_cons_none (f := neF L) (if_pos (congrArg V.int e)), h, List.filter_cons_of_neg (by simp [e])]
    · rw [List.filterMap_cons_some (f := neF L) (b := V.int x) (if_neg (fun z => e (V.int.inj z))), h, List.filter_cons_of_pos (by simpa using e)]
      rfl
/-- a whole number or None -/
def oiV : Option Int → V
  | none => .non
  | some i => .int i
def oiD : Option Int → PyData
  | none => .none
  | some i => .int i
theorem oi_dp {K : PySem.W.Frag} {H : Hp} (o : Option Int) : Dp K H (oiV o) (oiD o) := by
  cases o with
  | none => exact .non
  | some i => exact .int i
theorem oi_ok (o : Option Int) (n : Nat) : okD n (oiD o) := by
  cases o with
  | none => exact .non n
  | some i => exact .int n i
theorem flat_oi (o : Option Int) : flatV (oiV o) = true := by cases o <;> rfl
theorem ois_dp {K : PySem.W.Frag} {H : Hp} : ∀ os : List (Option Int), DpAll K H (os.map oiV) (os.map oiD)
  | [] => .nil
  | o :: os => .cons (oi_dp o) (ois_dp os)
theorem ois_ok (os : List (Option Int)) : okD 1 (.list (os.map oiD)) := .lst fun d hd => by
  obtain ⟨o, _, rfl⟩ := List.mem_map.mp hd
  exact oi_ok o 0
end Nl

set_option Elab.async false
set_option linter.all false
set_option maxRecDepth 100000
set_option maxHeartbeats 4000000
namespace Nl
open PySem PySem.Spec PyProof.Rows L2 L2H
/-! ### methods that may raise -/
structure MetX (P : Program) (w : World) (K : PySem.W.Frag) (mg : Str → Option Value) (base : Heap) (k : Nat) (C : Addr) (m : Str) (sp : Sp) : Prop where
  ex : ∃ (f : Addr) (fd : FuncData) (ps : List Str), Cls K C ∧ Meth K C m f ∧ FnOk P w K mg base (L2.CX P w) k f fd ps sp ∧ Binds K fd ps []
section
variable {P : Program} {w : World} {K : PySem.W.Frag} {mg : Str → Option Value} {base : Heap}
theorem metX_of {C : Addr} {m qual : Str} {st : Stmt} {N ps : List Str} {k : Nat} {sp : Sp} (c : Cls K C) (D : MethAt K C m qual st) (S : FnScope N ps (defScope st)) (b : BindM m qual st ps) (len : ∀ vs H Q E, sp vs H Q E → vs.length = ps.length)
    (hbody : ∀ (f : Addr) (cdv : Value) (A : Around) (outer : List Env) (s : Shared) (H : Hp) (vs : List V) (Q : VK) (E : XK), Room k (A.deeper (envOfC qual (defScope st) s.heap.objs.size f cdv)) → sp vs H Q E →
      ∃ t, PSs (cxOf (L2.CX P w) P w K mg base N qual (defScope st) f cdv A outer s H E) (defBody st) t ∧ t { nx := fun _ H' => Q .non H', rt := Q } (start N vs) H) : MetX P w K mg base (k + 1) C m sp := by
  obtain ⟨f, oc, od, an, osl, kV, doc, pm, cdv, ct, a, i, l, cc, kp⟩ := D
  have F := fun_mk (st := st) l cc kp
  exact ⟨f, _, ps, c, ⟨a, i, kp⟩, F.okX S len (fun cdv A outer s H vs Q E hr h => hbody f cdv A outer s H vs Q E hr h), F.binds b⟩
/-- a class whose __init__ may raise -/
structure MakX (P : Program) (w : World) (K : PySem.W.Frag) (mg : Str → Option Value) (base : Heap) (k : Nat) (x : Str) (C : Addr) (sp : Sp) : Prop where
  ex : ∃ (f : Addr) (fd : FuncData) (ps : List Str), Mk K C f ∧ FnOk P w K mg base (L2.CX P w) k f fd ps sp ∧ mg x = some (.ref C) ∧ Binds K fd ps []
theorem makX_of {C : Addr} {x qual : Str} {st : Stmt} {N ps : List Str} {k : Nat} {sp : Sp} (mk : PySem.W.makesIn K C = true) (kc : PySem.W.keepIn K (.ref C) = true) (hm : mg x = some (.ref C)) (D : MethAt K C "__init__" qual st) (S : FnScope N ps (defScope st)) (b : BindM "__init__" qual st ps) (len : ∀ vs H Q E, sp vs H Q E → vs.length = ps.length)
    (hbody : ∀ (f : Addr) (cdv : Value) (A : Around) (outer : List Env) (s : Shared) (H : Hp) (vs : List V) (Q : VK) (E : XK), Room k (A.deeper (envOfC qual (defScope st) s.heap.objs.size f cdv)) → sp vs H Q E →
      ∃ t, PSs (cxOf (L2.CX P w) P w K mg base N qual (defScope st) f cdv A outer s H E) (defBody st) t ∧ t { nx := fun _ H' => Q .non H', rt := Q } (start N vs) H) : MakX P w K mg base (k + 1) x C sp := by
  obtain ⟨f, oc, od, an, osl, kV, doc, pm, cdv, ct, a, i, l, cc, kp⟩ := D
  have F := fun_mk (st := st) l cc kp
  exact ⟨f, _, ps, ⟨mk, a, i, kc⟩, F.okX S len (fun cdv A outer s H vs Q E hr h => hbody f cdv A outer s H vs Q E hr h), hm, F.binds b⟩
end
section
variable {X : Cx} {k j : Nat} {C : Addr} {x m : Str} {sp : Sp} {p pos apos : Pos} {e o : Expr} {es : List Expr} {ta : TE} {t : TA}
/-- o.m(..), m may raise: what is raised is wished for by W -/
def tMethS (C : Addr) (m : Str) (sp : Sp) (E : L2.St → XK) (ta : TE) (t : TA) : TE := fun σ H Q => ta σ H fun x H1 => ∃ a dx fs, x = .ref a ∧ H1 a = some (.ins C dx fs) ∧ fs.lookup m = none ∧ t σ H1 fun vs H2 => sp (x :: vs) H2 Q (E σ)
theorem pe_mx {W : WX} {pl : Sem Bool} (c : MetX X.prog X.w X.K X.mg X.base k C m sp) (tk : Takes X W) (hr : Room j X.A) (hk : k ≤ j) (he : PE X o ta) (ha : PA X (e :: es) t)
    (hst : starEach (e :: es) X.env = (false, eval e X.env) :: starEach es X.env := by rfl) (hpl : (backTo pos (starEach es X.env)).any (·.1) = false := by rfl)
    (ht : eval (.Call (.Attribute o m apos) (e :: es) [] pos) X.env = (do
      let ov ← eval o X.env
      standAt apos.atName
      let (f, first) ← holding [ov] (getMethod ov m pl)
      callWith pos f first (backTo pos (starEach (e :: es) X.env)) (backToKw pos (keywordEach [] X.env))) := by rfl) :
    PE X (.Call (.Attribute o m apos) (e :: es) [] pos) (tMethS C m sp (WE W) ta t) := by
  obtain ⟨f, fd, ps, hc, hm, F, b⟩ := c.ex
  refine ⟨fun pins s σ H Q I h => ?_⟩
  refine PySem.W.methodCall_KW (pl := pl) (thn (he.run pins s σ H _ I h) fun u s1 ⟨x, H1, I1, rx, a, dx, fs, ex, ea, l, q⟩ => ?_) ht
  subst ex
  obtain rfl : u = Value.ref a := rx
  refine getmeth_ok I1 ea hc hm l ?_
  refine PySem.W.callWith_K (first := [.ref a]) (h₀ := X.base) I.ok.mod.kin hm.kp (thn (ha.run pos pins s1 σ H1 _ I1 q) fun us s2 ⟨vs, H2, I2, r, q2⟩ => ⟨I2.kIn, ?_⟩) hst hpl
  exact run_fnS (us := .ref a :: us) (vs := .ref a :: vs) F (hr.mono hk) b (passAt tk σ) I2 (.cons rfl r) q2
/-- .. where it does not raise -/
theorem pe_mxq {pl : Sem Bool} (c : MetX X.prog X.w X.K X.mg X.base k C m sp) (hr : Room j X.A) (hk : k ≤ j) (he : PE X o ta) (ha : PA X (e :: es) t)
    (hst : starEach (e :: es) X.env = (false, eval e X.env) :: starEach es X.env := by rfl) (hpl : (backTo pos (starEach es X.env)).any (·.1) = false := by rfl)
    (ht : eval (.Call (.Attribute o m apos) (e :: es) [] pos) X.env = (do
      let ov ← eval o X.env
      standAt apos.atName
      let (f, first) ← holding [ov] (getMethod ov m pl)
      callWith pos f first (backTo pos (starEach (e :: es) X.env)) (backToKw pos (keywordEach [] X.env))) := by rfl) :
    PE X (.Call (.Attribute o m apos) (e :: es) [] pos) (tMeth C m sp [] E0 ta t) := by
  obtain ⟨f, fd, ps, hc, hm, F, b⟩ := c.ex
  exact pe_meth (pl := pl) he hc hm F (hr.mono hk) b .nil passL ha hst hpl ht
theorem pe_mkq (c : MakX X.prog X.w X.K X.mg X.base k x C sp) (hr : Room j X.A) (hk : k + 1 ≤ j) (hg : Gl X x) (ha : PA X (e :: es) t)
    (hdb : (x == ("__debug__" : Str)) = false := by decide) (he : starEach (e :: es) X.env = (false, eval e X.env) :: starEach es X.env := by rfl) (hpl : (backTo pos (starEach es X.env)).any (·.1) = false := by rfl) :
    PE X (.Call (.Name x p) (e :: es) [] pos) (tMake C sp [] E0 t) := by
  obtain ⟨f, fd, ps, M, F, hm, b⟩ := c.ex
  exact pe_make M F (hr.mono hk) hg hm b .nil passL ha hdb he hpl
end
/-! ### xs[lo:hi] = ys -/
def sSlPut (tv to tl tu : TE) : TS := fun D σ H => tv σ H fun v H1 => to σ H1 fun x H2 => tl σ H2 fun lo H3 => tu σ H3 fun hi H4 => ∃ (l b : Addr) (xs ys : List V) (a c : Int), x = .ref l ∧ v = .ref b ∧ lo = .int a ∧ hi = .int c ∧
  H4 l = some (.lst xs) ∧ H4 b = some (.lst ys) ∧ l ≠ b ∧ 0 ≤ a ∧ a ≤ c ∧ c ≤ xs.length ∧ xs.length + ys.length ≤ sizeLine ∧ D.nx σ (upd H4 l (.lst (xs.take a.toNat ++ ys ++ xs.drop c.toNat)))
theorem ps_slput {X : Cx} {o lo hi value : Expr} {pos pos' p2 : Pos} {tv to tl tu : TE} (ho : PE X o to) (hl : PE X lo tl) (hu : PE X hi tu) (hv : PE X value tv) (hs : swapsWith value (some (.Subscript o (.Slice (some lo) (some hi) none p2) pos')) pos.line X.env = pure false) :
    PS X (.Assign [.Subscript o (.Slice (some lo) (some hi) none p2) pos'] value pos) (sSlPut tv to tl tu) := by
  refine ⟨fun pins s σ H D I h => ?_⟩
  refine wpAny_Assign_Subscript (thn (hv.run pins s σ H _ I h) fun r s1 ⟨v, H1, I1, rv, q1⟩ => thn (ho.run pins s1 σ H1 _ I1 q1) fun u s2 ⟨x, H2, I2, rx, q2⟩ => ?_) hs
  refine wpAny_Slice ?_
  rw [evalPart_some, evalPart_some, evalPart_none]
  refine thn (hl.run pins s2 σ H2 _ I2 q2) fun vl s3 ⟨l0, H3, I3, rl, q3⟩ => thn (hu.run pins s3 σ H3 _ I3 q3) fun vu s4 ⟨u0, H4, I4, ru, q4⟩ => ?_
  obtain ⟨l, b, xs, ys, a, c, ex, ev, el, eu, hL, hB, ne, h0, h1, h2, hz, q5⟩ := q4
  subst ex ev el eu
  cases rx
  cases rv
  refine wpAny_pure ?_
  have I5 : Inv X pins σ H4 { s4 with heap := s4.heap.push { cls := .type "slice", data := .fields #[vl, vu, .none] } } := I4.kept (t' := s4.toks) fun b ob q => Heap.get?_push_of_some _ q
  exact set_slice I5 hL hB ne (Heap.IsSliceOf.new ..) rl ru h0 h1 h2 hz fun s6 I6 => ⟨σ, _, I6, q5⟩
/-! ### lines near -/
/-- where a Near's own things lie -/
structure Na where
  p : Addr
  af : Addr
  dl : Addr
  dw : Addr
/-- a Near: lines by their number, each with its address and its numbers -/
structure Ns where
  far : List Int
  found : Nat
  missed : Nat
  back : Nat
  lines : List (Int × (Addr × List Int))
  written : List Int
structure Np where
  room : Nat
  wd : Nat
  rule : Str
def nfs (a : Na) (par : Np) (s : Ns) : List (Str × V) := [(("far" : Str), .ref a.af), (("found" : Str), .int (s.found : Nat)), (("missed" : Str), .int (s.missed : Nat)), (("back" : Str), .int (s.back : Nat)),
  (("_room" : Str), .int (par.room : Nat)), (("_width" : Str), .int (par.wd : Nat)), (("_rule" : Str), .str par.rule), (("_lines" : Str), .ref a.dl), (("_written" : Str), .ref a.dw)]
def lnV (x : Addr × List Int) : V := .ref x.1
def Ns.keys (s : Ns) : List Int := s.lines.map (·.1)
structure NearAt (C : Addr) (H : Hp) (a : Na) (par : Np) (s : Ns) : Prop where
  ins : ∃ dx, H a.p = some (.ins C dx (nfs a par s))
  far : H a.af = some (.lst (s.far.map V.int))
  dl : H a.dl = some (.dK (dk lnV s.lines))
  dw : H a.dw = some (.dK (dk gT (tkP s.written)))
  ne : a.dl ≠ a.dw
  lns : ∀ x ∈ s.lines, H x.2.1 = some (.lst (x.2.2.map V.int)) ∧ x.2.1 ≠ a.af
  nd : (s.lines.map (·.2.1)).Nodup
/-- what is a Near's own -/
def Own (a : Na) (s : Ns) (q : Addr) : Prop := q = a.p ∨ q = a.af ∨ q = a.dl ∨ q = a.dw ∨ ∃ x ∈ s.lines, x.2.1 = q
/-- all but a Near's own stays, and stays none of its own -/
def Step (H : Hp) (a : Na) (s : Ns) (H' : Hp) (s' : Ns) : Prop := ∀ q o, H q = some o → ¬ Own a s q → H' q = some o ∧ ¬ Own a s' q
theorem Step.trans {H H1 H2 : Hp} {a : Na} {s s1 s2 : Ns} (x : Step H a s H1 s1) (y : Step H1 a s1 H2 s2) : Step H a s H2 s2 := fun q o e n => by
  obtain ⟨e1, n1⟩ := x q o e n
  exact y q o e1 n1
theorem Step.of_same {H H' : Hp} {a : Na} {s : Ns} (h : Same H H') : Step H a s H' s := fun q o e n => ⟨h _ _ e, n⟩
theorem NearAt.some {C : Addr} {H : Hp} {a : Na} {par : Np} {s : Ns} (h : NearAt C H a par s) {q : Addr} (o : Own a s q) : ∃ u, H q = .some u := by
  rcases o with rfl | rfl | rfl | rfl | ⟨x, hx, rfl⟩
  · obtain ⟨dx, e⟩ := h.ins
    exact ⟨_, e⟩
  · exact ⟨_, h.far⟩
  · exact ⟨_, h.dl⟩
  · exact ⟨_, h.dw⟩
  · exact ⟨_, (h.lns x hx).1⟩
theorem NearAt.keep {C : Addr} {H H' : Hp} {a : Na} {par : Np} {s : Ns} (h : NearAt C H a par s) (k : ∀ q o, Own a s q → H q = .some o → H' q = .some o) : NearAt C H' a par s := by
  obtain ⟨dx, e⟩ := h.ins
  exact ⟨⟨dx, k _ _ (.inl rfl) e⟩, k _ _ (.inr (.inl rfl)) h.far, k _ _ (.inr (.inr (.inl rfl))) h.dl, k _ _ (.inr (.inr (.inr (.inl rfl)))) h.dw, h.ne,
    fun x hx => ⟨k _ _ (.inr (.inr (.inr (.inr ⟨x, hx, rfl⟩)))) (h.lns x hx).1, (h.lns x hx).2⟩, h.nd⟩
theorem NearAt.same {C : Addr} {H H' : Hp} {a : Na} {par : Np} {s : Ns} (h : NearAt C H a par s) (k : Same H H') : NearAt C H' a par s := h.keep fun q o _ e => k _ _ e
/-- a thing of another's changes -/
theorem NearAt.upd {C : Addr} {H : Hp} {a : Na} {par : Np} {s : Ns} (h : NearAt C H a par s) {q : Addr} {o : HO} (n : ¬ Own a s q) : NearAt C (upd H q o) a par s := h.keep fun q' o' ow e => by
  have hne : q' ≠ q := fun z => n (by rw [← z]; exact ow)
  exact (upd_ne hne).trans e
theorem NearAt.new {C : Addr} {H : Hp} {a : Na} {par : Np} {s : Ns} (h : NearAt C H a par s) {q : Addr} (e : H q = none) : ¬ Own a s q := fun o => by
  obtain ⟨u, e2⟩ := h.some o
  rw [e] at e2
  cases e2
/-- its things are not one another -/
structure Dist (a : Na) : Prop where
  pf : a.p ≠ a.af
  pl : a.p ≠ a.dl
  pw : a.p ≠ a.dw
  fl : a.af ≠ a.dl
  fw : a.af ≠ a.dw
  lw : a.dl ≠ a.dw
theorem NearAt.dist {C : Addr} {H : Hp} {a : Na} {par : Np} {s : Ns} (h : NearAt C H a par s) : Dist a := by
  obtain ⟨dx, e⟩ := h.ins
  exact ⟨ne_of e h.far (by intro z; cases z), ne_of e h.dl (by intro z; cases z), ne_of e h.dw (by intro z; cases z), ne_of h.far h.dl (by intro z; cases z), ne_of h.far h.dw (by intro z; cases z), h.ne⟩
theorem NearAt.lnd {C : Addr} {H : Hp} {a : Na} {par : Np} {s : Ns} (h : NearAt C H a par s) {x : Int × (Addr × List Int)} (hx : x ∈ s.lines) : x.2.1 ≠ a.p ∧ x.2.1 ≠ a.af ∧ x.2.1 ≠ a.dl ∧ x.2.1 ≠ a.dw := by
  obtain ⟨dx, e⟩ := h.ins
  obtain ⟨e2, n⟩ := h.lns x hx
  exact ⟨ne_of e2 e (by intro z; cases z), n, ne_of e2 h.dl (by intro z; cases z), ne_of e2 h.dw (by intro z; cases z)⟩
theorem Step.own {H H' : Hp} {a : Na} {s s' : Ns} (h : ∀ q o, H q = .some o → ¬ Own a s q → H' q = .some o) (sub : ∀ q, Own a s' q → Own a s q) : Step H a s H' s' := fun q o e n => ⟨h q o e n, fun z => n (sub q z)⟩
theorem own_sub {a : Na} {s s' : Ns} (h : ∀ x ∈ s'.lines, ∃ y ∈ s.lines, y.2.1 = x.2.1) : ∀ q, Own a s' q → Own a s q := fun q o => by
  rcases o with o | o | o | o | ⟨x, hx, rfl⟩
  · exact .inl o
  · exact .inr (.inl o)
  · exact .inr (.inr (.inl o))
  · exact .inr (.inr (.inr (.inl o)))
  · obtain ⟨y, hy, e⟩ := h x hx
    exact .inr (.inr (.inr (.inr ⟨y, hy, e⟩)))
theorem nown {a : Na} {s : Ns} {q : Addr} (n : ¬ Own a s q) : q ≠ a.p ∧ q ≠ a.af ∧ q ≠ a.dl ∧ q ≠ a.dw ∧ ∀ x ∈ s.lines, x.2.1 ≠ q := ⟨fun z => n (.inl z), fun z => n (.inr (.inl z)), fun z => n (.inr (.inr (.inl z))), fun z => n (.inr (.inr (.inr (.inl z)))), fun x hx z => n (.inr (.inr (.inr (.inr ⟨x, hx, z⟩))))⟩
theorem nat_of {z : Int} (h0 : 1 ≤ z) (h1 : z ≤ 200) : ∃ m : Nat, z = (m : Nat) ∧ 1 ≤ m ∧ m ≤ 200 := ⟨z.toNat, (Int.toNat_of_nonneg (by omega)).symm, by omega, by omega⟩
theorem map_int_inj : ∀ {xs ys : List Int}, xs.map V.int = ys.map V.int → xs = ys
  | [], [], _ => rfl
  | x :: xs, y :: ys, h => by
    rw [List.map_cons, List.map_cons] at h
    have := List.cons.inj h
    rw [V.int.inj this.1, map_int_inj this.2]
  | [], _ :: _, h => by cases h
  | _ :: _, [], h => by cases h
theorem zeros (n : Nat) : (List.replicate n [V.int 0]).flatten = (List.replicate n (0 : Int)).map V.int := by
  induction n with
  | zero => rfl
  | succ n ih =>
    rw [List.replicate_succ, List.flatten_cons, ih, List.replicate_succ]
    rfl
theorem no_bad {i n : Nat} (h : i < n) (hb : wholeV (.int (i : Nat)) 0 ((n : Nat) - 1) = false) : False := by
  have h3 : (decide ((0 : Int) ≤ (i : Nat)) && decide (((i : Nat) : Int) ≤ (n : Nat) - 1)) = false := hb
  rw [decide_eq_true (by omega), decide_eq_true (by omega)] at h3
  cases h3
theorem nd_len {α : Type} [DecidableEq α] : ∀ {l m : List α}, l.Nodup → (∀ x ∈ l, x ∈ m) → l.length ≤ m.length
  | [], m, _, _ => Nat.zero_le _
  | x :: l, m, h, hs => by
    have hx := hs x List.mem_cons_self
    have := nd_len (l := l) (m := m.erase x) (List.nodup_cons.mp h).2 fun y hy => (List.mem_erase_of_ne (fun e => (List.nodup_cons.mp h).1 (by rw [← e]; exact hy))).mpr (hs y (List.mem_cons_of_mem _ hy))
    rw [List.length_erase_of_mem hx] at this
    have := List.length_pos_of_mem hx
    rw [List.length_cons]
    omega
theorem nodup_of {α β : Type} {f : α → β} {l : List α} (h : (l.map f).Nodup) : l.Nodup := List.Pairwise.of_map f (fun a b h e => h (congrArg f e)) h
theorem nodup_inj {α β : Type} {f : α → β} : ∀ {l : List α}, (l.map f).Nodup → ∀ {x y : α}, x ∈ l → y ∈ l → f x = f y → x = y
  | [], _, x, y, hx, _, _ => by cases hx
  | z :: l, h, x, y, hx, hy, e => by
    rw [List.map_cons, List.nodup_cons] at h
    rcases List.mem_cons.mp hx with e1 | hx2
    · rcases List.mem_cons.mp hy with e2 | hy2
      · rw [e1, e2]
      · subst e1
        exact absurd (show f x ∈ l.map f from List.mem_map.mpr ⟨y, hy2, e.symm⟩) h.1
    · rcases List.mem_cons.mp hy with e2 | hy2
      · subst e2
        exact absurd (show f y ∈ l.map f from List.mem_map.mpr ⟨x, hx2, e⟩) h.1
      · exact nodup_inj h.2 hx2 hy2 e
/-! ### what is done to it, without its things -/
def blit (far : List Int) (st : Nat) (ns : List Int) : List Int := far.take st ++ ns ++ far.drop (st + ns.length)
def numsOf (s : Ns) (L : Int) : List Int := match lkP s.lines L with | some x => x.2 | none => []
def wbS (wd : Nat) (s : Ns) (L : Int) : Ns := { s with far := blit s.far (L * wd).toNat (numsOf s L), back := s.back + 1, written := s.written.filter fun y => y != L }
def goS (wd : Nat) (s : Ns) (L : Int) : Ns := let s1 := if L ∈ s.written then wbS wd s L else s; { s1 with lines := dropP s1.lines L }
def sliceF (far : List Int) (st wd : Nat) : List Int := (far.drop st).take wd
def bringS (par : Np) (s : Ns) (L : Int) (b : Addr) : Ns :=
  let s1 := if s.lines.length = par.room then goS par.wd s (s.keys.headD 0) else s
  { s1 with lines := s1.lines ++ [(L, (b, sliceF s1.far (L * par.wd).toNat par.wd))] }
def findS (least : Bool) (s : Ns) (L : Int) : Ns := match lkP s.lines L with
  | some x => if least then { s with lines := dropP s.lines L ++ [(L, x)] } else s
  | none => s
def touchS (par : Np) (s : Ns) (L : Int) (b : Addr) : Ns :=
  if L ∈ s.keys then findS (decide (par.rule = "least")) { s with found := s.found + 1 } L else bringS par { s with missed := s.missed + 1 } L b
def setLn (ls : List (Int × (Addr × List Int))) (L : Int) (i : Nat) (n : Int) : List (Int × (Addr × List Int)) := ls.map fun x => if x.1 = L then (x.1, (x.2.1, x.2.2.set i n)) else x
def putS (s : Ns) (L : Int) (i : Nat) (n : Int) : Ns := { s with lines := setLn s.lines L i n, written := if L ∈ s.written then s.written else s.written ++ [L] }
def lookV (par : Np) (s : Ns) (i : Nat) : Int := (numsOf s ((i / par.wd : Nat) : Int)).getD (i % par.wd) 0
/-- what holds of each Near -/
structure GoodS (par : Np) (s : Ns) : Prop where
  keys : s.keys.Nodup
  nums : ∀ x ∈ s.lines, 0 ≤ x.1 ∧ x.1 * par.wd < s.far.length ∧ x.2.2.length = min par.wd (s.far.length - (x.1 * par.wd).toNat)
  wsub : ∀ L ∈ s.written, L ∈ s.keys
  wnd : s.written.Nodup
  room : s.lines.length ≤ par.room
  r1 : 1 ≤ par.room
  w1 : 1 ≤ par.wd
theorem slice_len (far : List Int) (st wd : Nat) : (sliceF far st wd).length = min wd (far.length - st) := by
  unfold sliceF
  rw [List.length_take, List.length_drop]
theorem blit_len {far ns : List Int} {st : Nat} (h : st + ns.length ≤ far.length) : (blit far st ns).length = far.length := by
  unfold blit
  rw [List.length_append, List.length_append, List.length_take, List.length_drop]
  omega
theorem GoodS.fits {par : Np} {s : Ns} (g : GoodS par s) (L : Int) : (L * par.wd).toNat + (numsOf s L).length ≤ s.far.length ∨ lkP s.lines L = none := by
  unfold numsOf
  cases e : lkP s.lines L with
  | none => exact .inr rfl
  | some x =>
    have := g.nums _ (lk_mem e)
    refine .inl ?_
    show (L * par.wd).toNat + x.2.length ≤ s.far.length
    have h1 := this.2.2
    have h2 := this.2.1
    simp only at h1 h2
    omega
theorem wb_far {par : Np} {s : Ns} (g : GoodS par s) {L : Int} (h : L ∈ s.keys) : (wbS par.wd s L).far.length = s.far.length := by
  rcases g.fits L with h2 | h2
  · exact blit_len h2
  · have := lk_some (ps := s.lines) (l := L)
    rw [h2, decide_eq_true (show L ∈ s.lines.map (·.1) from h)] at this
    cases this
theorem GoodS.wb {par : Np} {s : Ns} (g : GoodS par s) {L : Int} (h : L ∈ s.keys) : GoodS par (wbS par.wd s L) :=
  ⟨g.keys, fun x hx => by rw [wb_far g h]; exact g.nums x hx, fun l hl => g.wsub l (List.mem_filter.mp hl).1, g.wnd.filter _, g.room, g.r1, g.w1⟩
theorem go_cases (wd : Nat) (s : Ns) (L : Int) : goS wd s L = { (if L ∈ s.written then wbS wd s L else s) with lines := dropP s.lines L } := by
  unfold goS
  split <;> rfl
theorem drop_sub {α : Type} {ps : List (Int × α)} {l : Int} {x : Int × α} (h : x ∈ dropP ps l) : x ∈ ps ∧ x.1 ≠ l := by
  unfold dropP at h
  have := List.mem_filter.mp h
  exact ⟨this.1, by simpa using this.2⟩
theorem GoodS.go {par : Np} {s : Ns} (g : GoodS par s) {L : Int} (h : L ∈ s.keys) : GoodS par (goS par.wd s L) ∧ (goS par.wd s L).far.length = s.far.length ∧ (goS par.wd s L).lines.length < s.lines.length ∧ (goS par.wd s L).keys = s.keys.filter (fun y => y != L) := by
  have hk : (goS par.wd s L).keys = s.keys.filter (fun y => y != L) := by
    rw [go_cases]
    exact drop_keys _ _
  have hl : (goS par.wd s L).lines.length < s.lines.length := by
    have h1 := congrArg List.length hk
    have h2 : (s.keys.filter (fun y => y != L)).length < s.keys.length := by
      rw [← g.keys.erase_eq_filter, List.length_erase_of_mem h]
      have := List.length_pos_of_mem h
      omega
    unfold Ns.keys at h1 h2
    rw [List.length_map] at h1 h2
    omega
  have hf : (goS par.wd s L).far.length = s.far.length := by
    rw [go_cases]
    show (if L ∈ s.written then wbS par.wd s L else s).far.length = s.far.length
    split
    · exact wb_far g h
    · rfl
  refine ⟨⟨by rw [hk]; exact g.keys.filter _, fun x hx => ?_, fun l hl => ?_, ?_, by have := g.room; omega, g.r1, g.w1⟩, hf, hl, hk⟩
  · rw [hf]
    rw [go_cases] at hx
    exact g.nums x (drop_sub hx).1
  · rw [hk, List.mem_filter]
    rw [go_cases] at hl
    have hl : l ∈ (if L ∈ s.written then wbS par.wd s L else s).written := hl
    by_cases hw : L ∈ s.written
    · rw [if_pos hw] at hl
      have := List.mem_filter.mp hl
      exact ⟨g.wsub l this.1, this.2⟩
    · rw [if_neg hw] at hl
      refine ⟨g.wsub l hl, ?_⟩
      have : l ≠ L := fun e => hw (e ▸ hl)
      simpa using this
  · rw [go_cases]
    show (if L ∈ s.written then wbS par.wd s L else s).written.Nodup
    split
    · exact g.wnd.filter _
    · exact g.wnd
theorem GoodS.bring {par : Np} {s : Ns} (g : GoodS par s) {L : Int} {b : Addr} (h : L ∉ s.keys) (h0 : 0 ≤ L) (h1 : L * par.wd < s.far.length) : GoodS par (bringS par s L b) ∧ (bringS par s L b).far.length = s.far.length := by
  have hh : s.lines.length = par.room → s.keys.headD 0 ∈ s.keys := fun e => by
    have : s.keys.length = par.room := by unfold Ns.keys; rw [List.length_map]; exact e
    have r1 := g.r1
    cases hk : s.keys with
    | nil => rw [hk] at this; simp at this; omega
    | cons y ys => exact List.mem_cons_self
  have main : ∀ s1 : Ns, GoodS par s1 → s1.far.length = s.far.length → L ∉ s1.keys → s1.lines.length < par.room → GoodS par { s1 with lines := s1.lines ++ [(L, (b, sliceF s1.far (L * par.wd).toNat par.wd))] } := fun s1 g1 hf hk hl => by
    refine ⟨?_, fun x hx => ?_, fun l hl => ?_, g1.wnd, ?_, g1.r1, g1.w1⟩
    · unfold Ns.keys
      rw [List.map_append, List.nodup_append]
      exact ⟨g1.keys, by simp, fun y hy z hz => by
        have := List.mem_singleton.mp hz
        subst this
        exact fun e => hk (e ▸ hy)⟩
    · rcases List.mem_append.mp hx with hx | hx
      · exact g1.nums x hx
      · cases List.mem_singleton.mp hx
        exact ⟨h0, by show L * par.wd < s1.far.length; omega, slice_len _ _ _⟩
    · unfold Ns.keys
      rw [List.map_append, List.mem_append]
      exact .inl (g1.wsub l hl)
    · show (s1.lines ++ [_]).length ≤ par.room
      rw [List.length_append, List.length_singleton]
      omega
  unfold bringS
  by_cases e : s.lines.length = par.room
  · rw [if_pos e]
    obtain ⟨g1, g2, g3, g4⟩ := g.go (hh e)
    refine ⟨main _ g1 g2 ?_ (by omega), g2⟩
    rw [g4]
    exact fun z => h (List.mem_filter.mp z).1
  · rw [if_neg e]
    exact ⟨main _ g rfl h (by have := g.room; omega), rfl⟩
theorem GoodS.find {par : Np} {s : Ns} (g : GoodS par s) (least : Bool) (L : Int) : GoodS par (findS least s L) := by
  unfold findS
  cases e : lkP s.lines L with
  | none => exact g
  | some x =>
    cases least with
    | false => exact g
    | true =>
      have hm := lk_mem e
      have hL : L ∈ s.keys := List.mem_map.mpr ⟨_, hm, rfl⟩
      have hk : (dropP s.lines L ++ [(L, x)]).map (·.1) = s.keys.filter (fun y => y != L) ++ [L] := by
        rw [List.map_append, drop_keys]
        rfl
      show GoodS par { s with lines := dropP s.lines L ++ [(L, x)] }
      refine ⟨?_, fun y hy => ?_, fun l hl => ?_, g.wnd, ?_, g.r1, g.w1⟩
      · show ((dropP s.lines L ++ [(L, x)]).map (·.1)).Nodup
        rw [hk]
        exact nd_ordS g.keys
      · rcases List.mem_append.mp hy with hy | hy
        · exact g.nums y (drop_sub hy).1
        · cases List.mem_singleton.mp hy
          exact g.nums _ hm
      · show l ∈ (dropP s.lines L ++ [(L, x)]).map (·.1)
        rw [hk]
        exact mem_ordS.mpr (.inl (g.wsub l hl))
      · show (dropP s.lines L ++ [(L, x)]).length ≤ par.room
        have h1 := congrArg List.length hk
        rw [List.length_map, ← g.keys.erase_eq_filter, List.length_append, List.length_append, List.length_erase_of_mem hL] at h1
        have := List.length_pos_of_mem hL
        have h2 : s.keys.length = s.lines.length := by unfold Ns.keys; rw [List.length_map]
        have := g.room
        simp only [List.length_append, List.length_singleton] at h1 ⊢
        omega
theorem GoodS.cnt {par : Np} {s : Ns} (g : GoodS par s) (f m bk : Nat) : GoodS par { s with found := f, missed := m, back := bk } := ⟨g.keys, g.nums, g.wsub, g.wnd, g.room, g.r1, g.w1⟩
theorem find_far (least : Bool) (s : Ns) (L : Int) : (findS least s L).far = s.far := by
  unfold findS
  split
  · split <;> rfl
  · rfl
theorem GoodS.touch {par : Np} {s : Ns} (g : GoodS par s) {L : Int} {b : Addr} (h0 : 0 ≤ L) (h1 : L * par.wd < s.far.length) : GoodS par (touchS par s L b) ∧ (touchS par s L b).far.length = s.far.length := by
  unfold touchS
  by_cases h : L ∈ s.keys
  · rw [if_pos h]
    exact ⟨(g.cnt _ _ _).find _ _, by rw [find_far]⟩
  · rw [if_neg h]
    exact GoodS.bring (g.cnt s.found (s.missed + 1) s.back) (L := L) (b := b) h h0 h1
theorem set_keys (ls : List (Int × (Addr × List Int))) (L : Int) (i : Nat) (n : Int) : (setLn ls L i n).map (·.1) = ls.map (·.1) := by
  unfold setLn
  rw [List.map_map]
  refine List.map_congr_left fun x _ => ?_
  show (if x.1 = L then (x.1, (x.2.1, x.2.2.set i n)) else x).1 = x.1
  split <;> rfl
theorem set_addrs (ls : List (Int × (Addr × List Int))) (L : Int) (i : Nat) (n : Int) : (setLn ls L i n).map (·.2.1) = ls.map (·.2.1) := by
  unfold setLn
  rw [List.map_map]
  refine List.map_congr_left fun x _ => ?_
  show (if x.1 = L then (x.1, (x.2.1, x.2.2.set i n)) else x).2.1 = x.2.1
  split <;> rfl
theorem GoodS.put {par : Np} {s : Ns} (g : GoodS par s) {L : Int} {i : Nat} {n : Int} (h : L ∈ s.keys) : GoodS par (putS s L i n) := by
  have hk : (putS s L i n).keys = s.keys := set_keys _ _ _ _
  refine ⟨by rw [hk]; exact g.keys, fun x hx => ?_, fun l hl => ?_, ?_, ?_, g.r1, g.w1⟩
  · obtain ⟨y, hy, rfl⟩ := List.mem_map.mp hx
    have := g.nums y hy
    show 0 ≤ (if y.1 = L then (y.1, (y.2.1, y.2.2.set i n)) else y).1 ∧ _
    split
    · exact ⟨this.1, this.2.1, by rw [List.length_set]; exact this.2.2⟩
    · exact this
  · rw [hk]
    have hl : l ∈ (if L ∈ s.written then s.written else s.written ++ [L]) := hl
    split at hl
    · exact g.wsub l hl
    · rcases List.mem_append.mp hl with hl | hl
      · exact g.wsub l hl
      · rw [List.mem_singleton.mp hl]
        exact h
  · show (if L ∈ s.written then s.written else s.written ++ [L]).Nodup
    split
    · exact g.wnd
    · rename_i h2
      rw [List.nodup_append]
      exact ⟨g.wnd, by simp, fun y hy z hz => by
        have := List.mem_singleton.mp hz
        subst this
        exact fun e => h2 (e ▸ hy)⟩
  · show (setLn s.lines L i n).length ≤ par.room
    unfold setLn
    rw [List.length_map]
    exact g.room
end Nl

set_option Elab.async false
set_option linter.all false
set_option maxRecDepth 100000
set_option maxHeartbeats 4000000
namespace Nl
open PySem PySem.Spec PyProof.Rows L2 L2H
/-! ### what lies where: plain tells what each box has -/
theorem slice_get (far : List Int) (st wd j : Nat) : (sliceF far st wd)[j]? = if j < wd then far[st + j]? else none := by
  unfold sliceF
  rw [List.getElem?_take, List.getElem?_drop]
theorem blit_get {far ns : List Int} {st : Nat} (h : st + ns.length ≤ far.length) (k : Nat) : (blit far st ns)[k]? = if st ≤ k ∧ k < st + ns.length then ns[k - st]? else far[k]? := by
  unfold blit
  have h1 : (far.take st).length = st := by rw [List.length_take]; omega
  by_cases a : k < st
  · rw [if_neg (by omega), List.append_assoc, List.getElem?_append_left (by omega), List.getElem?_take, if_pos a]
  · by_cases b : k < st + ns.length
    · rw [if_pos ⟨by omega, b⟩, List.getElem?_append_left (by rw [List.length_append]; omega), List.getElem?_append_right (by omega), h1]
    · rw [if_neg (by omega), List.getElem?_append_right (by rw [List.length_append]; omega), List.getElem?_drop, List.length_append, h1]
      congr 1
      omega
structure Rel (par : Np) (s : Ns) (plain : List Int) : Prop where
  len : s.far.length = plain.length
  lns : ∀ x ∈ s.lines, x.2.2 = sliceF plain (x.1 * par.wd).toNat par.wd
  far : ∀ k : Nat, k < plain.length → ((k / par.wd : Nat) : Int) ∉ s.written → s.far[k]? = plain[k]?
theorem line_eq {wd k : Nat} {L : Int} (w1 : 1 ≤ wd) (h0 : 0 ≤ L) : ((L * wd).toNat ≤ k ∧ k < (L * wd).toNat + wd) ↔ ((k / wd : Nat) : Int) = L := by
  obtain ⟨l, rfl⟩ := Int.eq_ofNat_of_zero_le h0
  have e : (((l : Nat) : Int) * ((wd : Nat) : Int)).toNat = l * wd := by rw [← Int.natCast_mul]; rfl
  rw [e]
  constructor
  · rintro ⟨a, b⟩
    have : k / wd = l := Nat.div_eq_of_lt_le a (by rw [Nat.succ_mul]; exact b)
    rw [this]
  · intro h
    have h : k / wd = l := by omega
    have h1 := Nat.div_add_mod k wd
    have h2 := Nat.mod_lt k (show wd > 0 by omega)
    rw [h] at h1
    rw [Nat.mul_comm] at h1
    omega
theorem Rel.nums {par : Np} {s : Ns} {plain : List Int} (R : Rel par s plain) {L : Int} (h : L ∈ s.keys) : numsOf s L = sliceF plain (L * par.wd).toNat par.wd := by
  have := lk_some (ps := s.lines) (l := L)
  rw [decide_eq_true (show L ∈ s.lines.map (·.1) from h)] at this
  obtain ⟨x, hx⟩ := Option.isSome_iff_exists.mp this
  unfold numsOf
  rw [hx]
  exact R.lns _ (lk_mem hx)
/-- a written-back line lies far as it is -/
theorem Rel.wb_get {par : Np} {s : Ns} {plain : List Int} (G : GoodS par s) (R : Rel par s plain) {L : Int} (h : L ∈ s.keys) (k : Nat) (hk : k < plain.length) : (wbS par.wd s L).far[k]? = if ((k / par.wd : Nat) : Int) = L then plain[k]? else s.far[k]? := by
  have w1 := G.w1
  obtain ⟨y, hy, rfl⟩ := List.mem_map.mp h
  obtain ⟨h0, h1, h2⟩ := G.nums y hy
  have hn := R.nums h
  have hl : (sliceF plain (y.1 * par.wd).toNat par.wd).length = min par.wd (plain.length - (y.1 * par.wd).toNat) := slice_len _ _ _
  have hle := R.len
  show (blit s.far (y.1 * par.wd).toNat (numsOf s y.1))[k]? = _
  rw [hn, blit_get (by omega), hl]
  by_cases e : ((k / par.wd : Nat) : Int) = y.1
  · rw [if_pos e]
    obtain ⟨a, b⟩ := (line_eq (k := k) w1 h0).mpr e
    rw [if_pos ⟨a, by omega⟩, slice_get, if_pos (by omega)]
    congr 1
    omega
  · rw [if_neg e, if_neg]
    rintro ⟨a, b⟩
    exact e ((line_eq w1 h0).mp ⟨a, by omega⟩)
theorem Rel.wb {par : Np} {s : Ns} {plain : List Int} (G : GoodS par s) (R : Rel par s plain) {L : Int} (h : L ∈ s.keys) : Rel par (wbS par.wd s L) plain := by
  refine ⟨(wb_far G h).trans R.len, R.lns, fun k hk hw => ?_⟩
  rw [R.wb_get G h k hk]
  split
  · rfl
  · rename_i e
    refine R.far k hk fun z => hw ?_
    show _ ∈ s.written.filter (fun y => y != L)
    exact List.mem_filter.mpr ⟨z, by simpa using e⟩
theorem Rel.go {par : Np} {s : Ns} {plain : List Int} (G : GoodS par s) (R : Rel par s plain) {L : Int} (h : L ∈ s.keys) : Rel par (goS par.wd s L) plain := by
  rw [go_cases]
  have R1 : Rel par (if L ∈ s.written then wbS par.wd s L else s) plain := by
    split
    · exact R.wb G h
    · exact R
  exact ⟨R1.len, fun x hx => R.lns x (drop_sub hx).1, R1.far⟩
theorem Rel.add {par : Np} {s : Ns} {plain : List Int} (G : GoodS par s) (R : Rel par s plain) {L : Int} (h0 : 0 ≤ L) (h : L ∉ s.keys) (b : Addr) : Rel par { s with lines := s.lines ++ [(L, (b, sliceF s.far (L * par.wd).toNat par.wd))] } plain := by
  refine ⟨R.len, fun x hx => ?_, R.far⟩
  rcases List.mem_append.mp hx with hx | hx
  · exact R.lns x hx
  · cases List.mem_singleton.mp hx
    show sliceF s.far (L * par.wd).toNat par.wd = sliceF plain (L * par.wd).toNat par.wd
    refine List.ext_getElem? fun j => ?_
    rw [slice_get, slice_get]
    by_cases hj : j < par.wd
    · rw [if_pos hj, if_pos hj]
      by_cases hk : (L * par.wd).toNat + j < plain.length
      · refine R.far _ hk fun z => h (G.wsub _ ?_)
        rw [(line_eq G.w1 h0).mp ⟨by omega, by omega⟩] at z
        exact z
      · rw [List.getElem?_eq_none (by have := R.len; omega), List.getElem?_eq_none (by omega)]
    · rw [if_neg hj, if_neg hj]
theorem Rel.cnt {par : Np} {s : Ns} {plain : List Int} (R : Rel par s plain) (f m bk : Nat) : Rel par { s with found := f, missed := m, back := bk } plain := ⟨R.len, R.lns, R.far⟩
theorem Rel.find {par : Np} {s : Ns} {plain : List Int} (R : Rel par s plain) (least : Bool) (L : Int) : Rel par (findS least s L) plain := by
  unfold findS
  cases e : lkP s.lines L with
  | none => exact R
  | some x =>
    cases least with
    | false => exact R
    | true =>
      refine ⟨R.len, fun y hy => ?_, R.far⟩
      rcases List.mem_append.mp hy with hy | hy
      · exact R.lns y (drop_sub hy).1
      · cases List.mem_singleton.mp hy
        exact R.lns _ (lk_mem e)
theorem head_mem {par : Np} {s : Ns} (G : GoodS par s) (e : s.lines.length = par.room) : s.keys.headD 0 ∈ s.keys := by
  have : s.keys.length = par.room := by unfold Ns.keys; rw [List.length_map]; exact e
  have r1 := G.r1
  cases hk : s.keys with
  | nil => rw [hk] at this; simp at this; omega
  | cons y ys => exact List.mem_cons_self
theorem Rel.touch {par : Np} {s : Ns} {plain : List Int} (G : GoodS par s) (R : Rel par s plain) {L : Int} {b : Addr} (h0 : 0 ≤ L) : Rel par (touchS par s L b) plain := by
  unfold touchS
  by_cases h : L ∈ s.keys
  · rw [if_pos h]
    exact (R.cnt _ _ _).find _ _
  · rw [if_neg h]
    have G1 := G.cnt s.found (s.missed + 1) s.back
    have R1 := R.cnt s.found (s.missed + 1) s.back
    unfold bringS
    by_cases e : s.lines.length = par.room
    · rw [if_pos e]
      have hm := head_mem G e
      obtain ⟨g1, _, _, g4⟩ := G1.go (L := s.keys.headD 0) hm
      refine (R1.go G1 hm).add g1 h0 ?_ b
      rw [g4]
      exact fun z => h (List.mem_filter.mp z).1
    · rw [if_neg e]
      exact R1.add G1 h0 h b
theorem Rel.put {par : Np} {s : Ns} {plain : List Int} (G : GoodS par s) (R : Rel par s plain) {i : Nat} {n : Int} (hi : i < plain.length) (hL : ((i / par.wd : Nat) : Int) ∈ s.keys) : Rel par (putS s ((i / par.wd : Nat) : Int) (i % par.wd) n) (plain.set i n) := by
  have w1 := G.w1
  have hmod := Nat.div_add_mod i par.wd
  have hmlt := Nat.mod_lt i (show par.wd > 0 by omega)
  have est : (((i / par.wd : Nat) : Int) * (par.wd : Nat)).toNat = par.wd * (i / par.wd) := by
    rw [show ((i / par.wd : Nat) : Int) * (par.wd : Nat) = ((par.wd * (i / par.wd) : Nat) : Int) by rw [Int.natCast_mul]; exact Int.mul_comm _ _]
    rfl
  refine ⟨by rw [List.length_set]; exact R.len, fun x hx => ?_, fun k hk hw => ?_⟩
  · obtain ⟨y, hy, rfl⟩ := List.mem_map.mp hx
    have hy2 := R.lns y hy
    obtain ⟨g0, g1, g2⟩ := G.nums y hy
    by_cases e : y.1 = ((i / par.wd : Nat) : Int)
    · rw [if_pos e]
      show y.2.2.set (i % par.wd) n = sliceF (plain.set i n) (y.1 * par.wd).toNat par.wd
      rw [hy2, e, est]
      refine List.ext_getElem? fun j => ?_
      rw [slice_get, List.getElem?_set, slice_get, List.getElem?_set]
      by_cases hj : j < par.wd
      · rw [if_pos hj, if_pos hj]
        by_cases ej : i % par.wd = j
        · rw [if_pos ej, slice_len, if_pos (by omega), if_pos (by omega), if_pos hi]
        · rw [if_neg ej, if_neg (by omega)]
      · rw [if_neg hj, if_neg hj, if_neg (by omega)]
    · rw [if_neg e]
      rw [hy2]
      refine List.ext_getElem? fun j => ?_
      rw [slice_get, slice_get]
      by_cases hj : j < par.wd
      · rw [if_pos hj, if_pos hj, List.getElem?_set_ne]
        intro z
        exact e ((line_eq (k := i) w1 g0).mp ⟨by omega, by omega⟩).symm
      · rw [if_neg hj, if_neg hj]
  · rw [List.length_set] at hk
    have hw2 : ((k / par.wd : Nat) : Int) ∉ s.written ∧ ((k / par.wd : Nat) : Int) ≠ ((i / par.wd : Nat) : Int) := by
      have hw : ((k / par.wd : Nat) : Int) ∉ (if ((i / par.wd : Nat) : Int) ∈ s.written then s.written else s.written ++ [((i / par.wd : Nat) : Int)]) := hw
      split at hw
      · rename_i h2
        exact ⟨hw, fun z => hw (z ▸ h2)⟩
      · exact ⟨fun z => hw (List.mem_append.mpr (.inl z)), fun z => hw (List.mem_append.mpr (.inr (by rw [z]; exact List.mem_cons_self)))⟩
    rw [List.getElem?_set_ne (fun z => hw2.2 (by rw [z]))]
    exact R.far k hk hw2.1
/-- whoever reads a box gets what it has -/
theorem Rel.look {par : Np} {s : Ns} {plain : List Int} (G : GoodS par s) (R : Rel par s plain) {i : Nat} (hi : i < plain.length) (hL : ((i / par.wd : Nat) : Int) ∈ s.keys) : lookV par s i = plain.getD i 0 := by
  unfold lookV
  have w1 := G.w1
  have hmod := Nat.div_add_mod i par.wd
  have hmlt := Nat.mod_lt i (show par.wd > 0 by omega)
  have est : (((i / par.wd : Nat) : Int) * (par.wd : Nat)).toNat = par.wd * (i / par.wd) := by
    rw [show ((i / par.wd : Nat) : Int) * (par.wd : Nat) = ((par.wd * (i / par.wd) : Nat) : Int) by rw [Int.natCast_mul]; exact Int.mul_comm _ _]
    rfl
  rw [R.nums hL, List.getD_eq_getElem?_getD, slice_get, if_pos hmlt, est, show par.wd * (i / par.wd) + i % par.wd = i by omega, List.getD_eq_getElem?_getD]
/-! ### settling -/
def settleL (wd : Nat) (ls : List Int) (s : Ns) : Ns := ls.foldl (wbS wd) s
theorem settle_step (wd : Nat) (L : Int) (ls : List Int) (s : Ns) : settleL wd (L :: ls) s = settleL wd ls (wbS wd s L) := rfl
theorem settle_all {par : Np} {plain : List Int} : ∀ (ls : List Int) (s : Ns), GoodS par s → Rel par s plain → (∀ L ∈ ls, L ∈ s.keys) → ls.Nodup → GoodS par (settleL par.wd ls s) ∧ Rel par (settleL par.wd ls s) plain ∧ (settleL par.wd ls s).lines = s.lines ∧
    (settleL par.wd ls s).back = s.back + ls.length ∧ (settleL par.wd ls s).found = s.found ∧ (settleL par.wd ls s).missed = s.missed ∧ ∀ L, L ∈ (settleL par.wd ls s).written ↔ L ∈ s.written ∧ L ∉ ls
  | [], s, G, R, _, _ => ⟨G, R, rfl, rfl, rfl, rfl, fun L => by simp [settleL]⟩
  | L :: ls, s, G, R, hs, nd => by
    have hL := hs L List.mem_cons_self
    obtain ⟨a1, a2, a3, a4, a5, a6, a7⟩ := settle_all ls (wbS par.wd s L) (G.wb hL) (R.wb G hL) (fun l hl => hs l (List.mem_cons_of_mem _ hl)) (List.nodup_cons.mp nd).2
    rw [settle_step]
    refine ⟨a1, a2, a3, ?_, a5, a6, fun l => ?_⟩
    · rw [a4]
      show s.back + 1 + ls.length = s.back + (ls.length + 1)
      omega
    · rw [a7]
      show l ∈ s.written.filter (fun y => y != L) ∧ l ∉ ls ↔ _
      rw [List.mem_filter, List.mem_cons]
      constructor
      · rintro ⟨⟨b1, b2⟩, b3⟩
        exact ⟨b1, fun z => z.elim (fun e => by simp [e] at b2) b3⟩
      · rintro ⟨b1, b2⟩
        exact ⟨⟨b1, by simpa using fun e => b2 (.inl e)⟩, fun z => b2 (.inr z)⟩
def settleS (par : Np) (s : Ns) : Ns := settleL par.wd s.written s
theorem settle_done {par : Np} {s : Ns} {plain : List Int} (G : GoodS par s) (R : Rel par s plain) : GoodS par (settleS par s) ∧ Rel par (settleS par s) plain ∧ (settleS par s).keys = s.keys ∧ (settleS par s).back = s.back + s.written.length ∧ (settleS par s).found = s.found ∧ (settleS par s).missed = s.missed ∧ (settleS par s).written = [] ∧ (settleS par s).far = plain := by
  obtain ⟨a1, a2, a3, a4, a5, a6, a7⟩ := settle_all (plain := plain) s.written s G R (fun L hL => G.wsub L hL) G.wnd
  have hw : (settleL par.wd s.written s).written = [] := List.eq_nil_iff_forall_not_mem.mpr fun L hL => ((a7 L).mp hL).2 ((a7 L).mp hL).1
  refine ⟨a1, a2, by show (settleL par.wd s.written s).lines.map (·.1) = s.lines.map (·.1); rw [a3], a4, a5, a6, hw, ?_⟩
  refine List.ext_getElem? fun k => ?_
  by_cases hk : k < plain.length
  · exact a2.far k hk (by rw [hw]; simp)
  · rw [List.getElem?_eq_none (by have := a2.len; show (settleL par.wd s.written s).far.length ≤ k; omega), List.getElem?_eq_none (by omega)]
end Nl

set_option Elab.async false
set_option linter.all false
set_option maxRecDepth 100000
set_option maxHeartbeats 4000000
namespace Nl
open PySem PySem.Spec PyProof.Rows L2 L2H
/-! ### C(..), its __init__ may raise: what is raised is wished for by W -/
def tMakeS (C : Addr) (sp : Sp) (E : L2.St → XK) (t : TA) : TE := fun σ H Q => t σ H fun vs H1 => ∀ x dx, H1 x = none → H1 dx = none → dx ≠ x →
  sp (.ref x :: vs) (upd (upd H1 dx (.own x)) x (.ins C dx [])) (fun v H2 => v = .non ∧ Q (.ref x) H2) (E σ)
section
variable {X : Cx} {CX : CXT} {k j : Nat} {f C : Addr} {fd : FuncData} {ps : List Str} {sp : Sp} {E : L2.St → XK} {x : Str} {p pos : Pos} {e : Expr} {es : List Expr} {t : TA}
theorem run_makeS {pins : List (Addr × Obj)} {σ : L2.St} {H : Hp} {s : Shared} {Q : VK} {us : List Value} {vs : List V} (M : Mk X.K C f) (F : FnOk X.prog X.w X.K X.mg X.base CX k f fd ps sp) (hr : Room (k + 1) X.A) (hb : Binds X.K fd ps [])
    (hx : PassesAt CX X σ (E σ)) (I : Inv X pins σ H s) (r : Vals vs us)
    (h : ∀ x dx, H x = none → H dx = none → dx ≠ x → sp (.ref x :: vs) (upd (upd H dx (.own x)) x (.ins C dx [])) (fun v H2 => v = .non ∧ Q (.ref x) H2) (E σ)) :
    wpAny (model X.prog X.w) X.A (call (.ref C) us) (EP X pins σ Q) X.xe s := by
  have hq := h (s.heap.objs.size + 1) s.heap.objs.size (I.hok.fresh (Nat.le_succ _)) (I.hok.fresh (Nat.le_refl _)) (Nat.ne_of_lt (Nat.lt_succ_self _))
  have I2 := Inv.made (C := C) I
  have r2 : Vals (V.ref (s.heap.objs.size + 1) :: vs) (Value.ref (s.heap.objs.size + 1) :: us) := .cons rfl r
  have hl : (Value.ref (s.heap.objs.size + 1) :: us).length = ps.length := by
    have e := r2.length
    rw [F.len _ _ _ _ hq] at e
    exact e.symm
  have b := hb _ (Value.ref (s.heap.objs.size + 1) :: us) I2.kIn (by rw [List.append_nil]; exact hl)
  rw [List.append_nil] at b
  refine wpAny_call (make_map (f := f) I.kIn M.makes M.init (beq_iff_eq.mp M.fn) (codeAny_mono (F.run _ X.stack _ _ ⟨Value.ref (s.heap.objs.size + 1) :: us, []⟩ (Value.ref (s.heap.objs.size + 1) :: us) _ _ (E σ) (hr.make C us [])
    (I2.env0.make C us []) b r2 hq) fun r s' hq' => ?_))
  cases r with
  | error e => exact hx pins _ _ e s' I2 hq'
  | ok fl =>
    cases fl with
    | ret u =>
      obtain ⟨v, H', I3, rv, ev, q3⟩ := I2.after hq'
      subst ev
      exact ⟨rv, ⟨V.ref (s.heap.objs.size + 1), H', I3, rfl, q3⟩⟩
    | next => exact False.elim hq'
    | brk => exact False.elim hq'
    | cont => exact False.elim hq'
theorem pe_mkx {W : WX} (c : MakX X.prog X.w X.K X.mg X.base k x C sp) (tk : Takes X W) (hr : Room j X.A) (hk : k + 1 ≤ j) (hg : Gl X x) (ha : PA X (e :: es) t)
    (hdb : (x == ("__debug__" : Str)) = false := by decide) (he : starEach (e :: es) X.env = (false, eval e X.env) :: starEach es X.env := by rfl) (hpl : (backTo pos (starEach es X.env)).any (·.1) = false := by rfl) :
    PE X (.Call (.Name x p) (e :: es) [] pos) (tMakeS C sp (WE W) t) := by
  obtain ⟨f, fd, ps, M, F, hm, b⟩ := c.ex
  refine ⟨fun pins s σ H Q I h => ?_⟩
  refine wpAny_Call_Name_kw (ld_glob I hg hm ?_ hdb)
  refine PySem.W.callWith_K (h₀ := X.base) I.ok.mod.kin M.kp (thn (ha.run pos pins s σ H _ I h) fun us s1 ⟨vs, H1, I1, r, q⟩ => ⟨I1.kIn, ?_⟩) he hpl
  exact run_makeS M F (hr.mono hk) b (passAt tk σ) I1 r q
end
end Nl

set_option Elab.async false
set_option linter.all false
set_option maxRecDepth 100000
set_option maxHeartbeats 4000000
namespace Nl
open PySem PySem.Spec PyProof.Rows L2
/-! ### x in a tuple, data of any depth -/
def rInDT (K : PySem.W.Frag) : R2 := fun x y H Q => ∃ d ds, Dp K H x d ∧ Dp K H y (.tuple ds) ∧ SeqAt.shaped d = true ∧ SeqAt.shaped (.tuple ds) = true ∧ Q (.bl (ds.any fun z => PyData.eqv z d)) H
theorem op_inDT {X : Cx} (hu : X.A.units + 65 < cLine) : OpR X (compareOp .In) (rInDT X.K) := by
  intro pins s σ H x y v u Q I rx ry h
  obtain ⟨d, ds, hd, he, sd, se, q⟩ := h
  obtain ⟨as, r1⟩ := Dp.reads I d x v hd rx
  obtain ⟨bs, r2⟩ := Dp.reads I (.tuple ds) y u he ry
  exact SeqAt.in_tuple_reads r2 r1 (SeqAt.canLay_of_shaped se) (SeqAt.canLay_of_shaped sd) (room_in_shaped sd hu) ⟨.bl _, H, I, rfl, q⟩
theorem hu65_of {A : Around} {k : Nat} (hr : Room k A) : A.units + 65 < cLine := by
  have := hr.un
  omega
/-! ### several except clauses, each with a name -/
def wManyAs (K : PySem.W.Frag) (Wout : WX) (D : Ends) : List (Value × Nat × (Addr → Value → Option Addr → TS)) → WX
  | [] => Wout
  | (c, i, ts) :: r => fun cls d σ H => ∃ b, PySem.W.exmOne K cls c = some b ∧
      (b = true → ∀ a, H a = none → ts a cls d { nx := fun σ' H' => D.nx (σ'.set i none) H', rt := D.rt, bk := fun σ' H' => D.bk (σ'.set i none) H', ct := fun σ' H' => D.ct (σ'.set i none) H' } (σ.set i (some (.ref a))) H) ∧ (b = false → wManyAs K Wout D r cls d σ H)
inductive HdsAs (X : Cx) : List ExceptHandler → List (Value × Nat × (Addr → Value → Option Addr → TS)) → Prop
  | nil : HdsAs X [] []
  | cons {x n : Str} {c : Value} {i : Nat} {ts : Addr → Value → Option Addr → TS} {b₀ : Stmt} {suite : List Stmt} {np pos' : Pos} {hds : List ExceptHandler} {l : List (Value × Nat × (Addr → Value → Option Addr → TS))}
      (hi : X.N[i]? = some n) (hln : X.env.kindOf n = some .local) (hc : Names X x c)
      (hsu : ∀ (a : Addr) (oe : Obj) (cls : Value) (d : Option Addr) (pn : List (Addr × Obj)), Zc cls d oe → (∃ vs, oe.data = .fields vs) → PSs (X.suite a ((a, oe) :: pn)) (b₀ :: suite) (ts a cls d)) (r : HdsAs X hds l) :
      HdsAs X (.ExceptHandler (some (.Name x np)) (some n) (b₀ :: suite) pos' :: hds) ((c, i, ts) :: l)
section
variable {X : Cx} {body : List Stmt} {h₀ : ExceptHandler} {hds : List ExceptHandler} {l : List (Value × Nat × (Addr → Value → Option Addr → TS))} {pos : Pos} {tb : WX → TS} {Wout : WX}
theorem ps_try_manyAs (hs : X.stack = X.env :: X.outer) (hf : X.env.frame = some X.env.locals) (hN : X.N.Nodup) (tk : Takes X Wout)
    (hb : ∀ (W : WX) (pn : List (Addr × Obj)) (xe : Value → Shared → Prop), Takes (X.tr pn xe) W → PassesOwn (model X.prog X.w) X.A X.env xe → PSs (X.tr pn xe) body (tb W))
    (hh : HdsAs X (h₀ :: hds) l) : PS X (.Try body (h₀ :: hds) [] [] pos) (fun D σ H => tb (wManyAs X.K Wout D l) D σ H) := by
  refine ⟨fun pins s σ H D I h => ?_⟩
  have ok := I.ok
  have hfr : X.A.frames = some (X.env :: X.outer) := by rw [ok.frames, hs]
  refine wpAny_Try_except ?_
  refine wpAny_mono ((hb (wManyAs X.K Wout D l) (X.pn ++ pins) (fun e s₁ => wpAny (model X.prog X.w) X.A (noteFrame e X.env) (fun _ s₂ => wpAny (model X.prog X.w) X.A (setFlight e none) (fun _ s₃ =>
    wpAny (model X.prog X.w) X.A (handleBy e X.env (h₀ :: hds)) (SP X pins D) X.xe s₃) X.xe s₂) X.xe s₁) (fun u s' xx => ?_) PassesOwn.looking).run [] s σ H D (I.toTry _) h) (fun f s1 hsp => ?_) (fun e s1 he => he)
  · -- the catch
    obtain ⟨a, B, sI, pins', σ', H', cls, d, rfl, J', nb, up, sky, na, os, ag, w⟩ := xx
    have J : Inv X pins σ' H' sI := J'.ofTry ok
    have sky' : Sky B (X.env :: X.outer) a (Zc cls d) X.env.locals s'.heap := by rw [← hs]; exact sky
    show wpAny (model X.prog X.w) X.A (noteFrame (.ref a) X.env) _ _ _
    refine Sky.land Zc.steady hfr hf sky' fun h3 fl3 up3 => ?_
    have J3 : Inv X pins σ' H' { s' with heap := h3 } := J.landed nb fl3.1 (up.trans up3) os ag
    obtain ⟨oe3, vs3, he3, hz3, hd3⟩ := fl3.there
    have notFr : ∀ {h : Heap} {o : Obj} {vs : Array Value}, h.FunFrames B (X.env :: X.outer) → h.get? a = some o → o.data = .fields vs → a ∉ frs (X.env :: X.outer) := fun {h o vs} ff e dd hm => by
      obtain ⟨_, o', e', hnf⟩ := ff.mem hm
      rw [e] at e'; cases e'
      exact hnf _ dd
    have nfr := notFr fl3.2.2.1 he3 hd3
    have nL : a ≠ X.env.locals := fun z => nfr (List.mem_filterMap.mpr ⟨X.env, List.mem_cons_self, by rw [hf, z]⟩)
    have nF : a ∉ X.fs := fun hm => by
      obtain ⟨e, he, q⟩ := List.mem_filterMap.mp hm
      exact nfr (List.mem_filterMap.mpr ⟨e, List.mem_cons_of_mem _ he, q⟩)
    have S3 := J3.suite he3 hd3 na nL nF
    have go : ∀ {hds' : List ExceptHandler} {l' : List (Value × Nat × (Addr → Value → Option Addr → TS))}, HdsAs X hds' l' → wManyAs X.K Wout D l' cls d σ' H' →
        wpAny (model X.prog X.w) X.A (handleBy (.ref a) X.env hds') (SP X pins D) X.xe { s' with heap := h3 } := by
      intro hds' l' hk
      induction hk with
      | nil =>
        intro w
        refine wpAny_handleBy_nil ?_
        obtain ⟨k1, k2, k3, oe, vs, T, oT, ts', he, hz, hd, h1, hr⟩ := id fl3
        unfold PySem.passOn
        refine wpAny_bind (wpAny_field he hd h1 ?_)
        rw [if_neg (show ¬ ((Value.ref T == Value.none) = true) from by simp)]
        have fin : wpAny (model X.prog X.w) X.A (setFlight (.ref a) X.env.frame) (fun _ s4 => wpAny (model X.prog X.w) X.A (throw (.ref a) : Sem Flow) (SP X pins D) X.xe s4) X.xe { s' with heap := h3 } := by
          rw [hf]
          refine HandSPX.setFlight_upZ fl3 fun h4 hh4 up4 => wpAny_throw (tk _ _ ?_)
          exact ⟨a, B, sI, pins, σ', H', cls, d, rfl, J, nb, (up.trans up3).trans up4, .inr (.inr (by rw [hs]; exact hh4)), na, os, ag, w⟩
        first
          | exact wpAny_bind (wpAny_pure (wpAny_bind fin))
          | exact wpAny_bind fin
      | @cons x n c i ts b₀ suite np pos' hds2 l2 hi hln hc hsu r ih =>
        intro w
        obtain ⟨b, hb1, hyes, hno⟩ := w
        have hloc : Loc X.env.scope n := .inl hln
        refine wpAny_handleBy_cons (codeAny_handlers_test ?_) (by intro q; cases q)
        have LT : PySem.W.Looks (model X.prog X.w) h3 (typeOf (.ref a)) cls := fun A Q E s k q => wpAny_typeOf_ref (k _ _ he3) (by rw [hz3.1]; exact q)
        have LM := PySem.W.exm_one (M := model X.prog X.w) (J3.kIn) LT hb1
        have test : ∀ {Q : Value → Shared → Prop} {E : Value → Shared → Prop}, Q c { s' with heap := h3 } → wpAny (model X.prog X.w) (X.A.mark (some (.ref a))) (eval (.Name x np) X.env) Q E { s' with heap := h3 } := fun {Q E} q => by
          obtain ⟨hg, hdbg, hm | ⟨hm, hv, hnn⟩⟩ := hc
          · exact ld_glob (X := X.suite a ((a, oe3) :: (X.pn ++ pins))) S3 hg hm q hdbg
          · exact ld_blt (X := X.suite a ((a, oe3) :: (X.pn ++ pins))) S3 hg hm hv q hnn hdbg
        refine test (LM.here ?_)
        cases b with
        | true =>
          refine codeAny_handlers_suite_as ?_
          refine HandSPX.lands_againZ fl3 fun h4 fl4 up4 => ?_
          have J4 : Inv X pins σ' H' { s' with heap := h4 } := J.landed nb fl4.1 ((up.trans up3).trans up4) os ag
          obtain ⟨oe4, vs4, he4, hz4, hd4⟩ := fl4.there
          have S4 := J4.suite he4 hd4 na nL nF
          refine store_ok (X := X.suite a ((a, oe4) :: (X.pn ++ pins))) (v := .ref a) S4 hN hi hloc rfl (fun s5 S5 => ?_) (.inr hln)
          refine wpAny_mono ((hsu a oe4 cls d (X.pn ++ pins) hz4 ⟨_, hd4⟩).run [] s5 _ H' _ S5 (hyes rfl a na)) (fun f s6 hsp => ?_) (fun _ _ z => False.elim z)
          have end_ : ∀ {σ6 : L2.St} {H6 : Hp} {Q : Shared → Prop}, Inv (X.suite a ((a, oe4) :: (X.pn ++ pins))) [] σ6 H6 s6 → (∀ s7, Inv X pins (σ6.set i none) H6 s7 → Q s7) →
              wpAny (model X.prog X.w) X.A (do bindName X.env n .none; unbindBehindTheSuite X.env n pos') (fun _ s7 => Q s7) X.xe s6 := fun {σ6 H6 Q} S6 hq => gone_ok (S6.unsuite ok) hN hi hln hq
          cases f with
          | next =>
            obtain ⟨σ6, H6, S6, q6⟩ := hsp
            exact end_ S6 fun s7 J7 => ⟨_, _, J7, q6⟩
          | brk =>
            obtain ⟨σ6, H6, S6, q6⟩ := hsp
            exact end_ S6 fun s7 J7 => ⟨_, _, J7, q6⟩
          | cont =>
            obtain ⟨σ6, H6, S6, q6⟩ := hsp
            exact end_ S6 fun s7 J7 => ⟨_, _, J7, q6⟩
          | ret u =>
            obtain ⟨v6, σ6, H6, S6, r6, q6⟩ := hsp
            exact end_ S6 fun s7 J7 => ⟨_, _, _, J7, r6, q6⟩
        | false =>
          show wpAny _ X.A (handleBy (.ref a) X.env hds2) _ _ _
          exact ih (hno rfl)
    exact go hh w
  · cases f with
    | next =>
      obtain ⟨σ', H', J', q⟩ := hsp
      exact wpAny_execs_nil ⟨σ', H', J'.ofTry ok, q⟩
    | brk =>
      obtain ⟨σ', H', J', q⟩ := hsp
      exact ⟨σ', H', J'.ofTry ok, q⟩
    | cont =>
      obtain ⟨σ', H', J', q⟩ := hsp
      exact ⟨σ', H', J'.ofTry ok, q⟩
    | ret u =>
      obtain ⟨v, σ', H', J', r, q⟩ := hsp
      exact ⟨v, σ', H', J'.ofTry ok, r, q⟩
end
end Nl

set_option Elab.async false
set_option linter.all false
set_option maxRecDepth 100000
set_option maxHeartbeats 4000000
namespace Nl
open PySem PySem.Spec PyProof.Rows L2 L2H
def top (i : Nat) : Stmt := PySem.Challenge.pw_nearlines_k06_what_is_refused.main.body.getD i (.Pass ⟨0, 0, 0, 0⟩)
def inClass (st : Stmt) (i : Nat) : Stmt := match st with
  | .ClassDef (body := b) .. => b.getD i (.Pass ⟨0, 0, 0, 0⟩)
  | _ => .Pass ⟨0, 0, 0, 0⟩
theorem sz_ok {n : Nat} (h : Nat.ble n 1000 = true) : n ≤ sizeLine := Nat.le_trans (Nat.le_of_ble_eq_true h) (by decide)
local macro_rules | `(tactic| walk_at "rd") => `(tactic| first
  | refine ⟨_, rfl, ?_⟩
  | refine ⟨_, _, rfl, rfl, ⟨by decide, by decide⟩, ?_⟩
  | refine ⟨_, _, rfl, rfl, (by show (0 : Int) < _; decide), ?_⟩
  | refine ⟨_, _, rfl, rfl, .inr ⟨by decide, by decide⟩, ?_⟩
  | refine ⟨_, _, rfl, rfl, ?_⟩
  | refine ⟨rfl, ?_⟩)
theorem hu64_of {k : Nat} {A : Around} (hr : Room k A) : A.units + 64 < cLine := by
  have := hr.un
  omega

local macro_rules | `(tactic| walk_at "hp") => `(tactic| first
  | exact upd_same
  | assumption
  | (refine (upd_ne ?_).trans ?_; (first | assumption | exact Ne.symm (by assumption)); walk_at "hp"))

structure Txt (K : PySem.W.Frag) (w : World) (mg : Str → Option Value) : Prop extends Top K mg where
  len : mg "len" = none
  range : mg "range" = none
  isinstance : mg "isinstance" = none
  all : mg "all" = none
  int : mg "int" = none
  str : mg "str" = none
  bool : mg "bool" = none
  tuple : mg "tuple" = none
  list : mg "list" = none
  zip : mg "zip" = none
  enumerate : mg "enumerate" = none
  max : mg "max" = none
section
variable {P : Program} {w : World} {K : PySem.W.Frag} {mg : Str → Option Value} {base : Heap}
def sTab : List (Str × List Str) := [("set", ["box", "number"]), ("copy", ["box", "box"]), ("add", ["box", "box", "box"]), ("sub", ["box", "box", "box"]), ("fetch", ["box", "box"]), ("store", ["box", "box"]), ("less", ["box", "box", "place"]), ("jump", ["place"]), ("tell", ["box"])]
def shapeOf (z : Str) : Option (List Str) := sTab.lookup z
structure Shapes (K : PySem.W.Frag) (w : World) (mg : Str → Option Value) (dS : Addr) : Prop where
  g : mg "SHAPES" = some (.ref dS)
  d : ∃ es n, KDict K w dS es n
  no : ∀ z, shapeOf z = none → PySem.W.nsIn K dS z = some none
  yes : ∀ z l, shapeOf z = some l → ∃ t, PySem.W.nsIn K dS z = some (some (.ref t)) ∧ ∀ H, SqT K H t (l.map V.str)
theorem Shapes.get {K : PySem.W.Frag} {w : World} {mg : Str → Option Value} {dS : Addr} (Z : Shapes K w mg dS) {z : Str} {l : List Str} (h : shapeOf z = some l) : ∃ t, KDct K w dS z (.ref t) ∧ ∀ H, SqT K H t (l.map V.str) := by
  obtain ⟨es, n, D⟩ := Z.d
  obtain ⟨t, e, q⟩ := Z.yes z l h
  exact ⟨t, ⟨es, n, _, D.at_, D.lit, e, rfl⟩, q⟩
theorem sTab_cases {P : Str → List Str → Prop} (h : ∀ q ∈ sTab, P q.1 q.2) {z : Str} {l : List Str} (e : shapeOf z = some l) : P z l := by
  have m := PySem.mem_of_lookup (show sTab.lookup z = some l from e)
  exact h _ m
theorem shape_len {z : Str} {l : List Str} (e : shapeOf z = some l) : 1 ≤ l.length ∧ l.length ≤ 3 := sTab_cases (P := fun _ l => 1 ≤ l.length ∧ l.length ≤ 3) (by decide) e
theorem shape_word {z : Str} {l : List Str} (e : shapeOf z = some l) : z.length ≤ 5 := sTab_cases (P := fun z _ => z.length ≤ 5) (by decide +kernel) e

abbrev s_is_any_whole : Stmt := top 11
abbrev N_is_any_whole : List Str := ["thing"]
theorem S_is_any_whole : FnScope N_is_any_whole ["thing"] (defScope s_is_any_whole) := ⟨rfl, rfl, rfl, by decide +kernel, rfl, by decide +kernel, by decide +kernel⟩

theorem c_any_whole (T : Txt K w mg) (D : DefAt K "is_any_whole" s_is_any_whole) : Cal P w K mg base CX0 1 "is_any_whole" (spWhole K) := by
  have S := S_is_any_whole
  refine cal_of T.toTop D S (fun _ _ _ _ _ _ us hl => match us, hl with | [_], _ => rfl) (fun vs H Q E h => ?_) (fun f cdv A outer s H vs Q E hr h => ?_)
  · obtain ⟨v, n, rfl, _⟩ := h
    rfl
  · obtain ⟨v, n, rfl, ty, k1, k2, q⟩ := h
    refine ⟨_, (pss_one (ps_ret (pe_and (pe_callB call_isi (by rfl) T.isinstance (by decide +kernel) (pa_cons (pv 0) (pa_cons ((pe_bltn (v := .ty "int") (u := .type "int") rfl T.int (by decide +kernel) rfl)) pa_nil))) (pe_one (pe_not (pe_callB call_isi (by rfl) T.isinstance (by decide +kernel) (pa_cons (pv 0) (pa_cons ((pe_bltn (v := .ty "bool") (u := .type "bool") rfl T.bool (by decide +kernel) rfl)) pa_nil)))))))), ?_⟩
    refine ⟨_, rfl, _, _, _, _, _, rfl, .ty _, ty, kit_ty k1, _, rfl, ?_⟩
    refine ite2 (fun h => ?_) (fun h => ?_)
    · refine ⟨_, rfl, _, _, _, _, _, rfl, .ty _, ty, kit_ty k2, _, rfl, ?_⟩
      have h := of_decide_eq_true h
      have e : (!decide (n = "bool")) = decide (n = "int") := by
        rcases h with h | h <;> subst h <;> rfl
      show Q (V.bl (!decide (n = "bool"))) H
      rw [e]
      exact q
    · have e : decide (n = "int") = false := decide_eq_false fun z => h (decide_eq_true (.inl z))
      rw [e] at q
      exact q

abbrev s_is_whole : Stmt := top 10
abbrev N_is_whole : List Str := ["thing", "low", "high"]
theorem S_is_whole : FnScope N_is_whole ["thing", "low", "high"] (defScope s_is_whole) := ⟨rfl, rfl, rfl, by decide +kernel, rfl, by decide +kernel, by decide +kernel⟩

/-- is_whole(thing, low, high) -/
theorem c_is_wholeV (T : Txt K w mg) (D : DefAt K "is_whole" s_is_whole) (C_is_any_whole : Cal P w K mg base CX0 1 "is_any_whole" (spWhole K)) : Cal P w K mg base CX0 2 "is_whole" (spIsWholeV K) := by
  have S := S_is_whole
  refine cal_of T.toTop D S (fun _ _ _ _ _ _ us hl => match us, hl with | [_, _, _], _ => rfl) (fun vs H Q E h => ?_) (fun f cdv A outer s H vs Q E hr h => ?_)
  · obtain ⟨v, lo, hi, rfl, _⟩ := h
    rfl
  · obtain ⟨v, lo, hi, rfl, ⟨n, ty, k1, k2, hn, hn2⟩, q⟩ := h
    refine ⟨_, (pss_one (ps_ret (pe_and (pe_c C_is_any_whole hr (by decide) rfl (pa_cons (pv 0) pa_nil)) (pe_one (pe_chain op_le op_le (pv 1) (pv 0) (pv 2)))))), ?_⟩
    refine ⟨_, rfl, v, n, rfl, ty, k1, k2, _, rfl, ?_⟩
    by_cases e : n = "int"
    · obtain ⟨i, rfl⟩ := hn e
      refine (if_pos (decide_eq_true e)).mpr ?_
      refine ⟨_, rfl, _, rfl, _, _, rfl, rfl, _, rfl, ?_⟩
      by_cases h1 : lo ≤ i
      · refine (if_pos (decide_eq_true h1)).mpr ⟨_, rfl, _, _, rfl, rfl, ?_⟩
        have e : wholeV (.int i) lo hi = decide (i ≤ hi) := by show (decide (lo ≤ i) && decide (i ≤ hi)) = _; rw [decide_eq_true h1, Bool.true_and]
        rw [e] at q
        exact q
      · refine (if_neg (fun z => h1 (of_decide_eq_true z))).mpr ?_
        have e : wholeV (.int i) lo hi = false := by show (decide (lo ≤ i) && decide (i ≤ hi)) = _; rw [decide_eq_false h1, Bool.false_and]
        rw [e] at q
        exact q
    · refine (if_neg (fun z => e (of_decide_eq_true z))).mpr ?_
      have ev : wholeV v lo hi = false := by
        cases v with
        | int i => exact absurd (hn2 i rfl) e
        | _ => rfl
      rw [ev] at q
      exact q
theorem c_is_whole (T : Txt K w mg) (D : DefAt K "is_whole" s_is_whole) (D2 : DefAt K "is_any_whole" s_is_any_whole) : Cal P w K mg base CX0 2 "is_whole" (spIsWhole K) :=
  (c_is_wholeV T D (c_any_whole T D2)).imp fun vs H Q E h => by
    obtain ⟨v, d, lo, hi, e, hd, q⟩ := h
    exact ⟨v, lo, hi, e, any_dp hd, by rw [whole_dp hd]; exact q⟩

def shapeD (d : PyData) : Bool := match d with
  | .tuple (.str w :: ps) => match shapeOf w with
    | some l => decide (ps.length = l.length)
    | none => false
  | _ => false
def fitsD (d : PyData) (size count : Int) : Bool := match d with
  | .tuple (.str w :: ps) => match shapeOf w with
    | some l => decide (ps.length = l.length) && fitK size count l ps
    | none => false
  | _ => false
/-- what stands of a thing that has the shape of a row -/
theorem shapeD_yes {H : Hp} {v : V} {d : PyData} (hd : Dp K H v d) (h : shapeD d = true) : ∃ (w : Str) (ps : List PyData) (l : List Str) (p : Addr) (vs : List V), d = .tuple (.str w :: ps) ∧ shapeOf w = some l ∧ ps.length = l.length ∧ v = .ref p ∧ SqT K H p (.str w :: vs) ∧ DpAll K H vs ps := by
  cases hd with
  | tup q a =>
    cases a with
    | nil => cases h
    | cons a1 a2 =>
      cases a1 with
      | str w =>
        cases e : shapeOf w with
        | none => simp only [shapeD, e] at h; cases h
        | some l =>
          simp only [shapeD, e] at h
          exact ⟨w, _, l, _, _, rfl, e, of_decide_eq_true h, rfl, q, a2⟩
      | _ => cases h
  | _ => cases h
def spHasShape (K : PySem.W.Frag) : Sp := fun vs H Q _ => ∃ (v : V) (d : PyData), vs = [v] ∧ Dp K H v d ∧ Q (.bl (shapeD d)) H
abbrev s__has_shape : Stmt := top 17
abbrev N__has_shape : List Str := ["row", "word"]
theorem S__has_shape : FnScope N__has_shape ["row"] (defScope s__has_shape) := ⟨rfl, rfl, rfl, by decide +kernel, rfl, by decide +kernel, by decide +kernel⟩

theorem c_has_shape {dS : Addr} (T : Txt K w mg) (Z : Shapes K w mg dS) (D : DefAt K "_has_shape" s__has_shape) : Cal P w K mg base CX0 1 "_has_shape" (spHasShape K) := by
  have S := S__has_shape
  obtain ⟨es, n, dShapes⟩ := Z.d
  have gShapes := Z.g
  refine cal_of T.toTop D S (fun _ _ _ _ _ _ us hl => match us, hl with | [_], _ => rfl) (fun vs H Q E h => ?_) (fun f cdv A outer s H vs Q E hr h => ?_)
  · obtain ⟨v, d, rfl, _⟩ := h
    rfl
  · obtain ⟨v, d, rfl, hd, q⟩ := h
    refine ⟨_, (pss_cons (ps_if (PW.pt (pw_or (pt_not (pt_val (pe_callB call_isi (by rfl) T.isinstance (by decide +kernel) (pa_cons (pv 0) (pa_cons ((pe_bltn (v := .ty "tuple") (u := .type "tuple") rfl T.tuple (by decide +kernel) rfl)) pa_nil))))) (pw_or1 (pt_cmpR op_eq (pe_callB call_len_seq (by rfl) T.len PySem.boot_len (pa_cons (pv 0) pa_nil)) pe_int (nomark _))))) (pss_one (ps_ret pe_bl)) pss_nil)
  (pss_cons (ps_set (i := 1) S.nd rfl (Or.inl rfl) (pe_ix ix_tup (pv 0) pe_int (fun _ _ => rfl)))
  (pss_cons (ps_if (PW.pt (pw_or (pt_not (pt_val (pe_callB call_isi (by rfl) T.isinstance (by decide +kernel) (pa_cons (pv 1) (pa_cons ((pe_bltn (v := .ty "str") (u := .type "str") rfl T.str (by decide +kernel) rfl)) pa_nil))))) (pw_or1 (pt_cmpR (op_notIn_kd dShapes) (pv 1) ((pe_glob (v := .ref dS) rfl gShapes rfl)) (by with_unfolding_all rfl))))) (pss_one (ps_ret pe_bl)) pss_nil)
  (pss_one (ps_ret (pe_cmpR op_eq (pe_callB call_len_seq (by rfl) T.len PySem.boot_len (pa_cons (pv 0) pa_nil)) (pe_op op_add pe_int (pe_callB call_len_seq (by rfl) T.len PySem.boot_len (pa_cons (pe_ix ix_kdict ((pe_glob (v := .ref dS) rfl gShapes rfl)) (pv 1) (fun _ _ => rfl)) pa_nil))) (nomark _))))))), ?_⟩
    have ty := dp_ty hd
    refine ⟨_, rfl, _, _, _, _, _, rfl, .ty _, ty, kit_ty (kit_tup d), _, rfl, ?_⟩
    cases hd with
    | tup hq a =>
      cases a with
      | nil => exact ⟨_, rfl, _, _, rfl, .inr hq, rfl, true, rfl, q⟩
      | @cons v1 vs1 d1 ds1 a1 a2 =>
        refine ⟨_, rfl, _, _, rfl, .inr hq, rfl, false, bl_of (decide_eq_false fun z => by have := V.int.inj z; simp only [List.length_cons] at this; omega), ?_⟩
        refine ⟨_, rfl, _, _, _, _, rfl, rfl, hq, at_in (by decide) rfl, ?_⟩
        refine ⟨_, rfl, _, _, _, _, _, rfl, .ty _, dp_ty a1, kit_ty (kit_str _), _, rfl, ?_⟩
        cases a1 with
        | str w =>
          cases eS : shapeOf w with
          | none =>
            simp only [shapeD, eS] at q
            exact ⟨_, rfl, _, _, rfl, rfl, Z.no _ eS, _, rfl, q⟩
          | some l =>
            simp only [shapeD, eS] at q
            obtain ⟨t, hk, hT⟩ := Z.get eS
            obtain ⟨t', eN, _⟩ := Z.yes _ _ eS
            refine ⟨_, rfl, _, _, rfl, rfl, eN, false, rfl, ?_⟩
            refine ⟨_, rfl, _, _, rfl, .inr hq, _, rfl, _, _, _, rfl, rfl, hk, t, _, rfl, .inr (hT _), _, _, rfl, rfl, rfl, ?_⟩
            have hl := dpA_len a2
            rw [← hl] at q
            have e : decide (V.int (((V.str w :: vs1).length : Nat) : Int) = V.int (1 + (((l.map V.str).length : Nat) : Int))) = decide (vs1.length = l.length) := by
              rw [Bool.eq_iff_iff, decide_eq_true_eq, decide_eq_true_eq, List.length_cons, List.length_map]
              exact ⟨fun h => by have := V.int.inj h; omega, fun h => congrArg V.int (by omega)⟩
            exact (congrArg (fun b => Q (.bl b) H) e).mpr q
        | _ => exact q
    | _ => exact q

theorem fitsD_no {d : PyData} {size count : Int} (h : shapeD d = false) : fitsD d size count = false := by
  match d, h with
  | .tuple (.str w :: ps), h =>
    simp only [shapeD] at h
    simp only [fitsD]
    cases e : shapeOf w with
    | none => rfl
    | some l =>
      simp only [e] at h ⊢
      rw [h, Bool.false_and]
  | .none, _ | .bool _, _ | .int _, _ | .str _, _ | .list _, _ | .dict _, _ | .tuple [], _ => rfl
  | .tuple (.none :: _), _ | .tuple (.bool _ :: _), _ | .tuple (.int _ :: _), _ | .tuple (.list _ :: _), _ | .tuple (.dict _ :: _), _ | .tuple (.tuple _ :: _), _ => rfl
theorem fitsD_yes {w : Str} {ps : List PyData} {l : List Str} {size count : Int} (e : shapeOf w = some l) (hl : ps.length = l.length) : fitsD (.tuple (.str w :: ps)) size count = fitK size count l ps := by
  simp only [fitsD, e, decide_eq_true hl, Bool.true_and]
theorem last_val (a b c : V) {k : Str} (h : k = "box" ∨ k = "number" ∨ k = "place") : valV (mergeK [] [(.inr "box", a), (.inr "number", b), (.inr "place", c)]) (.inr k) = some (if k = "box" then a else if k = "number" then b else c) := by
  rcases h with rfl | rfl | rfl <;> rfl
theorem shape_kinds {z : Str} {l : List Str} (e : shapeOf z = some l) : ∀ k ∈ l, k = "box" ∨ k = "number" ∨ k = "place" := sTab_cases (P := fun _ l => ∀ k ∈ l, k = "box" ∨ k = "number" ∨ k = "place") (by decide +kernel) e
def spFits (K : PySem.W.Frag) : Sp := fun vs H Q _ => ∃ (v : V) (d : PyData) (size count : Int), vs = [v, .int size, .int count] ∧ Dp K H v d ∧ ∀ H', Same H H' → Q (.bl (fitsD d size count)) H'
abbrev s_fits : Stmt := top 16
abbrev N_fits : List Str := ["row", "size", "count", "last", "kinds", "thing", "kind"]
theorem S_fits : FnScope N_fits ["row", "size", "count"] (defScope s_fits) := ⟨rfl, rfl, rfl, by decide +kernel, rfl, by decide +kernel, by decide +kernel⟩

theorem c_fits {dS : Addr} (T : Txt K w mg) (Z : Shapes K w mg dS) (gRound : ∃ t, mg "ROUND" = some (.int 1000000 t)) (D : DefAt K "fits" s_fits) (C_is_whole : Cal P w K mg base CX0 2 "is_whole" (spIsWhole K)) (C__has_shape : Cal P w K mg base CX0 1 "_has_shape" (spHasShape K)) : Cal P w K mg base CX0 3 "fits" (spFits K) := by
  have S := S_fits
  obtain ⟨es, n, dShapes⟩ := Z.d
  obtain ⟨tR, gRound⟩ := gRound
  have gShapes := Z.g
  refine cal_of T.toTop D S (fun _ _ _ _ _ _ us hl => match us, hl with | [_, _, _], _ => rfl) (fun vs H Q E h => ?_) (fun f cdv A outer s H vs Q E hr h => ?_)
  · obtain ⟨v, d, size, count, rfl, _⟩ := h
    rfl
  · obtain ⟨v, d, size, count, rfl, hd, q⟩ := h
    refine ⟨_, (pss_cons (ps_if (pt_not (pt_val (pe_c C__has_shape hr (by decide) rfl (pa_cons (pv 0) pa_nil)))) (pss_one (ps_ret pe_bl)) pss_nil)
  (pss_cons (ps_set (i := 3) S.nd rfl (Or.inr rfl) (pe_disp (pps_cons pe_str (pe_op op_sub (pv 1) pe_int) (pps_cons pe_str (pe_op op_sub ((pe_glob (v := .int 1000000) rfl gRound ⟨_, rfl⟩)) pe_int) (pps_cons pe_str (pv 2) pps_nil))) (by rfl) (by rfl) (fun z => by cases z) (by decide)))
  (pss_cons (ps_set (i := 4) S.nd rfl (Or.inl rfl) (pe_ix ix_kdict ((pe_glob (v := .ref dS) rfl gShapes rfl)) (pe_ix ix_tup (pv 0) pe_int (fun _ _ => rfl)) (fun _ _ => rfl)))
  (pss_one (ps_ret (pe_callB (cr_all rfl) (by rfl) T.all (by decide +kernel) (pa_cons (pe_lc (own := [("thing", 5), ("kind", 6)]) (g := gTup K 2 (gCons (gName 5) (gCons (gName 6) gNil))) (tt := tYes) rfl S.nd (RZ.pi_zipA (by rfl) T.zip (pa_cons (pe_slice sl_tupA (pv 0) (po_some pe_int) po_none) (pa_cons (pv 4) pa_nil))) (blkOk_by (own := [("thing", 5), ("kind", 6)]) (N := N_fits) (sc := defScope s_fits) (by decide +kernel)) (fun _ _ _ _ _ => by exact pg_tup rfl (pgs_cons (pg_name (i := 5) S.nd rfl (Or.inl rfl)) (pgs_cons (pg_name (i := 6) S.nd rfl (Or.inl rfl)) pgs_nil))) (fun _ _ _ _ _ => pts_nil) (fun _ _ _ _ _ => (pe_c C_is_whole hr (by decide) rfl (pa_cons (pv 5) (pa_cons pe_int (pa_cons (pe_dget (hu_of hr) (pv 3) (pv 6) (fun _ _ => rfl)) pa_nil)))))) pa_nil))))))), ?_⟩
    refine ⟨_, rfl, v, d, rfl, hd, _, rfl, ?_⟩
    cases hs : shapeD d with
    | false =>
      have := q H (Same.refl _)
      rw [fitsD_no hs] at this
      exact this
    | true =>
      obtain ⟨wd, ps, l, p, vs, rfl, eS, hl, rfl, hq, ha⟩ := shapeD_yes hd hs
      rw [fitsD_yes eS hl] at q
      obtain ⟨t, hk, hT⟩ := Z.get eS
      refine fun p1 n1 => ?_
      refine ⟨_, rfl, _, _, rfl, rfl, _, _, rfl, rfl, _, rfl, ?_⟩
      refine ⟨upd_same, [(.inr "box", .int (size - 1)), (.inr "number", .int (1000000 - 1)), (.inr "place", .int count)], rfl, (show 3 ≤ 15 by decide), ?_⟩
      generalize e1 : upd (upd H p1 _) p1 _ = H1
      have h1 : H1 p1 = some (.dK (mergeK [] [(.inr "box", .int (size - 1)), (.inr "number", .int (1000000 - 1)), (.inr "place", .int count)])) := e1 ▸ upd_same
      have s1 : Same H H1 := e1 ▸ (Same.new n1).mut n1
      refine ⟨_, rfl, p, _, _, _, rfl, rfl, s1.sqt hq, at_in (v := .str wd) (by decide) rfl, _, _, _, rfl, rfl, hk, ?_⟩
      have hne : ¬ (HT.sIx (V.str wd :: vs).length 0 (some 1) = 0 ∧ HT.sIx (V.str wd :: vs).length (V.str wd :: vs).length none = (V.str wd :: vs).length) := fun h => by
        have e1 := HT.sIx_nat (V.str wd :: vs).length 0 1
        rw [show ((1 : Nat) : Int) = 1 from rfl, h.1] at e1
        simp only [List.length_cons] at e1
        omega
      refine ⟨_, rfl, 1, rfl, p, _, rfl, s1.sqt hq, fun h => absurd h hne, fun _ p2 n2 => ?_⟩
      rw [cutV_1]
      have s2 := s1.more (o := .tup vs) n2
      have h2 : upd H1 p2 (.tup vs) p2 = some (.tup vs) := upd_same
      have h1' : upd H1 p2 (.tup vs) p1 = some (.dK (mergeK [] [(.inr "box", .int (size - 1)), (.inr "number", .int (1000000 - 1)), (.inr "place", .int count)])) := Same.new n2 _ _ h1
      generalize upd H1 p2 (.tup vs) = H2 at s2 h2 h1'
      have hvl : vs.length = l.length := (dpA_len ha).trans hl
      have hl3 := (shape_len eS).2
      refine ⟨_, rfl, p2, t, vs, l.map V.str, rfl, .inr ⟨SqT.of h2, hT _, fun p3 n3 => lc_gen l.length (fun i x H => ∃ (T : Addr) (a b : V), x = .ref T ∧ H T = some (.tup [a, b]) ∧ vs[i]? = some a ∧ (l.map V.str)[i]? = some b)
        (fun k => some (.bl (wholeIn (ps.getD k .none) 0 (lastOf size count (l.getD k Str.empty))))) n3 (small1000 (by omega)) (fun i H' hi s => ?_) (fun H' s => ⟨vs, _, SqT.of (s _ _ h2), hT _, .inl (by omega)⟩) (fun i H' x H'' hi s y => ?_) (fun i x H' hi s r k1 k0 g1 g0 => ?_) (fun H3 s3 h3 => ?_)⟩⟩
      · exact ⟨vs, l.map V.str, vs[i], (l.map V.str)[i]'(by rw [List.length_map]; exact hi), SqT.of (s _ _ h2), hT _, List.getElem?_eq_getElem (by omega), List.getElem?_eq_getElem _⟩
      · obtain ⟨T', x', y', rfl, hn, rfl, hx, hy⟩ := y
        exact ⟨Same.new hn, T', x', y', rfl, upd_same, hx _ (SqT.of (s _ _ h2)), hy _ (hT _)⟩
      · obtain ⟨T', x', y', rfl, hn, hx, hy⟩ := r
        obtain ⟨d', ed, hd'⟩ := dpA_get ha hx
        rw [List.getElem?_map] at hy
        obtain ⟨k', ek, rfl⟩ := Option.map_eq_some_iff.mp hy
        have hd2 := dp_same (s2.trans s) _ _ hd'
        have hkk := shape_kinds eS k' (List.mem_of_getElem? ek)
        refine ⟨T', _, rfl, SqT.of hn, rfl, _, _, rfl, _, _, rfl, rfl, rfl, ?_⟩
        have hg : DGet H' p1 (.str k') (some (V.int (lastOf size count k'))) := by
          have := DGet.k (k := .inr k') (s _ _ h1')
          rw [last_val _ _ _ hkk] at this
          rcases hkk with rfl | rfl | rfl <;> exact this
        have e : (some (V.bl (wholeIn (ps.getD i .none) 0 (lastOf size count (l.getD i Str.empty)))) : Option V) = some (.bl (wholeIn d' 0 (lastOf size count k'))) := by
          rw [List.getD_eq_getElem?_getD, List.getD_eq_getElem?_getD, ed, ek]
          rfl
        exact ⟨_, rfl, _, rfl, _, rfl, p1, _, rfl, hg, _, d', 0, _, rfl, hd2, g1 _ _ e (Same.refl _)⟩
      · rw [fm_some, show (fun k => V.bl (wholeIn (ps.getD k .none) 0 (lastOf size count (l.getD k Str.empty)))) = V.bl ∘ (fun k => wholeIn (ps.getD k .none) 0 (lastOf size count (l.getD k Str.empty))) from rfl, ← List.map_map] at h3
        refine ⟨p3, _, rfl, SqL.of h3, ?_⟩
        rw [List.all_map]
        exact q _ (s2.trans s3)

def txtOf (n : Int) : Str := Str.ofString (toString n)
theorem txt_len {n : Int} (h0 : 0 ≤ n) (h1 : n < 1000000) : (txtOf n).length ≤ 6 := by
  have e : n = ((n.toNat : Nat) : Int) := (Int.toNat_of_nonneg h0).symm
  unfold txtOf
  rw [e]
  have q : (TL.tl (Str.ofString (toString ((n.toNat : Nat) : Int)))).length ≤ 6 := by
    rw [TL.tl_num]
    exact TL.numL_len (by decide) (by omega)
  exact q
theorem log_small {n : Int} (h0 : 0 ≤ n) (h1 : n < 1000000) : n.natAbs.log2 < 1920 := by
  have h : n.natAbs < 2 ^ 20 := by omega
  rcases Nat.eq_zero_or_pos n.natAbs with e | e
  · rw [e]; decide
  · have := (Nat.log2_lt (by omega)).mpr h
    omega

theorem app_sz {a b : Str} {n m k : Nat} (ha : a.length ≤ n) (hb : b.length ≤ m) (h : n + m ≤ k) : (a ++ b).length ≤ k := by
  have e : (a ++ b).length = a.length + b.length := by
    show (a.cps ++ b.cps).size = a.cps.size + b.cps.size
    exact Array.size_append
  omega

def goodR (ds : List PyData) (size : Int) : Bool := decide (ds.length ≤ 200) && ds.all fun d => fitsD d size (ds.length : Nat)
def spChecked (K : PySem.W.Frag) (CB : Addr) : Sp := fun vs H Q E => ∃ (g : Addr) (xs : List V) (ds : List PyData) (size : Int), vs = [.ref g, .int size] ∧ SqL K H g xs ∧ DpAll K H xs ds ∧ xs.length ≤ 1000 ∧
  (goodR ds size = true → ∀ H' p, Same H H' → H p = none → H' p = some (.lst xs) → Q (.ref p) H') ∧ (goodR ds size = false → ∀ H', Same H H' → E (.ref CB) none H')
abbrev s_checked : Stmt := top 18
abbrev N_checked : List Str := ["rows", "size", "place", "row"]
theorem S_checked : FnScope N_checked ["rows", "size"] (defScope s_checked) := ⟨rfl, rfl, rfl, by decide +kernel, rfl, by decide +kernel, by decide +kernel⟩

theorem c_checked {CB : Addr} (T : Txt K w mg) (X_BadRow : ExcT K mg "BadRow" CB) (gMost : ∃ t, mg "MOST" = some (.int 200 t)) (D : DefAt K "checked" s_checked) (C_fits : Cal P w K mg base CX0 3 "fits" (spFits K)) : Cal P w K mg base (L2.CX P w) 4 "checked" (spChecked K CB) := by
  have S := S_checked
  obtain ⟨tM, gMost⟩ := gMost
  refine cal_ofX T.toTop D S (fun _ _ _ _ _ _ us hl => match us, hl with | [_, _], _ => rfl) (fun vs H Q E h => ?_) (fun f cdv A outer s H vs Q E hr h => ?_)
  · obtain ⟨g, xs, ds, size, rfl, _⟩ := h
    rfl
  · obtain ⟨g, xs, ds, size, rfl, hS, ha, hz, hq, he⟩ := h
    have hl := dpA_len ha
    refine ⟨_, (pss_cons (ps_if (pt_cmpR op_gt (pe_callB call_len_seq (by rfl) T.len PySem.boot_len (pa_cons (pv 0) pa_nil)) ((pe_glob (v := .int 200) rfl gMost ⟨_, rfl⟩)) (nomark _)) (pss_one (ps_raise rfl (takes_of rfl rfl rfl rfl) (SkE.pmk_own1 PySem.F.excBase_ValueError X_BadRow.x X_BadRow.g X_BadRow.k (raises_own X_BadRow.b X_BadRow.t) rfl (pe_joined (.cons pe_str (.cons (pe_fmt ((pe_glob (v := .int 200) rfl gMost ⟨_, rfl⟩))) (.cons pe_str (.cons (pe_fmt (pe_callB call_len_seq (by rfl) T.len PySem.boot_len (pa_cons (pv 0) pa_nil))) .nil)))))))) pss_nil)
  (pss_cons (ps_for (g := gTup K 2 (gCons (gName 2) (gCons (gName 3) gNil))) (passes_of rfl) rfl (pi_enum (by rfl) T.enumerate (pa_cons (pv 0) pa_nil)) (by exact (pg_tup rfl (pgs_cons (pg_name (i := 2) S.nd rfl (Or.inl rfl)) (pgs_cons (pg_name (i := 3) S.nd rfl (Or.inl rfl)) pgs_nil))))
  (pss_one (ps_if (pt_not (pt_val (pe_c C_fits hr (by decide) rfl (pa_cons (pv 3) (pa_cons (pv 1) (pa_cons (pe_callB call_len_seq (by rfl) T.len PySem.boot_len (pa_cons (pv 0) pa_nil)) pa_nil)))))) (pss_one (ps_raise rfl (takes_of rfl rfl rfl rfl) (SkE.pmk_own1 PySem.F.excBase_ValueError X_BadRow.x X_BadRow.g X_BadRow.k (raises_own X_BadRow.b X_BadRow.t) rfl (pe_joined (.cons pe_str (.cons (pe_fmt (pv 2)) (.cons pe_str .nil))))))) pss_nil)))
  (pss_one (ps_ret (pe_callTy call_list_of (by rfl) T.list (by decide +kernel) (pa_cons (pv 0) pa_nil)))))), ?_⟩
    refine ⟨_, rfl, g, xs, rfl, .inl hS, _, _, rfl, rfl, ?_⟩
    by_cases hm : xs.length ≤ 200
    · refine ⟨false, bl_of (decide_eq_false (by omega)), ?_⟩
      refine ⟨_, rfl, g, xs, rfl, hS, for_gen xs.length (fun i σ H' => Same H H' ∧ (∃ v1 v2, σ = [some (.ref g), some (.int size), v1, v2]) ∧ ∀ d ∈ ds.take i, fitsD d size (ds.length : Nat) = true) ⟨Same.refl _, ⟨_, _, rfl⟩, fun d h => by simp at h⟩ (fun i σ H' hi h => ?_) (fun σ H' h => ⟨xs, h.1.seq hS, Nat.le_refl _⟩) (fun i σ H' y H'' hi h hy => ?_) (fun σ H' h => ?_)⟩
      · exact ⟨xs, xs[i], h.1.seq hS, List.getElem?_eq_getElem hi⟩
      · obtain ⟨s1, ⟨v1, v2, rfl⟩, hall⟩ := h
        obtain ⟨T', x, rfl, hn, rfl, hx⟩ := hy
        have hx := hx _ (s1.seq hS)
        obtain ⟨d, ed, hd⟩ := dpA_get ha hx
        have s2 := s1.more (o := .tup [.int (i : Nat), x]) hn
        refine ⟨T', _, rfl, SqT.of upd_same, rfl, _, _, rfl, _, _, rfl, rfl, ?_⟩
        refine ⟨_, rfl, _, rfl, _, rfl, g, xs, rfl, .inl (s2.seq hS), x, d, size, _, rfl, dp_same s2 _ _ hd, fun H3 s3 => ?_⟩
        rw [hl]
        refine ⟨_, rfl, ?_⟩
        cases hf : fitsD d size (ds.length : Nat) with
        | true =>
          refine ⟨s2.trans s3, ⟨_, _, rfl⟩, fun d' hd' => ?_⟩
          rw [List.take_add_one, ed] at hd'
          rcases List.mem_append.mp hd' with h | h
          · exact hall d' h
          · rw [Option.toList_some, List.mem_singleton] at h
            rw [h]
            exact hf
        | false =>
          have hb : goodR ds size = false := by
            unfold goodR
            rw [Bool.and_eq_false_iff]
            exact .inr (Bool.eq_false_iff.mpr fun h => by
              have := List.all_eq_true.mp h d (List.mem_of_getElem? ed)
              rw [hf] at this
              cases this)
          refine ⟨_, rfl, by decide +kernel, ?_⟩
          refine ⟨_, rfl, .inr ⟨(i : Nat), rfl, log_small (by omega) (by omega), _, rfl, ?_, ?_⟩⟩
          · exact app_sz (n := 4) (m := 6) (by decide +kernel) (txt_len (by omega) (by omega)) (by decide)
          · exact ⟨_, rfl, app_sz (n := 10) (m := 13) (app_sz (n := 4) (m := 6) (by decide +kernel) (txt_len (by omega) (by omega)) (by decide)) (by decide +kernel) (by decide), he hb _ (s2.trans s3)⟩
      · obtain ⟨s1, ⟨v1, v2, rfl⟩, hall⟩ := h
        have hg : goodR ds size = true := by
          unfold goodR
          rw [decide_eq_true (by omega : ds.length ≤ 200), Bool.true_and]
          rw [hl, List.take_length] at hall
          exact List.all_eq_true.mpr hall
        refine ⟨_, rfl, g, xs, rfl, .inl (s1.seq hS), fun l np => hq hg _ l (s1.more np) (s1.free np) upd_same⟩
    · have hb : goodR ds size = false := by
        unfold goodR
        rw [decide_eq_false (by omega : ¬ ds.length ≤ 200), Bool.false_and]
      refine ⟨true, bl_of (decide_eq_true (by omega)), ?_⟩
      refine ⟨_, rfl, by decide +kernel, ?_⟩
      refine .inr ⟨200, rfl, by decide, _, rfl, by decide +kernel, ?_⟩
      refine ⟨_, rfl, by decide +kernel, _, rfl, g, xs, rfl, .inl hS, .inr ⟨_, rfl, log_small (by omega) (by omega), _, rfl, ?_, he hb _ (Same.refl _)⟩⟩
      exact app_sz (n := 100) (m := 6) (by decide +kernel) (txt_len (by omega) (by omega)) (by decide)

def goodB (ds : List PyData) : Bool := decide (1 ≤ ds.length) && (decide (ds.length ≤ 200) && ds.all fun d => wholeIn d 0 999999)
def spCheckedB (K : PySem.W.Frag) (CB : Addr) : Sp := fun vs H Q E => ∃ (g : Addr) (xs : List V) (ds : List PyData), vs = [.ref g] ∧ SqL K H g xs ∧ DpAll K H xs ds ∧ xs.length ≤ 1000 ∧
  (goodB ds = true → ∀ H' p, Same H H' → H p = none → H' p = some (.lst xs) → Q (.ref p) H') ∧ (goodB ds = false → ∀ H', Same H H' → E (.ref CB) none H')
abbrev s_checked_boxes : Stmt := top 13
abbrev N_checked_boxes : List Str := ["boxes", "box", "number"]
theorem S_checked_boxes : FnScope N_checked_boxes ["boxes"] (defScope s_checked_boxes) := ⟨rfl, rfl, rfl, by decide +kernel, rfl, by decide +kernel, by decide +kernel⟩

theorem c_checked_boxes {CB : Addr} (T : Txt K w mg) (X_BadBoxes : ExcT K mg "BadBoxes" CB) (gMost : ∃ t, mg "MOST" = some (.int 200 t)) (gRound : ∃ t, mg "ROUND" = some (.int 1000000 t)) (D : DefAt K "checked_boxes" s_checked_boxes) (C_is_whole : Cal P w K mg base CX0 2 "is_whole" (spIsWhole K)) : Cal P w K mg base (L2.CX P w) 3 "checked_boxes" (spCheckedB K CB) := by
  have S := S_checked_boxes
  obtain ⟨tM, gMost⟩ := gMost
  obtain ⟨tR, gRound⟩ := gRound
  refine cal_ofX T.toTop D S (fun _ _ _ _ _ _ us hl => match us, hl with | [_], _ => rfl) (fun vs H Q E h => ?_) (fun f cdv A outer s H vs Q E hr h => ?_)
  · obtain ⟨g, xs, ds, rfl, _⟩ := h
    rfl
  · obtain ⟨g, xs, ds, rfl, hS, ha, hz, hq, he⟩ := h
    have hl := dpA_len ha
    refine ⟨_, (pss_cons (ps_if (pt_not (pt_chain op_le op_le pe_int (pe_callB call_len_seq (by rfl) T.len PySem.boot_len (pa_cons (pv 0) pa_nil)) ((pe_glob (v := .int 200) rfl gMost ⟨_, rfl⟩)))) (pss_one (ps_raise rfl (takes_of rfl rfl rfl rfl) (SkE.pmk_own1 PySem.F.excBase_ValueError X_BadBoxes.x X_BadBoxes.g X_BadBoxes.k (raises_own X_BadBoxes.b X_BadBoxes.t) rfl (pe_joined (.cons pe_str (.cons (pe_fmt ((pe_glob (v := .int 200) rfl gMost ⟨_, rfl⟩))) (.cons pe_str (.cons (pe_fmt (pe_callB call_len_seq (by rfl) T.len PySem.boot_len (pa_cons (pv 0) pa_nil))) .nil)))))))) pss_nil)
  (pss_cons (ps_for (g := gTup K 2 (gCons (gName 1) (gCons (gName 2) gNil))) (passes_of rfl) rfl (pi_enum (by rfl) T.enumerate (pa_cons (pv 0) pa_nil)) (by exact (pg_tup rfl (pgs_cons (pg_name (i := 1) S.nd rfl (Or.inl rfl)) (pgs_cons (pg_name (i := 2) S.nd rfl (Or.inl rfl)) pgs_nil))))
  (pss_one (ps_if (pt_not (pt_val (pe_c C_is_whole hr (by decide) rfl (pa_cons (pv 2) (pa_cons pe_int (pa_cons (pe_op op_sub ((pe_glob (v := .int 1000000) rfl gRound ⟨_, rfl⟩)) pe_int) pa_nil)))))) (pss_one (ps_raise rfl (takes_of rfl rfl rfl rfl) (SkE.pmk_own1 PySem.F.excBase_ValueError X_BadBoxes.x X_BadBoxes.g X_BadBoxes.k (raises_own X_BadBoxes.b X_BadBoxes.t) rfl (pe_joined (.cons pe_str (.cons (pe_fmt (pv 1)) (.cons pe_str (.cons (pe_fmt (pe_op op_sub ((pe_glob (v := .int 1000000) rfl gRound ⟨_, rfl⟩)) pe_int)) .nil)))))))) pss_nil)))
  (pss_one (ps_ret (pe_callTy call_list_of (by rfl) T.list (by decide +kernel) (pa_cons (pv 0) pa_nil)))))), ?_⟩
    have out : ∀ H', Same H H' → goodB ds = false → E (.ref CB) none H' := fun H' s hb => he hb H' s
    refine ⟨_, rfl, g, xs, rfl, .inl hS, _, _, rfl, rfl, ?_⟩
    by_cases h1 : 1 ≤ xs.length
    case neg =>
      have hb : goodB ds = false := by
        unfold goodB
        rw [decide_eq_false (by omega : ¬ 1 ≤ ds.length), Bool.false_and]
      refine ⟨false, bl_of (decide_eq_false (by omega)), _, rfl, ?_⟩
      refine ⟨_, rfl, by decide +kernel, ?_⟩
      refine .inr ⟨200, rfl, by decide, _, rfl, by decide +kernel, ?_⟩
      refine ⟨_, rfl, by decide +kernel, _, rfl, g, xs, rfl, .inl hS, .inr ⟨_, rfl, log_small (by omega) (by omega), _, rfl, ?_, he hb _ (Same.refl _)⟩⟩
      exact app_sz (n := 100) (m := 6) (by decide +kernel) (txt_len (by omega) (by omega)) (by decide)
    refine ⟨true, bl_of (decide_eq_true (by omega)), _, _, rfl, rfl, ?_⟩
    by_cases h2 : xs.length ≤ 200
    case neg =>
      have hb : goodB ds = false := by
        unfold goodB
        rw [decide_eq_false (by omega : ¬ ds.length ≤ 200), Bool.false_and, Bool.and_false]
      refine ⟨false, bl_of (decide_eq_false (by omega)), ?_⟩
      refine ⟨_, rfl, by decide +kernel, ?_⟩
      refine .inr ⟨200, rfl, by decide, _, rfl, by decide +kernel, ?_⟩
      refine ⟨_, rfl, by decide +kernel, _, rfl, g, xs, rfl, .inl hS, .inr ⟨_, rfl, log_small (by omega) (by omega), _, rfl, ?_, he hb _ (Same.refl _)⟩⟩
      exact app_sz (n := 100) (m := 6) (by decide +kernel) (txt_len (by omega) (by omega)) (by decide)
    refine ⟨true, bl_of (decide_eq_true (by omega)), ?_⟩
    refine ⟨_, rfl, g, xs, rfl, hS, for_gen xs.length (fun i σ H' => Same H H' ∧ (∃ v1 v2, σ = [some (.ref g), v1, v2]) ∧ ∀ d ∈ ds.take i, wholeIn d 0 999999 = true) ⟨Same.refl _, ⟨_, _, rfl⟩, fun d h => by simp at h⟩ (fun i σ H' hi h => ?_) (fun σ H' h => ⟨xs, h.1.seq hS, Nat.le_refl _⟩) (fun i σ H' y H'' hi h hy => ?_) (fun σ H' h => ?_)⟩
    · exact ⟨xs, xs[i], h.1.seq hS, List.getElem?_eq_getElem hi⟩
    · obtain ⟨s1, ⟨v1, v2, rfl⟩, hall⟩ := h
      obtain ⟨T', x, rfl, hn, rfl, hx⟩ := hy
      have hx := hx _ (s1.seq hS)
      obtain ⟨d, ed, hd⟩ := dpA_get ha hx
      have s2 := s1.more (o := .tup [.int (i : Nat), x]) hn
      refine ⟨T', _, rfl, SqT.of upd_same, rfl, _, _, rfl, _, _, rfl, rfl, ?_⟩
      refine ⟨_, rfl, _, _, rfl, rfl, x, d, 0, _, rfl, dp_same s2 _ _ hd, ?_⟩
      rw [show ((1000000 : Int) - 1) = 999999 from rfl]
      refine ⟨_, rfl, ?_⟩
      cases hf : wholeIn d 0 999999 with
      | true =>
        refine ⟨s2, ⟨_, _, rfl⟩, fun d' hd' => ?_⟩
        rw [List.take_add_one, ed] at hd'
        rcases List.mem_append.mp hd' with h | h
        · exact hall d' h
        · rw [Option.toList_some, List.mem_singleton] at h
          rw [h]
          exact hf
      | false =>
        have hb : goodB ds = false := by
          unfold goodB
          rw [Bool.and_eq_false_iff, Bool.and_eq_false_iff]
          exact .inr (.inr (Bool.eq_false_iff.mpr fun h => by
            have := List.all_eq_true.mp h d (List.mem_of_getElem? ed)
            rw [hf] at this
            cases this))
        refine ⟨_, rfl, by decide +kernel, ?_⟩
        refine ⟨_, rfl, .inr ⟨(i : Nat), rfl, log_small (by omega) (by omega), _, rfl, ?_, ?_⟩⟩
        · exact app_sz (n := 4) (m := 6) (by decide +kernel) (txt_len (by omega) (by omega)) (by decide)
        · refine ⟨_, rfl, app_sz (n := 10) (m := 40) (app_sz (n := 4) (m := 6) (by decide +kernel) (txt_len (by omega) (by omega)) (by decide)) (by decide +kernel) (by decide), ?_⟩
          refine ⟨_, _, rfl, rfl, .inr ⟨_, rfl, log_small (by decide) (by decide), _, rfl, ?_, he hb _ s2⟩⟩
          exact app_sz (n := 50) (m := 6) (app_sz (n := 10) (m := 40) (app_sz (n := 4) (m := 6) (by decide +kernel) (txt_len (by omega) (by omega)) (by decide)) (by decide +kernel) (by decide)) (by decide +kernel) (by decide)
    · obtain ⟨s1, ⟨v1, v2, rfl⟩, hall⟩ := h
      have hg : goodB ds = true := by
        unfold goodB
        rw [decide_eq_true (by omega : 1 ≤ ds.length), decide_eq_true (by omega : ds.length ≤ 200), Bool.true_and, Bool.true_and]
        rw [hl, List.take_length] at hall
        exact List.all_eq_true.mpr hall
      exact ⟨_, rfl, g, xs, rfl, .inl (s1.seq hS), fun l np => hq hg _ l (s1.more np) (s1.free np) upd_same⟩

/-- the fields of a Watched -/
def wf (lb lt : Addr) : List (Str × V) := [(("boxes" : Str), .ref lb), (("touches" : Str), .ref lt)]
def tchV (t : Str × Int) : List V := [.str t.1, .int t.2]
/-- a Watched at p over the list at lb, its touches at lt -/
def Mem (C : Addr) (H : Hp) (p lb lt : Addr) (bs : List Int) (ts : List (Str × Int)) : Prop :=
  lb ≠ lt ∧ (∃ dx, H p = some (.ins C dx (wf lb lt))) ∧ H lb = some (.lst (bs.map V.int)) ∧ ∃ us : List V, H lt = some (.lst us) ∧ us.length = ts.length ∧ ∀ (j : Nat) (t : Str × Int), ts[j]? = some t → ∃ q, us[j]? = some (V.ref q) ∧ H q = some (.tup (tchV t))
/-- what a class of watched boxes has -/
structure WCls (K : PySem.W.Frag) (C : Addr) : Prop where
  cl : Cls K C
  nB : NoAttr K C "boxes"
  nT : NoAttr K C "touches"
theorem wf_b (lb lt : Addr) : (wf lb lt).lookup ("boxes" : Str) = some (V.ref lb) := by rfl
theorem wf_t (lb lt : Addr) : (wf lb lt).lookup ("touches" : Str) = some (V.ref lt) := by rfl
theorem Mem.push {C : Addr} {H : Hp} {p lb lt q : Addr} {bs : List Int} {ts : List (Str × Int)} {us : List V} {t : Str × Int} (M : Mem C H p lb lt bs ts) (hu : H lt = some (.lst us)) (hq : H q = none) :
    Mem C (upd (upd H q (.tup (tchV t))) lt (.lst (us ++ [.ref q]))) p lb lt bs (ts ++ [t]) ∧ Fr H (upd (upd H q (.tup (tchV t))) lt (.lst (us ++ [.ref q]))) lt lt := by
  obtain ⟨hne, ⟨dx, h1⟩, h2, us', h3, h4, h5⟩ := M
  rw [hu] at h3
  cases h3
  have fr : Fr H (upd (upd H q (.tup (tchV t))) lt (.lst (us ++ [.ref q]))) lt lt := fun a o e n1 _ => by
    rw [upd_ne n1, upd_ne (ne_of_none e hq)]
    exact e
  have npl : p ≠ lt := fun z => by rw [z, hu] at h1; cases h1
  have nql : q ≠ lt := fun z => by rw [z, hu] at hq; cases hq
  refine ⟨⟨hne, ⟨dx, fr _ _ h1 npl npl⟩, fr _ _ h2 hne hne, us ++ [.ref q], upd_same, by rw [List.length_append, List.length_append, h4]; rfl, fun j t' e => ?_⟩, fr⟩
  by_cases hj : j < ts.length
  · rw [List.getElem?_append_left hj] at e
    obtain ⟨q', e1, e2⟩ := h5 j t' e
    have : q' ≠ lt := fun z => by rw [z, hu] at e2; cases e2
    exact ⟨q', by rw [List.getElem?_append_left (by omega)]; exact e1, fr _ _ e2 this this⟩
  · rw [List.getElem?_append_right (by omega)] at e
    have hj0 : j - ts.length = 0 := by
      have := (List.getElem?_eq_some_iff.mp e).1
      simp only [List.length_singleton] at this
      omega
    rw [hj0] at e
    cases e
    exact ⟨q, by rw [List.getElem?_append_right (by omega), show j - us.length = 0 by omega]; rfl, by rw [upd_ne nql, upd_same]⟩
theorem Mem.put {C : Addr} {H : Hp} {p lb lt : Addr} {bs bs' : List Int} {ts : List (Str × Int)} (M : Mem C H p lb lt bs ts) : Mem C (upd H lb (.lst (bs'.map V.int))) p lb lt bs' ts ∧ Fr H (upd H lb (.lst (bs'.map V.int))) lb lb := by
  obtain ⟨hne, ⟨dx, h1⟩, h2, us, h3, h4, h5⟩ := M
  have fr : Fr H (upd H lb (.lst (bs'.map V.int))) lb lb := fun a o e n1 _ => by
    rw [upd_ne n1]
    exact e
  have npl : p ≠ lb := fun z => by rw [z, h2] at h1; cases h1
  refine ⟨⟨hne, ⟨dx, fr _ _ h1 npl npl⟩, upd_same, us, fr _ _ h3 hne.symm hne.symm, h4, fun j t e => ?_⟩, fr⟩
  obtain ⟨q, e1, e2⟩ := h5 j t e
  have : q ≠ lb := fun z => by rw [z, h2] at e2; cases e2
  exact ⟨q, e1, fr _ _ e2 this this⟩
def spLook (C : Addr) : Sp := fun vs H Q _ => ∃ (p lb lt : Addr) (bs : List Int) (ts : List (Str × Int)) (b n : Int), vs = [.ref p, .int b] ∧ Mem C H p lb lt bs ts ∧ 0 ≤ b ∧ bs[b.toNat]? = some n ∧ ts.length ≤ 10000 ∧ ∀ H', Fr H H' lt lt → Mem C H' p lb lt bs (ts ++ [(("read" : Str), b)]) → Q (.int n) H'
abbrev s_Watched_look : Stmt := inClass (top 20) 1
abbrev N_Watched_look : List Str := ["self", "box"]
theorem S_Watched_look : FnScope N_Watched_look ["self", "box"] (defScope s_Watched_look) := ⟨rfl, rfl, rfl, by decide +kernel, rfl, by decide +kernel, by decide +kernel⟩

theorem m_look {C : Addr} (W : WCls K C) (D : MethAt K C "look" "Watched.look" s_Watched_look) : C8.Met P w K mg base 1 C "look" (spLook C) [] := by
  have S := S_Watched_look
  refine met_of W.cl D S (fun _ _ _ _ _ _ us hl => match us, hl with | [_, _], _ => rfl) (fun vs H Q E h => ?_) (fun f cdv A outer s H vs Q E hr h => ?_)
  · obtain ⟨p, lb, lt, bs, ts, b, n, rfl, _⟩ := h
    rfl
  · obtain ⟨p, lb, lt, bs, ts, b, n, rfl, M, hb, hn, hl, q⟩ := h
    refine ⟨_, (pss_cons (ps_expr (pe_bm PySem.F.plainAttrs_list PySem.F.slot_list_append PySem.F.type_list_append mt_append (pe_fld (pv 0) rfl) (pa_cons (pe_tup (pa_cons pe_str (pa_cons (pv 1) pa_nil))) pa_nil)))
  (pss_one (ps_ret (pe_ix ix_list (pe_fld (pv 0) rfl) (pv 1) (fun _ _ => rfl))))), ?_⟩
    obtain ⟨hne, ⟨dx, h1⟩, h2, us, h3, h4, h5⟩ := id M
    refine ⟨_, rfl, p, C, dx, _, _, rfl, h1, W.cl, W.nT, wf_t _ _, .inl ⟨rfl, _, SqL.of h3⟩, _, rfl, sz_ok rfl, fun t nt => ?_⟩
    have nl : t ≠ lt := fun z => by rw [z, h3] at nt; cases nt
    refine ⟨lt, us, _, rfl, rfl, by rw [upd_ne nl.symm]; exact h3, Nat.lt_of_le_of_lt (by omega : _ ≤ 10000) (by decide), ?_⟩
    obtain ⟨M2, fr⟩ := M.push (t := (("read" : Str), b)) h3 nt
    obtain ⟨_, ⟨dx2, g1⟩, g2, _⟩ := id M2
    refine ⟨_, rfl, p, C, dx2, _, _, rfl, g1, W.cl, W.nB, wf_b _ _, _, rfl, lb, _, _, .int n, rfl, rfl, SqL.of g2, at_in hb ?_, q _ fr M2⟩
    rw [List.getElem?_map, hn]
    rfl
def spPut (C : Addr) : Sp := fun vs H Q _ => ∃ (p lb lt : Addr) (bs : List Int) (ts : List (Str × Int)) (b n : Int), vs = [.ref p, .int b, .int n] ∧ Mem C H p lb lt bs ts ∧ 0 ≤ b ∧ b < bs.length ∧ ts.length ≤ 10000 ∧ ∀ H', Fr H H' lb lt → Mem C H' p lb lt (bs.set b.toNat n) (ts ++ [(("write" : Str), b)]) → Q .non H'
abbrev s_Watched_put : Stmt := inClass (top 20) 2
abbrev N_Watched_put : List Str := ["self", "box", "number"]
theorem S_Watched_put : FnScope N_Watched_put ["self", "box", "number"] (defScope s_Watched_put) := ⟨rfl, rfl, rfl, by decide +kernel, rfl, by decide +kernel, by decide +kernel⟩

theorem m_put {C : Addr} (W : WCls K C) (D : MethAt K C "put" "Watched.put" s_Watched_put) : C8.Met P w K mg base 1 C "put" (spPut C) [] := by
  have S := S_Watched_put
  refine met_of W.cl D S (fun _ _ _ _ _ _ us hl => match us, hl with | [_, _, _], _ => rfl) (fun vs H Q E h => ?_) (fun f cdv A outer s H vs Q E hr h => ?_)
  · obtain ⟨p, lb, lt, bs, ts, b, n, rfl, _⟩ := h
    rfl
  · obtain ⟨p, lb, lt, bs, ts, b, n, rfl, M, hb, hn, hl, q⟩ := h
    refine ⟨_, (pss_cons (ps_expr (pe_bm PySem.F.plainAttrs_list PySem.F.slot_list_append PySem.F.type_list_append mt_append (pe_fld (pv 0) rfl) (pa_cons (pe_tup (pa_cons pe_str (pa_cons (pv 1) pa_nil))) pa_nil)))
  (pss_one (ps_asg (pv 2) (pg_sub (pe_fld (pv 0) rfl) (pv 1) set_list)))), ?_⟩
    obtain ⟨hne, ⟨dx, h1⟩, h2, us, h3, h4, h5⟩ := id M
    refine ⟨_, rfl, p, C, dx, _, _, rfl, h1, W.cl, W.nT, wf_t _ _, .inl ⟨rfl, _, SqL.of h3⟩, _, rfl, sz_ok rfl, fun t nt => ?_⟩
    have nl : t ≠ lt := fun z => by rw [z, h3] at nt; cases nt
    refine ⟨lt, us, _, rfl, rfl, by rw [upd_ne nl.symm]; exact h3, Nat.lt_of_le_of_lt (by omega : _ ≤ 10000) (by decide), ?_⟩
    obtain ⟨M2, fr⟩ := M.push (t := (("write" : Str), b)) h3 nt
    obtain ⟨_, ⟨dx2, g1⟩, g2, _⟩ := id M2
    obtain ⟨M3, fr3⟩ := M2.put (bs' := bs.set b.toNat n)
    refine ⟨_, rfl, _, rfl, p, C, dx2, _, _, rfl, g1, W.cl, W.nB, wf_b _ _, _, rfl, lb, _, _, b.toNat, rfl, rfl, g2, ?_, ?_⟩
    · unfold ixN
      rw [List.length_map, if_pos hb, if_pos hn]
    rw [show (bs.map V.int).set b.toNat (.int n) = (bs.set b.toNat n).map V.int by rw [List.map_set]]
    exact q _ (fun a o e n1 n2 => fr3 _ _ (fr _ _ e n2 n2) n1 n1) M3

inductive RowOk (size count : Int) : Str → List Int → Prop
  | set {b n : Int} : 0 ≤ b → b < size → 0 ≤ n → n < 1000000 → RowOk size count "set" [b, n]
  | copy {b o : Int} : 0 ≤ b → b < size → 0 ≤ o → o < size → RowOk size count "copy" [b, o]
  | add {b o t : Int} : 0 ≤ b → b < size → 0 ≤ o → o < size → 0 ≤ t → t < size → RowOk size count "add" [b, o, t]
  | sub {b o t : Int} : 0 ≤ b → b < size → 0 ≤ o → o < size → 0 ≤ t → t < size → RowOk size count "sub" [b, o, t]
  | fetch {b a : Int} : 0 ≤ b → b < size → 0 ≤ a → a < size → RowOk size count "fetch" [b, a]
  | store {a b : Int} : 0 ≤ a → a < size → 0 ≤ b → b < size → RowOk size count "store" [a, b]
  | less {o t g : Int} : 0 ≤ o → o < size → 0 ≤ t → t < size → 0 ≤ g → g ≤ count → RowOk size count "less" [o, t, g]
  | jump {g : Int} : 0 ≤ g → g ≤ count → RowOk size count "jump" [g]
  | tell {b : Int} : 0 ≤ b → b < size → RowOk size count "tell" [b]
def at0 (bs : List Int) (i : Int) : Int := bs.getD i.toNat 0
/-- the touches of a row, ahead of where it goes on -/
def touchesOf (wd : Str) (ns bs : List Int) : List (Str × Int) :=
  let a := ns.getD 0 0
  let b := ns.getD 1 0
  let c := ns.getD 2 0
  if wd = "set" then [("write", a)] else if wd = "copy" then [("read", b), ("write", a)] else if wd = "add" ∨ wd = "sub" then [("read", b), ("read", c), ("write", a)]
  else if wd = "fetch" then [("read", b), ("read", at0 bs b % (bs.length : Nat)), ("write", a)] else if wd = "store" then [("read", a), ("read", b), ("write", at0 bs a % (bs.length : Nat))] else if wd = "tell" then [("read", a)] else []
def boxesOf (wd : Str) (ns bs : List Int) : List Int :=
  let a := ns.getD 0 0
  let b := ns.getD 1 0
  let c := ns.getD 2 0
  if wd = "set" then bs.set a.toNat b else if wd = "copy" then bs.set a.toNat (at0 bs b) else if wd = "add" then bs.set a.toNat ((at0 bs b + at0 bs c) % 1000000) else if wd = "sub" then bs.set a.toNat ((at0 bs b - at0 bs c) % 1000000)
  else if wd = "fetch" then bs.set a.toNat (at0 bs (at0 bs b % (bs.length : Nat))) else if wd = "store" then bs.set (at0 bs a % (bs.length : Nat)).toNat (at0 bs b) else bs
def toldOf (wd : Str) (ns bs : List Int) : List Int := if wd = "tell" then [at0 bs (ns.getD 0 0)] else []
theorem at0_get {bs : List Int} {i : Int} (h0 : 0 ≤ i) (h1 : i < (bs.length : Nat)) : bs[i.toNat]? = some (at0 bs i) := by
  unfold at0
  rw [List.getD_eq_getElem?_getD, List.getElem?_eq_getElem (by omega)]
  rfl
theorem Mem.keep {C : Addr} {H H' : Hp} {p lb lt tl : Addr} {bs : List Int} {ts : List (Str × Int)} {us : List V} (M : Mem C H p lb lt bs ts) (hT : H tl = some (.lst us)) (n1 : tl ≠ lb) (n2 : tl ≠ lt) (h : ∀ q o, H q = some o → q ≠ tl → H' q = some o) : Mem C H' p lb lt bs ts := by
  obtain ⟨hne, ⟨dx, h1⟩, h2, us', h3, h4, h5⟩ := M
  refine ⟨hne, ⟨dx, h _ _ h1 fun z => by rw [z, hT] at h1; cases h1⟩, h _ _ h2 n1.symm, us', h _ _ h3 n2.symm, h4, fun j t e => ?_⟩
  obtain ⟨q, e1, e2⟩ := h5 j t e
  exact ⟨q, e1, h _ _ e2 fun z => by rw [z, hT] at e2; cases e2⟩
def Fr3 (H H' : Hp) (a b c : Addr) : Prop := ∀ q o, H q = some o → q ≠ a → q ≠ b → q ≠ c → H' q = some o
def spAct (K : PySem.W.Frag) (C : Addr) : Sp := fun vs H Q _ => ∃ (r p lb lt tl : Addr) (wd : Str) (ns : List Int) (bs tv : List Int) (ts : List (Str × Int)) (count : Int), vs = [.ref r, .ref p, .int (bs.length : Nat), .ref tl] ∧ SqT K H r (.str wd :: ns.map V.int) ∧ Mem C H p lb lt bs ts ∧ H tl = some (.lst (tv.map V.int)) ∧
  tl ≠ lb ∧ tl ≠ lt ∧ RowOk (bs.length : Nat) count wd ns ∧ ts.length ≤ 9000 ∧ tv.length ≤ 9000 ∧ ∀ H', Fr3 H H' lb lt tl → Mem C H' p lb lt (boxesOf wd ns bs) (ts ++ touchesOf wd ns bs) → H' tl = some (.lst ((tv ++ toldOf wd ns bs).map V.int)) → Q .non H'
abbrev s__act : Stmt := top 23
abbrev N__act : List Str := ["row", "memory", "size", "told", "box", "number", "other", "one", "first", "at", "pointed"]
theorem S__act : FnScope N__act ["row", "memory", "size", "told"] (defScope s__act) := ⟨rfl, rfl, rfl, by decide +kernel, rfl, by decide +kernel, by decide +kernel⟩

theorem c_act {C : Addr} (T : Txt K w mg) (D : DefAt K "_act" s__act) (gRound : ∃ t, mg "ROUND" = some (.int 1000000 t)) (M_look : C8.Met P w K mg base 1 C "look" (spLook C) []) (M_put : C8.Met P w K mg base 1 C "put" (spPut C) []) : Cal P w K mg base CX0 2 "_act" (spAct K C) := by
  have S := S__act
  obtain ⟨tR, gRound⟩ := gRound
  refine cal_of T.toTop D S (fun _ _ _ _ _ _ us hl => match us, hl with | [_, _, _, _], _ => rfl) (fun vs H Q E h => ?_) (fun f cdv A outer s H vs Q E hr h => ?_)
  · obtain ⟨r, p, lb, lt, tl, wd, ns, bs, tv, ts, count, rfl, _⟩ := h
    rfl
  · obtain ⟨r, p, lb, lt, tl, wd, ns, bs, tv, ts, count, rfl, hS, M, hT, n1, n2, hrow, hts, htv, q⟩ := h
    refine ⟨_, (pss_one (ps_match (pv 0) (pm_seq rfl S.nd (.cons (i := 4) rfl (Or.inl rfl) (by first | exact .inl rfl | exact .inr rfl) (.cons (i := 5) rfl (Or.inl rfl) (by first | exact .inl rfl | exact .inr rfl) .nil)) (pss_one (ps_expr (C8.pe_mt M_put hr (by decide) (pv 1) (pa_cons (pv 4) (pa_cons (pv 5) pa_nil)))))
  (pm_seq rfl S.nd (.cons (i := 4) rfl (Or.inl rfl) (by first | exact .inl rfl | exact .inr rfl) (.cons (i := 6) rfl (Or.inl rfl) (by first | exact .inl rfl | exact .inr rfl) .nil)) (pss_one (ps_expr (C8.pe_mt M_put hr (by decide) (pv 1) (pa_cons (pv 4) (pa_cons (C8.pe_mt M_look hr (by decide) (pv 1) (pa_cons (pv 6) pa_nil)) pa_nil)))))
  (pm_seq rfl S.nd (.cons (i := 4) rfl (Or.inl rfl) (by first | exact .inl rfl | exact .inr rfl) (.cons (i := 7) rfl (Or.inl rfl) (by first | exact .inl rfl | exact .inr rfl) (.cons (i := 6) rfl (Or.inl rfl) (by first | exact .inl rfl | exact .inr rfl) .nil))) (pss_cons (ps_set (i := 8) S.nd rfl (Or.inl rfl) (C8.pe_mt M_look hr (by decide) (pv 1) (pa_cons (pv 7) pa_nil)))
  (pss_one (ps_expr (C8.pe_mt M_put hr (by decide) (pv 1) (pa_cons (pv 4) (pa_cons (pe_op op_mod (pe_op op_add (pv 8) (C8.pe_mt M_look hr (by decide) (pv 1) (pa_cons (pv 6) pa_nil))) ((pe_glob (v := .int 1000000) rfl gRound ⟨_, rfl⟩))) pa_nil))))))
  (pm_seq rfl S.nd (.cons (i := 4) rfl (Or.inl rfl) (by first | exact .inl rfl | exact .inr rfl) (.cons (i := 7) rfl (Or.inl rfl) (by first | exact .inl rfl | exact .inr rfl) (.cons (i := 6) rfl (Or.inl rfl) (by first | exact .inl rfl | exact .inr rfl) .nil))) (pss_cons (ps_set (i := 8) S.nd rfl (Or.inl rfl) (C8.pe_mt M_look hr (by decide) (pv 1) (pa_cons (pv 7) pa_nil)))
  (pss_one (ps_expr (C8.pe_mt M_put hr (by decide) (pv 1) (pa_cons (pv 4) (pa_cons (pe_op op_mod (pe_op op_sub (pv 8) (C8.pe_mt M_look hr (by decide) (pv 1) (pa_cons (pv 6) pa_nil))) ((pe_glob (v := .int 1000000) rfl gRound ⟨_, rfl⟩))) pa_nil))))))
  (pm_seq rfl S.nd (.cons (i := 4) rfl (Or.inl rfl) (by first | exact .inl rfl | exact .inr rfl) (.cons (i := 9) rfl (Or.inl rfl) (by first | exact .inl rfl | exact .inr rfl) .nil)) (pss_cons (ps_set (i := 10) S.nd rfl (Or.inl rfl) (pe_op op_mod (C8.pe_mt M_look hr (by decide) (pv 1) (pa_cons (pv 9) pa_nil)) (pv 2)))
  (pss_one (ps_expr (C8.pe_mt M_put hr (by decide) (pv 1) (pa_cons (pv 4) (pa_cons (C8.pe_mt M_look hr (by decide) (pv 1) (pa_cons (pv 10) pa_nil)) pa_nil))))))
  (pm_seq rfl S.nd (.cons (i := 9) rfl (Or.inl rfl) (by first | exact .inl rfl | exact .inr rfl) (.cons (i := 4) rfl (Or.inl rfl) (by first | exact .inl rfl | exact .inr rfl) .nil)) (pss_cons (ps_set (i := 10) S.nd rfl (Or.inl rfl) (pe_op op_mod (C8.pe_mt M_look hr (by decide) (pv 1) (pa_cons (pv 9) pa_nil)) (pv 2)))
  (pss_one (ps_expr (C8.pe_mt M_put hr (by decide) (pv 1) (pa_cons (pv 10) (pa_cons (C8.pe_mt M_look hr (by decide) (pv 1) (pa_cons (pv 4) pa_nil)) pa_nil))))))
  (pm_seq rfl S.nd (.cons (i := 4) rfl (Or.inl rfl) (by first | exact .inl rfl | exact .inr rfl) .nil) (pss_one (ps_expr (pe_bm PySem.F.plainAttrs_list PySem.F.slot_list_append PySem.F.type_list_append mt_append (pv 3) (pa_cons (C8.pe_mt M_look hr (by decide) (pv 1) (pa_cons (pv 4) pa_nil)) pa_nil))))
  pm_nil))))))))), ?_⟩
    obtain ⟨hne, ⟨dx, h1⟩, _⟩ := id M
    have end0 : ∀ H', Fr3 H H' lb lt tl → H' tl = H tl → Mem C H' p lb lt (boxesOf wd ns bs) (ts ++ touchesOf wd ns bs) → toldOf wd ns bs = [] → Q .non H' := fun H' fr e M' h0 => q H' fr M' (by rw [h0, List.append_nil, e]; exact hT)
    have l1 : ∀ x : Str × Int, (ts ++ [x]).length ≤ 10000 := fun x => by rw [List.length_append, List.length_singleton]; omega
    have l2 : ∀ x y : Str × Int, (ts ++ [x] ++ [y]).length ≤ 10000 := fun x y => by rw [List.length_append, List.length_append, List.length_singleton, List.length_singleton]; omega
    have hpos : ∀ o : Int, 0 ≤ o → o < (bs.length : Nat) → (0 : Int) < (bs.length : Nat) := fun o h0 h1 => by omega
    cases hrow with
    | @set b n b0 b1 m0 m1 =>
      refine ⟨_, rfl, r, _, _, rfl, hS, fun _ => ?_, fun h => absurd ⟨rfl, rfl⟩ h⟩
      refine ⟨_, rfl, p, dx, _, rfl, h1, rfl, _, rfl, _, rfl, p, lb, lt, bs, _, _, _, rfl, M, b0, b1, (by omega), fun H' fr M' => ?_⟩
      exact end0 H' (fun a o e x y _ => fr a o e x y) ((fr _ _ hT n1 n2).trans hT.symm) M' rfl
    | @copy b o b0 b1 o0 o1 =>
      refine ⟨_, rfl, r, _, _, rfl, hS, fun h => absurd h.2 (by decide), fun _ => ?_⟩
      refine ⟨r, _, _, rfl, hS, fun _ => ?_, fun h => absurd ⟨rfl, rfl⟩ h⟩
      refine ⟨_, rfl, p, dx, _, rfl, h1, rfl, _, rfl, _, rfl, p, dx, _, rfl, h1, rfl, _, rfl, p, lb, lt, bs, _, _, _, rfl, M, o0, at0_get o0 o1, (by omega), fun H2 fr2 M2 => ?_⟩
      refine ⟨p, lb, lt, bs, _, _, _, rfl, M2, b0, b1, (l1 _), fun H3 fr3 M3 => ?_⟩
      rw [List.append_assoc] at M3
      exact end0 H3 (fun a o e x y _ => fr3 _ _ (fr2 _ _ e y y) x y) ((fr3 _ _ (fr2 _ _ hT n2 n2) n1 n2).trans hT.symm) M3 rfl
    | @add b o t b0 b1 o0 o1 t0 t1 =>
      refine ⟨_, rfl, r, _, _, rfl, hS, fun h => absurd h.2 (by decide), fun _ => ?_⟩
      refine ⟨r, _, _, rfl, hS, fun h => absurd h.2 (by decide), fun _ => ?_⟩
      refine ⟨r, _, _, rfl, hS, fun _ => ?_, fun h => absurd ⟨rfl, rfl⟩ h⟩
      refine ⟨_, rfl, p, dx, _, rfl, h1, rfl, _, rfl, p, lb, lt, bs, _, _, _, rfl, M, o0, at0_get o0 o1, (by omega), fun H2 fr2 M2 => ?_⟩
      obtain ⟨_, ⟨dx2, g1⟩, _⟩ := id M2
      refine ⟨_, rfl, p, dx2, _, rfl, g1, rfl, _, rfl, _, rfl, _, rfl, p, dx2, _, rfl, g1, rfl, _, rfl, p, lb, lt, bs, _, _, _, rfl, M2, t0, at0_get t0 t1, (l1 _), fun H3 fr3 M3 => ?_⟩
      refine ⟨_, _, rfl, rfl, _, _, rfl, rfl, (by show (0 : Int) < 1000000; decide), p, lb, lt, bs, _, _, _, rfl, M3, b0, b1, (l2 _ _), fun H4 fr4 M4 => ?_⟩
      rw [List.append_assoc, List.append_assoc] at M4
      exact end0 H4 (fun a o e x y _ => fr4 _ _ (fr3 _ _ (fr2 _ _ e y y) y y) x y) ((fr4 _ _ (fr3 _ _ (fr2 _ _ hT n2 n2) n2 n2) n1 n2).trans hT.symm) M4 rfl
    | @sub b o t b0 b1 o0 o1 t0 t1 =>
      refine ⟨_, rfl, r, _, _, rfl, hS, fun h => absurd h.2 (by decide), fun _ => ?_⟩
      refine ⟨r, _, _, rfl, hS, fun h => absurd h.2 (by decide), fun _ => ?_⟩
      refine ⟨r, _, _, rfl, hS, fun h => absurd h.2 (by decide), fun _ => ?_⟩
      refine ⟨r, _, _, rfl, hS, fun _ => ?_, fun h => absurd ⟨rfl, rfl⟩ h⟩
      refine ⟨_, rfl, p, dx, _, rfl, h1, rfl, _, rfl, p, lb, lt, bs, _, _, _, rfl, M, o0, at0_get o0 o1, (by omega), fun H2 fr2 M2 => ?_⟩
      obtain ⟨_, ⟨dx2, g1⟩, _⟩ := id M2
      refine ⟨_, rfl, p, dx2, _, rfl, g1, rfl, _, rfl, _, rfl, _, rfl, p, dx2, _, rfl, g1, rfl, _, rfl, p, lb, lt, bs, _, _, _, rfl, M2, t0, at0_get t0 t1, (l1 _), fun H3 fr3 M3 => ?_⟩
      refine ⟨_, _, rfl, rfl, _, _, rfl, rfl, (by show (0 : Int) < 1000000; decide), p, lb, lt, bs, _, _, _, rfl, M3, b0, b1, (l2 _ _), fun H4 fr4 M4 => ?_⟩
      rw [List.append_assoc, List.append_assoc] at M4
      exact end0 H4 (fun a o e x y _ => fr4 _ _ (fr3 _ _ (fr2 _ _ e y y) y y) x y) ((fr4 _ _ (fr3 _ _ (fr2 _ _ hT n2 n2) n2 n2) n1 n2).trans hT.symm) M4 rfl
    | @fetch b a b0 b1 a0 a1 =>
      refine ⟨_, rfl, r, _, _, rfl, hS, fun h => absurd h.2 (by decide), fun _ => ?_⟩
      refine ⟨r, _, _, rfl, hS, fun h => absurd h.2 (by decide), fun _ => ?_⟩
      refine ⟨r, _, _, rfl, hS, fun h => absurd h.2 (by decide), fun _ => ?_⟩
      refine ⟨r, _, _, rfl, hS, fun h => absurd h.2 (by decide), fun _ => ?_⟩
      refine ⟨r, _, _, rfl, hS, fun _ => ?_, fun h => absurd ⟨rfl, rfl⟩ h⟩
      have hp := hpos _ a0 a1
      have m0 := mod_nn (at0 bs a) hp
      have m1 := mod_lt (at0 bs a) hp
      refine ⟨_, rfl, p, dx, _, rfl, h1, rfl, _, rfl, p, lb, lt, bs, _, _, _, rfl, M, a0, at0_get a0 a1, (by omega), fun H2 fr2 M2 => ?_⟩
      obtain ⟨_, ⟨dx2, g1⟩, _⟩ := id M2
      refine ⟨_, rfl, _, _, rfl, rfl, hp, ?_⟩
      refine ⟨_, rfl, p, dx2, _, rfl, g1, rfl, _, rfl, _, rfl, p, dx2, _, rfl, g1, rfl, _, rfl, p, lb, lt, bs, _, _, _, rfl, M2, m0, at0_get m0 m1, (l1 _), fun H3 fr3 M3 => ?_⟩
      refine ⟨p, lb, lt, bs, _, _, _, rfl, M3, b0, b1, (l2 _ _), fun H4 fr4 M4 => ?_⟩
      rw [List.append_assoc, List.append_assoc] at M4
      exact end0 H4 (fun a o e x y _ => fr4 _ _ (fr3 _ _ (fr2 _ _ e y y) y y) x y) ((fr4 _ _ (fr3 _ _ (fr2 _ _ hT n2 n2) n2 n2) n1 n2).trans hT.symm) M4 rfl
    | @store a b a0 a1 b0 b1 =>
      refine ⟨_, rfl, r, _, _, rfl, hS, fun h => absurd h.2 (by decide), fun _ => ?_⟩
      refine ⟨r, _, _, rfl, hS, fun h => absurd h.2 (by decide), fun _ => ?_⟩
      refine ⟨r, _, _, rfl, hS, fun h => absurd h.2 (by decide), fun _ => ?_⟩
      refine ⟨r, _, _, rfl, hS, fun h => absurd h.2 (by decide), fun _ => ?_⟩
      refine ⟨r, _, _, rfl, hS, fun h => absurd h.2 (by decide), fun _ => ?_⟩
      refine ⟨r, _, _, rfl, hS, fun _ => ?_, fun h => absurd ⟨rfl, rfl⟩ h⟩
      have hp := hpos _ a0 a1
      have m0 := mod_nn (at0 bs a) hp
      have m1 := mod_lt (at0 bs a) hp
      refine ⟨_, rfl, p, dx, _, rfl, h1, rfl, _, rfl, p, lb, lt, bs, _, _, _, rfl, M, a0, at0_get a0 a1, (by omega), fun H2 fr2 M2 => ?_⟩
      obtain ⟨_, ⟨dx2, g1⟩, _⟩ := id M2
      refine ⟨_, rfl, _, _, rfl, rfl, hp, ?_⟩
      refine ⟨_, rfl, p, dx2, _, rfl, g1, rfl, _, rfl, _, rfl, p, dx2, _, rfl, g1, rfl, _, rfl, p, lb, lt, bs, _, _, _, rfl, M2, b0, at0_get b0 b1, (l1 _), fun H3 fr3 M3 => ?_⟩
      refine ⟨p, lb, lt, bs, _, _, _, rfl, M3, m0, m1, (l2 _ _), fun H4 fr4 M4 => ?_⟩
      rw [List.append_assoc, List.append_assoc] at M4
      exact end0 H4 (fun a o e x y _ => fr4 _ _ (fr3 _ _ (fr2 _ _ e y y) y y) x y) ((fr4 _ _ (fr3 _ _ (fr2 _ _ hT n2 n2) n2 n2) n1 n2).trans hT.symm) M4 rfl
    | @tell b b0 b1 =>
      refine ⟨_, rfl, r, _, _, rfl, hS, fun h => absurd h.2 (by decide), fun _ => ?_⟩
      refine ⟨r, _, _, rfl, hS, fun h => absurd h.2 (by decide), fun _ => ?_⟩
      refine ⟨r, _, _, rfl, hS, fun h => absurd h.2 (by decide), fun _ => ?_⟩
      refine ⟨r, _, _, rfl, hS, fun h => absurd h.2 (by decide), fun _ => ?_⟩
      refine ⟨r, _, _, rfl, hS, fun h => absurd h.2 (by decide), fun _ => ?_⟩
      refine ⟨r, _, _, rfl, hS, fun h => absurd h.2 (by decide), fun _ => ?_⟩
      refine ⟨r, _, _, rfl, hS, fun _ => ?_, fun h => absurd ⟨rfl, rfl⟩ h⟩
      refine ⟨_, rfl, .inl ⟨rfl, _, SqL.of hT⟩, _, rfl, p, dx, _, rfl, h1, rfl, _, rfl, p, lb, lt, bs, _, _, _, rfl, M, b0, at0_get b0 b1, (by omega), fun H2 fr2 M2 => ?_⟩
      have hT2 := fr2 _ _ hT n2 n2
      have k3 : ∀ q o, H2 q = some o → q ≠ tl → upd H2 tl (.lst (tv.map V.int ++ [.int (at0 bs b)])) q = some o := fun q o e n => by
        rw [upd_ne n]
        exact e
      refine ⟨tl, _, _, rfl, rfl, hT2, by rw [List.length_map]; exact Nat.lt_of_le_of_lt htv (by decide), ?_⟩
      refine q _ (fun a o e x y z => k3 _ _ (fr2 _ _ e y y) z) (M2.keep hT2 n1 n2 k3) ?_
      rw [upd_same, List.map_append]
      rfl
    | @less o t g o0 o1 t0 t1 g0 g1 =>
      refine ⟨_, rfl, r, _, _, rfl, hS, fun h => absurd h.2 (by decide), fun _ => ?_⟩
      refine ⟨r, _, _, rfl, hS, fun h => absurd h.2 (by decide), fun _ => ?_⟩
      refine ⟨r, _, _, rfl, hS, fun h => absurd h.2 (by decide), fun _ => ?_⟩
      refine ⟨r, _, _, rfl, hS, fun h => absurd h.2 (by decide), fun _ => ?_⟩
      refine ⟨r, _, _, rfl, hS, fun h => absurd h.2 (by decide), fun _ => ?_⟩
      refine ⟨r, _, _, rfl, hS, fun h => absurd h.2 (by decide), fun _ => ?_⟩
      refine ⟨r, _, _, rfl, hS, fun h => absurd h.2 (by decide), fun _ => ?_⟩
      exact end0 H (fun a o e _ _ _ => e) rfl (by rw [show touchesOf "less" [o, t, g] bs = [] from rfl, List.append_nil]; exact M) rfl
    | @jump g g0 g1 =>
      refine ⟨_, rfl, r, _, _, rfl, hS, fun h => absurd h.2 (by decide), fun _ => ?_⟩
      refine ⟨r, _, _, rfl, hS, fun h => absurd h.2 (by decide), fun _ => ?_⟩
      refine ⟨r, _, _, rfl, hS, fun h => absurd h.2 (by decide), fun _ => ?_⟩
      refine ⟨r, _, _, rfl, hS, fun h => absurd h.2 (by decide), fun _ => ?_⟩
      refine ⟨r, _, _, rfl, hS, fun h => absurd h.2 (by decide), fun _ => ?_⟩
      refine ⟨r, _, _, rfl, hS, fun h => absurd h.2 (by decide), fun _ => ?_⟩
      refine ⟨r, _, _, rfl, hS, fun h => absurd h.2 (by decide), fun _ => ?_⟩
      exact end0 H (fun a o e _ _ _ => e) rfl (by rw [show touchesOf "jump" [g] bs = [] from rfl, List.append_nil]; exact M) rfl

def nextT (wd : Str) (ns : List Int) : List (Str × Int) := if wd = "less" then [("read", ns.getD 0 0), ("read", ns.getD 1 0)] else []
def nextOf (wd : Str) (ns bs : List Int) (place : Int) : Int := if wd = "less" then (if at0 bs (ns.getD 0 0) < at0 bs (ns.getD 1 0) then ns.getD 2 0 else place + 1) else if wd = "jump" then ns.getD 0 0 else place + 1
def spNext (K : PySem.W.Frag) (C : Addr) : Sp := fun vs H Q _ => ∃ (r p lb lt : Addr) (wd : Str) (ns : List Int) (bs : List Int) (ts : List (Str × Int)) (count place : Int), vs = [.ref r, .int place, .ref p] ∧ SqT K H r (.str wd :: ns.map V.int) ∧ Mem C H p lb lt bs ts ∧
  RowOk (bs.length : Nat) count wd ns ∧ ts.length ≤ 9000 ∧ ∀ H', Fr H H' lt lt → Mem C H' p lb lt bs (ts ++ nextT wd ns) → Q (.int (nextOf wd ns bs place)) H'
abbrev s__next_place : Stmt := top 24
abbrev N__next_place : List Str := ["row", "place", "memory", "one", "other", "goal", "first"]
theorem S__next_place : FnScope N__next_place ["row", "place", "memory"] (defScope s__next_place) := ⟨rfl, rfl, rfl, by decide +kernel, rfl, by decide +kernel, by decide +kernel⟩

theorem c_next_place {C : Addr} (T : Txt K w mg) (D : DefAt K "_next_place" s__next_place) (M_look : C8.Met P w K mg base 1 C "look" (spLook C) []) : Cal P w K mg base CX0 2 "_next_place" (spNext K C) := by
  have S := S__next_place
  refine cal_of T.toTop D S (fun _ _ _ _ _ _ us hl => match us, hl with | [_, _, _], _ => rfl) (fun vs H Q E h => ?_) (fun f cdv A outer s H vs Q E hr h => ?_)
  · obtain ⟨r, p, lb, lt, wd, ns, bs, ts, count, place, rfl, _⟩ := h
    rfl
  · obtain ⟨r, p, lb, lt, wd, ns, bs, ts, count, place, rfl, hS, M, hrow, hts, q⟩ := h
    refine ⟨_, (pss_cons (ps_match (pv 0) (pm_seq rfl S.nd (.cons (i := 3) rfl (Or.inl rfl) (by first | exact .inl rfl | exact .inr rfl) (.cons (i := 4) rfl (Or.inl rfl) (by first | exact .inl rfl | exact .inr rfl) (.cons (i := 5) rfl (Or.inl rfl) (by first | exact .inl rfl | exact .inr rfl) .nil))) (pss_cons (ps_set (i := 6) S.nd rfl (Or.inl rfl) (C8.pe_mt M_look hr (by decide) (pv 2) (pa_cons (pv 3) pa_nil)))
  (pss_one (ps_if (pt_cmpR op_lt (pv 6) (C8.pe_mt M_look hr (by decide) (pv 2) (pa_cons (pv 4) pa_nil)) (nomark _)) (pss_one (ps_ret (pv 5))) pss_nil)))
  (pm_seq rfl S.nd (.cons (i := 5) rfl (Or.inl rfl) (by first | exact .inl rfl | exact .inr rfl) .nil) (pss_one (ps_ret (pv 5)))
  pm_nil)))
  (pss_one (ps_ret (pe_op op_add (pv 1) pe_int)))), ?_⟩
    obtain ⟨hne, ⟨dx, h1⟩, _⟩ := id M
    have l1 : ∀ x : Str × Int, (ts ++ [x]).length ≤ 10000 := fun x => by rw [List.length_append, List.length_singleton]; omega
    have end0 : nextT wd ns = [] → Q (.int (nextOf wd ns bs place)) H := fun e => q H (fun _ _ e _ _ => e) (by rw [e, List.append_nil]; exact M)
    cases hrow with
    | @less o t g o0 o1 t0 t1 g0 g1 =>
      refine ⟨_, rfl, r, _, _, rfl, hS, fun _ => ?_, fun h => absurd ⟨rfl, rfl⟩ h⟩
      refine ⟨_, rfl, p, dx, _, rfl, h1, rfl, _, rfl, p, lb, lt, bs, _, _, _, rfl, M, o0, at0_get o0 o1, (by omega), fun H2 fr2 M2 => ?_⟩
      obtain ⟨_, ⟨dx2, g2⟩, _⟩ := id M2
      refine ⟨_, rfl, _, rfl, p, dx2, _, rfl, g2, rfl, _, rfl, p, lb, lt, bs, _, _, _, rfl, M2, t0, at0_get t0 t1, (l1 _), fun H3 fr3 M3 => ?_⟩
      rw [List.append_assoc] at M3
      have q3 := q H3 (fun a o e x y => fr3 _ _ (fr2 _ _ e y y) y y) M3
      by_cases hlt : at0 bs o < at0 bs t
      · refine ⟨_, _, rfl, rfl, true, bl_of (decide_eq_true hlt), ?_⟩
        rw [show nextOf "less" [o, t, g] bs place = g from if_pos hlt] at q3
        exact ⟨_, rfl, q3⟩
      · refine ⟨_, _, rfl, rfl, false, bl_of (decide_eq_false hlt), ?_⟩
        rw [show nextOf "less" [o, t, g] bs place = place + 1 from if_neg hlt] at q3
        exact ⟨_, rfl, _, _, rfl, rfl, q3⟩
    | @jump g g0 g1 =>
      refine ⟨_, rfl, r, _, _, rfl, hS, fun h => absurd h.2 (by decide), fun _ => ?_⟩
      refine ⟨r, _, _, rfl, hS, fun _ => ?_, fun h => absurd ⟨rfl, rfl⟩ h⟩
      exact ⟨_, rfl, end0 rfl⟩
    | _ =>
      refine ⟨_, rfl, r, _, _, rfl, hS, fun h => absurd h.2 (by decide), fun _ => ?_⟩
      refine ⟨r, _, _, rfl, hS, fun h => absurd h.2 (by decide), fun _ => ?_⟩
      exact ⟨_, rfl, _, _, rfl, rfl, end0 rfl⟩

def spInit (C : Addr) : Sp := fun vs H Q _ => ∃ (H0 : Hp) (p dx lb : Addr) (bs : List Int), vs = [.ref p, .ref lb] ∧ Same H0 H ∧ H0 p = none ∧ H p = some (.ins C dx []) ∧ H0 lb = some (.lst (bs.map V.int)) ∧ ∀ H' lt, Same H0 H' → H0 lt = none → Mem C H' p lb lt bs [] → Q .non H'
abbrev s_Watched___init__ : Stmt := inClass (top 20) 0
abbrev N_Watched___init__ : List Str := ["self", "boxes"]
theorem S_Watched___init__ : FnScope N_Watched___init__ ["self", "boxes"] (defScope s_Watched___init__) := ⟨rfl, rfl, rfl, by decide +kernel, rfl, by decide +kernel, by decide +kernel⟩

theorem m_init {C : Addr} (W : WCls K C) (mk : PySem.W.makesIn K C = true) (kc : PySem.W.keepIn K (.ref C) = true) (hm : mg "Watched" = some (.ref C)) (D : MethAt K C "__init__" "Watched.__init__" s_Watched___init__) : C8.Mak P w K mg base 1 "Watched" C (spInit C) [] := by
  have S := S_Watched___init__
  refine mak_of mk kc hm D S (fun _ _ _ _ _ _ us hl => match us, hl with | [_, _], _ => rfl) (fun vs H Q E h => ?_) (fun f cdv A outer s H vs Q E hr h => ?_)
  · obtain ⟨H0, p, dx, lb, bs, rfl, _⟩ := h
    rfl
  · obtain ⟨H0, p, dx, lb, bs, rfl, s0, p0, hp, hb, q⟩ := h
    refine ⟨_, (pss_cons (ps_fld (pv 0) (pv 1) rfl)
  (pss_one (ps_fld (pv 0) (pe_lst pa_nil) rfl))), ?_⟩
    refine ⟨_, rfl, _, rfl, p, C, dx, [], rfl, hp, W.cl, W.nB, (by show 0 < 1000; decide), ?_⟩
    refine ⟨sz_ok rfl, fun lt nt => ?_⟩
    have npl : p ≠ lt := fun z => by
      rw [← z, upd_same] at nt
      cases nt
    have nt0 : H lt = none := by
      rw [upd_ne npl.symm] at nt
      exact nt
    have hbH := s0 _ _ hb
    have nbp : lb ≠ p := fun z => by rw [z, p0] at hb; cases hb
    have nbt : lb ≠ lt := ne_of_none hbH nt0
    refine ⟨_, rfl, p, C, dx, _, rfl, by rw [upd_ne npl]; exact upd_same, W.cl, W.nT, (by show 1 < 1000; decide), ?_⟩
    refine q _ lt (fun b o e => ?_) (s0.free nt0) ⟨nbt, ⟨dx, upd_same⟩, by rw [upd_ne nbp, upd_ne nbt, upd_ne nbp]; exact hbH, [], by rw [upd_ne npl.symm, upd_same], rfl, fun j t e => by simp at e⟩
    have n1 : b ≠ p := fun z => by rw [z, p0] at e; cases e
    rw [upd_ne n1, upd_ne (ne_of_none (s0 _ _ e) nt0), upd_ne n1]
    exact s0 _ _ e
structure Ms where
  place : Int
  bs : List Int
  ts : List (Str × Int)
  tv : List Int
abbrev Rw := Str × List Int
def stepM (rows : List Rw) (s : Ms) : Ms := match rows[s.place.toNat]? with
  | some r => ⟨nextOf r.1 r.2 (boxesOf r.1 r.2 s.bs) s.place, boxesOf r.1 r.2 s.bs, s.ts ++ touchesOf r.1 r.2 s.bs ++ nextT r.1 r.2, s.tv ++ toldOf r.1 r.2 s.bs⟩
  | none => s
def runM (rows : List Rw) : Nat → Ms → Ms
  | 0, s => s
  | n + 1, s => if s.place < (rows.length : Nat) then runM rows n (stepM rows s) else s
theorem runM_end {rows : List Rw} {s : Ms} (h : ¬ s.place < (rows.length : Nat)) : ∀ n, runM rows n s = s
  | 0 => rfl
  | n + 1 => if_neg h
theorem boxes_len (wd : Str) (ns bs : List Int) : (boxesOf wd ns bs).length = bs.length := by
  unfold boxesOf
  dsimp only
  repeat' split
  all_goals first | rfl | rw [List.length_set]
theorem touches_len (wd : Str) (ns bs : List Int) : (touchesOf wd ns bs).length ≤ 3 := by
  unfold touchesOf
  dsimp only
  repeat' split
  all_goals (simp only [List.length_cons, List.length_nil]; omega)
theorem nextT_len (wd : Str) (ns : List Int) : (nextT wd ns).length ≤ 2 := by
  unfold nextT
  split
  all_goals (simp only [List.length_cons, List.length_nil]; omega)
theorem told_len (wd : Str) (ns bs : List Int) : (toldOf wd ns bs).length ≤ 1 := by
  unfold toldOf
  split
  all_goals (simp only [List.length_cons, List.length_nil]; omega)
theorem next_in {size count : Int} {wd : Str} {ns bs : List Int} {place : Int} (h : RowOk size count wd ns) (h0 : 0 ≤ place) (h1 : place < count) : 0 ≤ nextOf wd ns bs place ∧ nextOf wd ns bs place ≤ count := by
  cases h with
  | @less o t g o0 o1 t0 t1 g0 g1 =>
    by_cases hlt : at0 bs o < at0 bs t
    · rw [show nextOf "less" [o, t, g] bs place = g from if_pos hlt]; omega
    · rw [show nextOf "less" [o, t, g] bs place = place + 1 from if_neg hlt]; omega
  | @jump g g0 g1 => exact ⟨g0, g1⟩
  | _ => exact ⟨by show 0 ≤ place + 1; omega, by show place + 1 ≤ count; omega⟩
theorem sqt_fr3 {H H' : Hp} {a b c r : Addr} {xs ua ub uc : List V} (h : SqT K H r xs) (ha : H a = some (.lst ua)) (hb : H b = some (.lst ub)) (hc : H c = some (.lst uc)) (f : Fr3 H H' a b c) : SqT K H' r xs := by
  have go : ∀ o, H r = some o → (∀ u, o ≠ .lst u) → H' r = some o := fun o e n => f _ _ e (fun z => by rw [z, ha] at e; cases e; exact n _ rfl) (fun z => by rw [z, hb] at e; cases e; exact n _ rfl) (fun z => by rw [z, hc] at e; cases e; exact n _ rfl)
  rcases h with (h | ⟨o, h⟩) | h
  · exact .inl (.inl (go _ h fun u z => nomatch z))
  · exact .inl (.inr ⟨o, go _ h fun u z => nomatch z⟩)
  · exact .inr h
/-- the program at pg -/
def Prg (K : PySem.W.Frag) (H : Hp) (pg : Addr) (rows : List Rw) : Prop := ∃ xs : List V, H pg = some (.lst xs) ∧ xs.length = rows.length ∧ ∀ (j : Nat) (r : Rw), rows[j]? = some r → ∃ a, xs[j]? = some (V.ref a) ∧ SqT K H a (.str r.1 :: r.2.map V.int)
theorem Prg.fr {H H' : Hp} {pg a b c : Addr} {rows : List Rw} {ua ub uc : List V} (h : Prg K H pg rows) (n1 : pg ≠ a) (n2 : pg ≠ b) (n3 : pg ≠ c) (ha : H a = some (.lst ua)) (hb : H b = some (.lst ub)) (hc : H c = some (.lst uc)) (f : Fr3 H H' a b c) : Prg K H' pg rows := by
  obtain ⟨xs, h1, h2, h3⟩ := h
  refine ⟨xs, f _ _ h1 n1 n2 n3, h2, fun j r e => ?_⟩
  obtain ⟨q, e1, e2⟩ := h3 j r e
  exact ⟨q, e1, sqt_fr3 e2 ha hb hc f⟩
def endOf (rows : List Rw) (s : Ms) : Str := if s.place < (rows.length : Nat) then "steps" else "over"
def spWalk (K : PySem.W.Frag) (C : Addr) : Sp := fun vs H Q _ => ∃ (pg p lb lt : Addr) (rows : List Rw) (bs : List Int) (n : Nat), vs = [.ref pg, .ref p, .int (bs.length : Nat), .int (n : Nat)] ∧ Prg K H pg rows ∧ (∀ r ∈ rows, RowOk (bs.length : Nat) (rows.length : Nat) r.1 r.2) ∧ Mem C H p lb lt bs [] ∧ pg ≠ lb ∧ pg ≠ lt ∧ n ≤ 1000 ∧
  ∀ H' q tl, Fr H H' lb lt → H tl = none → H q = none → Mem C H' p lb lt (runM rows n ⟨0, bs, [], []⟩).bs (runM rows n ⟨0, bs, [], []⟩).ts → H' tl = some (.lst ((runM rows n ⟨0, bs, [], []⟩).tv.map V.int)) → tl ≠ lb → tl ≠ lt → H' q = some (.tup [.ref tl, .str (endOf rows (runM rows n ⟨0, bs, [], []⟩))]) → Q (.ref q) H'
abbrev s_walk : Stmt := top 22
abbrev N_walk : List Str := ["program", "memory", "size", "steps", "told", "place", "done", "row"]
theorem S_walk : FnScope N_walk ["program", "memory", "size", "steps"] (defScope s_walk) := ⟨rfl, rfl, rfl, by decide +kernel, rfl, by decide +kernel, by decide +kernel⟩

theorem c_walk {C : Addr} (T : Txt K w mg) (D : DefAt K "walk" s_walk) (C__act : Cal P w K mg base CX0 2 "_act" (spAct K C)) (C__next_place : Cal P w K mg base CX0 2 "_next_place" (spNext K C)) : Cal P w K mg base CX0 3 "walk" (spWalk K C) := by
  have S := S_walk
  refine cal_of T.toTop D S (fun _ _ _ _ _ _ us hl => match us, hl with | [_, _, _, _], _ => rfl) (fun vs H Q E h => ?_) (fun f cdv A outer s H vs Q E hr h => ?_)
  · obtain ⟨pg, p, lb, lt, rows, bs, n, rfl, _⟩ := h
    rfl
  · obtain ⟨pg, p, lb, lt, rows, bs, n, rfl, hP, hR, M, np1, np2, hn, q⟩ := h
    refine ⟨_, (pss_cons (ps_set (i := 4) S.nd rfl (Or.inl rfl) (pe_lst pa_nil))
  (pss_cons (ps_set (i := 5) S.nd rfl (Or.inl rfl) pe_int)
  (pss_cons (ps_set (i := 6) S.nd rfl (Or.inl rfl) pe_int)
  (pss_cons (ps_while PassesOwn.never (PW.pt (pw_and (pt_cmpR op_lt (pv 5) (pe_callB call_len_seq (by rfl) T.len PySem.boot_len (pa_cons (pv 0) pa_nil)) (nomark _)) (pw_and1 (pt_cmpR op_lt (pv 6) (pv 3) (nomark _)))))
  (pss_cons (ps_set (i := 7) S.nd rfl (Or.inl rfl) (pe_ix ix_list (pv 0) (pv 5) (fun _ _ => rfl)))
  (pss_cons (ps_expr (pe_c C__act hr (by decide) rfl (pa_cons (pv 7) (pa_cons (pv 1) (pa_cons (pv 2) (pa_cons (pv 4) pa_nil))))))
  (pss_cons (ps_set (i := 5) S.nd rfl (Or.inl rfl) (pe_c C__next_place hr (by decide) rfl (pa_cons (pv 7) (pa_cons (pv 5) (pa_cons (pv 1) pa_nil)))))
  (pss_one (ps_aug (i := 6) S.nd rfl (Or.inl rfl) pe_int ip_add))))))
  (pss_cons (ps_if (pt_cmpR op_lt (pv 5) (pe_callB call_len_seq (by rfl) T.len PySem.boot_len (pa_cons (pv 0) pa_nil)) (nomark _)) (pss_one (ps_ret (pe_tup (pa_cons (pv 4) (pa_cons pe_str pa_nil))))) pss_nil)
  (pss_one (ps_ret (pe_tup (pa_cons (pv 4) (pa_cons pe_str pa_nil)))))))))), ?_⟩
    refine ⟨sz_ok rfl, fun tl nt => ?_⟩
    have t0 : Same H (upd H tl (.lst [])) := Same.new nt
    have gt : upd H tl (.lst []) tl = some (.lst (([] : List Int).map V.int)) := upd_same
    obtain ⟨hne, _, hlb, us0, hlt, _⟩ := id M
    have nl1 : tl ≠ lb := (ne_of_none hlb nt).symm
    have nl2 : tl ≠ lt := (ne_of_none hlt nt).symm
    have nl3 : pg ≠ tl := by
      obtain ⟨xs, h1, _⟩ := hP
      exact ne_of_none h1 nt
    refine ⟨fun m σ H' => ∃ (k : Nat) (z : Ms) (v7 : Option V), m = n - k ∧ k ≤ n ∧ σ = [some (.ref pg), some (.ref p), some (.int (bs.length : Nat)), some (.int (n : Nat)), some (.ref tl), some (.int z.place), some (.int (k : Nat)), v7] ∧
      runM rows (n - k) z = runM rows n ⟨0, bs, [], []⟩ ∧ 0 ≤ z.place ∧ z.place ≤ (rows.length : Nat) ∧ z.bs.length = bs.length ∧ z.ts.length ≤ 5 * k ∧ z.tv.length ≤ k ∧ Mem C H' p lb lt z.bs z.ts ∧ H' tl = some (.lst (z.tv.map V.int)) ∧ Prg K H' pg rows ∧ Fr H H' lb lt, ⟨n, 0, ⟨0, bs, [], []⟩, none, by omega, by omega, rfl, rfl, Int.le_refl _, Int.natCast_nonneg _, rfl, Nat.zero_le _, Nat.zero_le _, ?_, gt, ?_, ?_⟩, fun m σ H1 hW => ?_⟩
    · obtain ⟨hne, ⟨dx, h1⟩, h2, us, h3, h4, h5⟩ := M
      exact ⟨hne, ⟨dx, t0 _ _ h1⟩, t0 _ _ h2, us, t0 _ _ h3, h4, fun j t e => by simp at e⟩
    · obtain ⟨xs, h1, h2, h3⟩ := hP
      refine ⟨xs, t0 _ _ h1, h2, fun j r e => ?_⟩
      obtain ⟨a, e1, e2⟩ := h3 j r e
      exact ⟨a, e1, t0.sqt e2⟩
    · exact fun a o e _ _ => t0 _ _ e
    · obtain ⟨k, z, v7, rfl, hk, rfl, hrun, hz0, hz1, hbl, htl, htv, M1, gt1, hP1, fr1⟩ := hW
      obtain ⟨xs, hx1, hx2, hx3⟩ := id hP1
      have fin : runM rows n ⟨0, bs, [], []⟩ = z → ∀ e : Str, endOf rows z = e → ∀ q0, H1 q0 = none → Q (.ref q0) (upd H1 q0 (.tup [.ref tl, .str e])) := fun hf e he q0 nq => by
        have nq0 : H q0 = none := by
          cases e0 : H q0 with
          | none => rfl
          | some o =>
            by_cases a1 : q0 = lb
            · rw [a1, M1.2.2.1] at nq; cases nq
            · by_cases a2 : q0 = lt
              · obtain ⟨_, _, _, us, h3, _⟩ := M1
                rw [a2, h3] at nq; cases nq
              · rw [fr1 _ _ e0 a1 a2] at nq; cases nq
        have s1 : Same H1 (upd H1 q0 (.tup [.ref tl, .str e])) := Same.new nq
        refine q _ q0 tl (fun a o e a1 a2 => s1 _ _ (fr1 _ _ e a1 a2)) nt nq0 ?_ ?_ nl1 nl2 ?_
        · rw [hf]
          exact M1.keep gt1 nl1 nl2 fun a o e _ => s1 _ _ e
        · rw [hf]
          exact s1 _ _ gt1
        · rw [hf, he]
          exact upd_same
      refine ⟨_, rfl, _, rfl, pg, xs, rfl, .inl (SqL.of hx1), _, _, rfl, rfl, ?_⟩
      by_cases hp : z.place < (rows.length : Nat)
      case neg =>
        refine ⟨false, bl_of (decide_eq_false (by rw [hx2]; exact hp)), ?_⟩
        refine ⟨_, rfl, _, rfl, pg, xs, rfl, .inl (SqL.of hx1), _, _, rfl, rfl, false, bl_of (decide_eq_false (by rw [hx2]; exact hp)), ?_⟩
        exact ⟨_, rfl, sz_ok rfl, fun q0 nq => fin (hrun.symm.trans (runM_end hp _)) "over" (if_neg hp) q0 nq⟩
      refine ⟨true, bl_of (decide_eq_true (by rw [hx2]; exact hp)), ?_⟩
      by_cases hk2 : k < n
      case neg =>
        refine ⟨_, rfl, _, rfl, _, _, rfl, rfl, false, bl_of (decide_eq_false (by omega)), ?_⟩
        refine ⟨_, rfl, _, rfl, pg, xs, rfl, .inl (SqL.of hx1), _, _, rfl, rfl, true, bl_of (decide_eq_true (by rw [hx2]; exact hp)), ?_⟩
        exact ⟨_, rfl, sz_ok rfl, fun q0 nq => fin (hrun.symm.trans (by rw [show n - k = 0 by omega]; rfl)) "steps" (if_pos hp) q0 nq⟩
      refine ⟨_, rfl, _, rfl, _, _, rfl, rfl, true, bl_of (decide_eq_true (by omega)), ?_⟩
      refine ⟨_, fun _ _ h => h, ?_⟩
      have hj : z.place.toNat < rows.length := by omega
      obtain ⟨⟨wd, ns⟩, erow⟩ : ∃ r, rows[z.place.toNat]? = some r := ⟨_, List.getElem?_eq_getElem hj⟩
      obtain ⟨a, ea, hS⟩ := hx3 _ _ erow
      have hro := hR _ (List.mem_of_getElem? erow)
      have hl1 := touches_len wd ns z.bs
      have hl2 := nextT_len wd ns
      have hl3 := told_len wd ns z.bs
      obtain ⟨_, _, hlb1, us1, hlt1, _⟩ := id M1
      refine ⟨_, rfl, _, rfl, pg, xs, _, .ref a, rfl, rfl, SqL.of hx1, at_in hz0 ea, ?_⟩
      refine ⟨_, rfl, _, rfl, _, rfl, _, rfl, a, p, lb, lt, tl, wd, ns, z.bs, z.tv, z.ts, (rows.length : Nat), by rw [hbl]; rfl, hS, M1, gt1, nl1, nl2, by rw [hbl]; exact hro, by omega, by omega, fun H2 fr2 M2 gt2 => ?_⟩
      have hS2 := sqt_fr3 hS hlb1 hlt1 gt1 fr2
      have hP2 := hP1.fr np1 np2 nl3 hlb1 hlt1 gt1 fr2
      have hbl2 : (boxesOf wd ns z.bs).length = bs.length := (boxes_len _ _ _).trans hbl
      obtain ⟨_, _, hlb2, us2, hlt2, _⟩ := id M2
      refine ⟨_, rfl, _, rfl, _, rfl, a, p, lb, lt, wd, ns, boxesOf wd ns z.bs, z.ts ++ touchesOf wd ns z.bs, (rows.length : Nat), z.place, rfl, hS2, M2, by rw [hbl2]; exact hro, by rw [List.length_append]; omega, fun H3 fr3 M3 => ?_⟩
      have fr33 : Fr3 H2 H3 lb lt tl := fun a o e _ y _ => fr3 _ _ e y y
      have hP3 := hP2.fr np1 np2 nl3 hlb2 hlt2 gt2 fr33
      have gt3 := fr3 _ _ gt2 nl2 nl2
      refine ⟨_, rfl, _, _, rfl, rfl, ?_⟩
      have hst : stepM rows z = ⟨nextOf wd ns (boxesOf wd ns z.bs) z.place, boxesOf wd ns z.bs, z.ts ++ touchesOf wd ns z.bs ++ nextT wd ns, z.tv ++ toldOf wd ns z.bs⟩ := by
        unfold stepM
        rw [erow]
      have hni := next_in (bs := boxesOf wd ns z.bs) hro hz0 hp
      refine ⟨n - (k + 1), by omega, k + 1, ⟨nextOf wd ns (boxesOf wd ns z.bs) z.place, boxesOf wd ns z.bs, z.ts ++ touchesOf wd ns z.bs ++ nextT wd ns, z.tv ++ toldOf wd ns z.bs⟩, _, rfl, by omega, rfl, ?_, hni.1, hni.2, hbl2, ?_, ?_, M3, gt3, hP3, fun a o e x y => ?_⟩
      · rw [← hst, ← hrun, show n - k = (n - (k + 1)) + 1 by omega]
        exact (if_pos hp).symm
      · simp only [List.length_append]
        omega
      · simp only [List.length_append]
        omega
      · have e1 := fr1 _ _ e x y
        exact fr3 _ _ (fr2 _ _ e1 x y fun w => by rw [w, nt] at e; cases e) y y

def rowD (r : Rw) : PyData := .tuple (.str r.1 :: r.2.map .int)
theorem whole_yes {i lo hi : Int} (h0 : lo ≤ i) (h1 : i ≤ hi) : wholeIn (.int i) lo hi = true := by
  show (decide (lo ≤ i) && decide (i ≤ hi)) = true
  rw [decide_eq_true h0, decide_eq_true h1]
  rfl
theorem rowOk_fits {size count : Int} {wd : Str} {ns : List Int} (h : RowOk size count wd ns) : fitsD (rowD (wd, ns)) size count = true := by
  have go1 : ∀ (k1 : Str) (a : Int), 0 ≤ a → a ≤ lastOf size count k1 → fitK size count [k1] [.int a] = true := fun k1 a h0 h1 => by
    show (wholeIn (.int a) 0 (lastOf size count k1) && true) = true
    rw [whole_yes h0 h1]; rfl
  have go2 : ∀ (k1 k2 : Str) (a b : Int), 0 ≤ a → a ≤ lastOf size count k1 → 0 ≤ b → b ≤ lastOf size count k2 → fitK size count [k1, k2] [.int a, .int b] = true := fun k1 k2 a b h0 h1 h2 h3 => by
    show (wholeIn (.int a) 0 (lastOf size count k1) && (wholeIn (.int b) 0 (lastOf size count k2) && true)) = true
    rw [whole_yes h0 h1, whole_yes h2 h3]; rfl
  have go3 : ∀ (k1 k2 k3 : Str) (a b c : Int), 0 ≤ a → a ≤ lastOf size count k1 → 0 ≤ b → b ≤ lastOf size count k2 → 0 ≤ c → c ≤ lastOf size count k3 → fitK size count [k1, k2, k3] [.int a, .int b, .int c] = true := fun k1 k2 k3 a b c h0 h1 h2 h3 h4 h5 => by
    show (wholeIn (.int a) 0 (lastOf size count k1) && (wholeIn (.int b) 0 (lastOf size count k2) && (wholeIn (.int c) 0 (lastOf size count k3) && true))) = true
    rw [whole_yes h0 h1, whole_yes h2 h3, whole_yes h4 h5]; rfl
  have eb : lastOf size count "box" = size - 1 := rfl
  have en : lastOf size count "number" = 999999 := rfl
  have ep : lastOf size count "place" = count := rfl
  cases h with
  | set h0 h1 h2 h3 => exact (fitsD_yes (l := ["box", "number"]) (by rfl) rfl).trans (go2 _ _ _ _ h0 (by rw [eb]; omega) h2 (by rw [en]; omega))
  | copy h0 h1 h2 h3 => exact (fitsD_yes (l := ["box", "box"]) (by rfl) rfl).trans (go2 _ _ _ _ h0 (by rw [eb]; omega) h2 (by rw [eb]; omega))
  | add h0 h1 h2 h3 h4 h5 => exact (fitsD_yes (l := ["box", "box", "box"]) (by rfl) rfl).trans (go3 _ _ _ _ _ _ h0 (by rw [eb]; omega) h2 (by rw [eb]; omega) h4 (by rw [eb]; omega))
  | sub h0 h1 h2 h3 h4 h5 => exact (fitsD_yes (l := ["box", "box", "box"]) (by rfl) rfl).trans (go3 _ _ _ _ _ _ h0 (by rw [eb]; omega) h2 (by rw [eb]; omega) h4 (by rw [eb]; omega))
  | fetch h0 h1 h2 h3 => exact (fitsD_yes (l := ["box", "box"]) (by rfl) rfl).trans (go2 _ _ _ _ h0 (by rw [eb]; omega) h2 (by rw [eb]; omega))
  | store h0 h1 h2 h3 => exact (fitsD_yes (l := ["box", "box"]) (by rfl) rfl).trans (go2 _ _ _ _ h0 (by rw [eb]; omega) h2 (by rw [eb]; omega))
  | less h0 h1 h2 h3 h4 h5 => exact (fitsD_yes (l := ["box", "box", "place"]) (by rfl) rfl).trans (go3 _ _ _ _ _ _ h0 (by rw [eb]; omega) h2 (by rw [eb]; omega) h4 (by rw [ep]; omega))
  | jump h0 h1 => exact (fitsD_yes (l := ["place"]) (by rfl) rfl).trans (go1 _ _ h0 (by rw [ep]; omega))
  | tell h0 h1 => exact (fitsD_yes (l := ["box"]) (by rfl) rfl).trans (go1 _ _ h0 (by rw [eb]; omega))
def RowsAt (K : PySem.W.Frag) (H : Hp) (xs : List V) (rows : List Rw) : Prop := xs.length = rows.length ∧ ∀ (j : Nat) (r : Rw), rows[j]? = some r → ∃ a, xs[j]? = some (V.ref a) ∧ SqT K H a (.str r.1 :: r.2.map V.int)
theorem RowsAt.dp {H : Hp} {xs : List V} {rows : List Rw} (h : RowsAt K H xs rows) : DpAll K H xs (rows.map rowD) := by
  refine dpA_by (by rw [List.length_map]; exact h.1) fun j v e => ?_
  have hj : j < rows.length := by
    obtain ⟨hj, _⟩ := List.getElem?_eq_some_iff.mp e
    have := h.1
    omega
  obtain ⟨a, e1, e2⟩ := h.2 j _ (List.getElem?_eq_getElem hj)
  rw [e] at e1
  cases e1
  refine ⟨rowD rows[j], by rw [List.getElem?_map, List.getElem?_eq_getElem hj]; rfl, .tup e2 ?_⟩
  refine .cons (.str _) ?_
  have := dpAll_flat2 (K := K) (H := H) (xs := rows[j].2.map V.int) (by rw [List.all_map]; exact List.all_eq_true.mpr fun _ _ => rfl)
  rw [List.map_map] at this
  exact this
theorem rows_good {rows : List Rw} {size : Int} (h : ∀ r ∈ rows, RowOk size (rows.length : Nat) r.1 r.2) (hl : rows.length ≤ 200) : goodR (rows.map rowD) size = true := by
  unfold goodR
  rw [List.length_map, decide_eq_true hl, Bool.true_and, List.all_map]
  exact List.all_eq_true.mpr fun r hr => rowOk_fits (h r hr)
theorem boxes_good {bs : List Int} (h : ∀ b ∈ bs, 0 ≤ b ∧ b < 1000000) (h1 : 1 ≤ bs.length) (h2 : bs.length ≤ 200) : goodB ((bs.map V.int).map dOf) = true := by
  unfold goodB
  rw [List.length_map, List.length_map, decide_eq_true h1, decide_eq_true h2, Bool.true_and, Bool.true_and, List.map_map, List.all_map]
  exact List.all_eq_true.mpr fun b hb => whole_yes (h b hb).1 (by have := (h b hb).2; omega)
/-- the touches that stand at lt -/
def TchAt (H : Hp) (lt : Addr) (ts : List (Str × Int)) : Prop := ∃ us : List V, H lt = some (.lst us) ∧ us.length = ts.length ∧ ∀ (j : Nat) (t : Str × Int), ts[j]? = some t → ∃ q, us[j]? = some (V.ref q) ∧ H q = some (.tup (tchV t))

-- SPLIT
def spLineOf : Sp := fun vs H Q _ => ∃ b wd : Int, vs = [.int b, .int wd] ∧ 0 < wd ∧ wd < 1073741824 ∧ Q (.int (b / wd)) H
abbrev s_line_of : Stmt := top 26
abbrev N_line_of : List Str := ["box", "width"]
theorem S_line_of : FnScope N_line_of ["box", "width"] (defScope s_line_of) := ⟨rfl, rfl, rfl, by decide +kernel, rfl, by decide +kernel, by decide +kernel⟩

theorem c_line_of (T : Txt K w mg) (D : DefAt K "line_of" s_line_of) : Cal P w K mg base CX0 1 "line_of" spLineOf := by
  have S := S_line_of
  refine cal_of T.toTop D S (fun _ _ _ _ _ _ us hl => match us, hl with | [_, _], _ => rfl) (fun vs H Q E h => ?_) (fun f cdv A outer s H vs Q E hr h => ?_)
  · obtain ⟨b, wd, rfl, _⟩ := h
    rfl
  · obtain ⟨b, wd, rfl, h0, h1, q⟩ := h
    refine ⟨_, (pss_one (ps_ret (pe_op op_fdiv (pv 0) (pv 1)))), ?_⟩
    exact ⟨_, rfl, _, rfl, _, _, rfl, rfl, ⟨h0, h1⟩, q⟩

/-- what a class of near lines has -/
structure NCls (K : PySem.W.Frag) (C : Addr) : Prop where
  cl : Cls K C
  nFar : NoAttr K C "far"
  nFound : NoAttr K C "found"
  nMissed : NoAttr K C "missed"
  nBack : NoAttr K C "back"
  nRoom : NoAttr K C "_room"
  nWidth : NoAttr K C "_width"
  nRule : NoAttr K C "_rule"
  nLines : NoAttr K C "_lines"
  nWritten : NoAttr K C "_written"
def spWriteBack (C : Addr) : Sp := fun vs H Q _ => ∃ (a : Na) (par : Np) (s : Ns) (L : Int), vs = [.ref a.p, .int L] ∧ NearAt C H a par s ∧ GoodS par s ∧ L ∈ s.keys ∧ L ∈ s.written ∧ s.far.length ≤ 300 ∧ par.wd ≤ 300 ∧ par.room ≤ 300 ∧
  ∀ H', NearAt C H' a par (wbS par.wd s L) → Step H a s H' (wbS par.wd s L) → Q .non H'
theorem key_get {s : Ns} {L : Int} (h : L ∈ s.keys) : ∃ b ns, lkP s.lines L = some (b, ns) ∧ (L, (b, ns)) ∈ s.lines := by
  have := lk_some (ps := s.lines) (l := L)
  rw [decide_eq_true (show L ∈ s.lines.map (·.1) from h)] at this
  obtain ⟨x, hx⟩ := Option.isSome_iff_exists.mp this
  exact ⟨x.1, x.2, hx, lk_mem hx⟩
theorem dget_ln {C : Addr} {H : Hp} {a : Na} {par : Np} {s : Ns} (h : NearAt C H a par s) {L : Int} {b : Addr} {ns : List Int} (e : lkP s.lines L = some (b, ns)) : DGet H a.dl (.int L) (some (.ref b)) := by
  have := DGet.k (k := Sum.inl L) h.dl
  rw [dk_val, e] at this
  exact this
theorem blit_map (far ns : List Int) (st hi : Int) (h0 : 0 ≤ st) (e : hi = st + (ns.length : Nat)) : (far.map V.int).take st.toNat ++ ns.map V.int ++ (far.map V.int).drop hi.toNat = (blit far st.toNat ns).map V.int := by
  unfold blit
  rw [List.map_append, List.map_append, List.map_take, List.map_drop, show hi.toNat = st.toNat + ns.length by omega]
abbrev s_Near__write_back : Stmt := inClass (top 30) 9
abbrev N_Near__write_back : List Str := ["self", "line", "numbers", "start"]
theorem S_Near__write_back : FnScope N_Near__write_back ["self", "line"] (defScope s_Near__write_back) := ⟨rfl, rfl, rfl, by decide +kernel, rfl, by decide +kernel, by decide +kernel⟩

theorem m_write_back {C : Addr} (T : Txt K w mg) (W : NCls K C) (D : MethAt K C "_write_back" "Near._write_back" s_Near__write_back) : C8.Met P w K mg base 1 C "_write_back" (spWriteBack C) [] := by
  have S := S_Near__write_back
  refine met_of W.cl D S (fun _ _ _ _ _ _ us hl => match us, hl with | [_, _], _ => rfl) (fun vs H Q E h => ?_) (fun f cdv A outer s H vs Q E hr h => ?_)
  · obtain ⟨a, par, s, L, rfl, _⟩ := h
    rfl
  · obtain ⟨a, par, s, L, rfl, N, G, hk, hw, hf, hwd, hro, q⟩ := h
    refine ⟨_, (pss_cons (ps_set (i := 2) S.nd rfl (Or.inl rfl) (pe_dget (hu_of hr) (pe_fld (pv 0) rfl) (pv 1) (fun _ _ => rfl)))
  (pss_cons (ps_set (i := 3) S.nd rfl (Or.inl rfl) (pe_op op_mul (pv 1) (pe_fld (pv 0) rfl)))
  (pss_cons (ps_slput (pe_fld (pv 0) rfl) (pv 3) (pe_op op_add (pv 3) (pe_callB call_len_seq (by rfl) T.len PySem.boot_len (pa_cons (pv 2) pa_nil))) (pv 2) rfl)
  (pss_cons (ps_fldaug (pv 0) pe_int in_add)
  (pss_one (ps_ddel (pe_fld (pv 0) rfl) (pv 1))))))), ?_⟩
    obtain ⟨dx, hi⟩ := N.ins
    obtain ⟨b, ns, hlk, hm⟩ := key_get hk
    obtain ⟨hb, _⟩ := N.lns _ hm
    obtain ⟨nbp, nbf, nbl, nbw⟩ := N.lnd hm
    obtain ⟨pf, pl, pw, fl, fw, lw⟩ := N.dist
    obtain ⟨h0, h1, h2⟩ := G.nums _ hm
    have w1 := G.w1
    simp only at h0 h1 h2 hb nbp nbf nbl nbw
    have hst : 0 ≤ L * (par.wd : Nat) := Int.mul_nonneg h0 (by omega)
    have hL : L ≤ L * (par.wd : Nat) := by
      have := Int.mul_le_mul_of_nonneg_left (show (1 : Int) ≤ (par.wd : Nat) by omega) h0
      omega
    have enum : numsOf s L = ns := by unfold numsOf; rw [hlk]
    refine ⟨_, rfl, a.p, C, dx, _, _, rfl, hi, W.cl, W.nLines, rfl, _, rfl, a.dl, _, rfl, dget_ln N hlk, ?_⟩
    refine ⟨_, rfl, _, rfl, a.p, C, dx, _, _, rfl, hi, W.cl, W.nWidth, rfl, _, _, rfl, rfl, .inl ⟨by omega, by omega⟩, ?_⟩
    refine ⟨_, rfl, _, rfl, a.p, C, dx, _, _, rfl, hi, W.cl, W.nFar, rfl, _, rfl, _, rfl, _, rfl, b, _, rfl, .inl (SqL.of hb), _, _, rfl, rfl, ?_⟩
    refine ⟨a.af, b, _, _, _, _, rfl, rfl, rfl, rfl, N.far, hb, Ne.symm nbf, hst, by rw [List.length_map]; omega, by rw [List.length_map, List.length_map]; omega, Nat.le_trans (by rw [List.length_map, List.length_map]; show _ ≤ 1000; omega) (by decide), ?_⟩
    rw [List.length_map, blit_map s.far ns _ _ hst rfl]
    refine ⟨_, rfl, a.p, C, dx, nfs a par s, .int (s.back : Nat), rfl, (by walk_at "hp"), W.cl, W.nBack, rfl, _, _, rfl, rfl, dx, nfs a par s, (by walk_at "hp"), (by show 9 < 1000; decide), ?_⟩
    refine ⟨_, rfl, a.p, C, dx, _, _, rfl, upd_same, W.cl, W.nWritten, rfl, _, rfl, a.dw, _, Sum.inl L, rfl, (by have := N.dw; walk_at "hp"), rfl, by rw [dk_val, Option.isSome_map, lk_some, tk_keys, decide_eq_true hw], ?_⟩
    rw [dk_drop, tk_drop]
    have hN : wbS par.wd s L = { s with far := blit s.far (L * par.wd).toNat ns, back := s.back + 1, written := s.written.filter fun y => y != L } := by unfold wbS; rw [enum]
    refine q _ ⟨⟨dx, ?_⟩, ?_, ?_, ?_, N.ne, fun x hx => ?_, N.nd⟩ (Step.own (fun q' o e n => ?_) fun q' o => o)
    · rw [hN]
      walk_at "hp"
    · rw [hN]
      walk_at "hp"
    · have := N.dl
      walk_at "hp"
    · rw [hN]
      exact upd_same
    · obtain ⟨k1, k2⟩ := N.lns x hx
      obtain ⟨m1, m2, m3, m4⟩ := N.lnd hx
      exact ⟨by walk_at "hp", k2⟩
    · obtain ⟨m1, m2, m3, m4, m5⟩ := nown n
      walk_at "hp"
theorem near_drop {C : Addr} {H H' : Hp} {a : Na} {par : Np} {s s1 : Ns} {L : Int} (N : NearAt C H a par s) (hp : ∃ dx, H' a.p = some (.ins C dx (nfs a par s1))) (hf : H' a.af = some (.lst (s1.far.map V.int))) (hw : H' a.dw = some (.dK (dk gT (tkP s1.written))))
    (hl : H' a.dl = some (.dK (dk lnV (dropP s.lines L)))) (k : ∀ x ∈ s.lines, H' x.2.1 = H x.2.1) : NearAt C H' a par { s1 with lines := dropP s.lines L } :=
  ⟨hp, hf, hl, hw, N.ne, fun x hx => by
    have hx := (drop_sub hx).1
    rw [k x hx]
    exact N.lns x hx, N.nd.sublist (List.Sublist.map _ List.filter_sublist)⟩
def spLetGo (C : Addr) : Sp := fun vs H Q _ => ∃ (a : Na) (par : Np) (s : Ns) (L : Int), vs = [.ref a.p, .int L] ∧ NearAt C H a par s ∧ GoodS par s ∧ L ∈ s.keys ∧ s.far.length ≤ 300 ∧ par.wd ≤ 300 ∧ par.room ≤ 300 ∧
  ∀ H', NearAt C H' a par (goS par.wd s L) → Step H a s H' (goS par.wd s L) → Q .non H'
abbrev s_Near__let_go : Stmt := inClass (top 30) 8
abbrev N_Near__let_go : List Str := ["self", "line"]
theorem S_Near__let_go : FnScope N_Near__let_go ["self", "line"] (defScope s_Near__let_go) := ⟨rfl, rfl, rfl, by decide +kernel, rfl, by decide +kernel, by decide +kernel⟩

theorem m_let_go {C : Addr} (T : Txt K w mg) (W : NCls K C) (D : MethAt K C "_let_go" "Near._let_go" s_Near__let_go) (M_write_back : C8.Met P w K mg base 1 C "_write_back" (spWriteBack C) []) : C8.Met P w K mg base 2 C "_let_go" (spLetGo C) [] := by
  have S := S_Near__let_go
  refine met_of W.cl D S (fun _ _ _ _ _ _ us hl => match us, hl with | [_, _], _ => rfl) (fun vs H Q E h => ?_) (fun f cdv A outer s H vs Q E hr h => ?_)
  · obtain ⟨a, par, s, L, rfl, _⟩ := h
    rfl
  · obtain ⟨a, par, s, L, rfl, N, G, hk, hf, hwd, hro, q⟩ := h
    refine ⟨_, (pss_cons (ps_if (pt_cmp (pc_din (hu_of hr) (pv 1) (pe_fld (pv 0) rfl))) (pss_one (ps_expr (C8.pe_mt M_write_back hr (by decide) (pv 0) (pa_cons (pv 1) pa_nil)))) pss_nil)
  (pss_one (ps_ddel (pe_fld (pv 0) rfl) (pv 1)))), ?_⟩
    obtain ⟨dx, hi⟩ := N.ins
    have tail : ∀ (H1 : Hp) (s1 : Ns), NearAt C H1 a par s1 → s1.lines = s.lines → Step H a s H1 s1 → goS par.wd s L = { s1 with lines := dropP s.lines L } →
        (∃ d dx1, d = a.p ∧ H1 d = some (.ins C dx1 (nfs a par s1))) ∧ NearAt C (upd H1 a.dl (.dK (dropK (dk lnV s1.lines) (Sum.inl L)))) a par (goS par.wd s L) ∧ Step H a s (upd H1 a.dl (.dK (dropK (dk lnV s1.lines) (Sum.inl L)))) (goS par.wd s L) := fun H1 s1 N1 hl1 st e => by
      obtain ⟨dx1, hi1⟩ := N1.ins
      obtain ⟨pf, pl, pw, fl, fw, lw⟩ := N1.dist
      refine ⟨⟨_, dx1, rfl, hi1⟩, ?_, ?_⟩
      · rw [e, ← hl1]
        rw [dk_drop]
        refine near_drop N1 ⟨dx1, by walk_at "hp"⟩ (by have := N1.far; walk_at "hp") (by have := N1.dw; walk_at "hp") upd_same fun x hx => ?_
        exact upd_ne (N1.lnd hx).2.2.1
      · refine st.trans (Step.own (fun q' o e' n => ?_) (own_sub fun x hx => ?_))
        · obtain ⟨m1, m2, m3, m4, m5⟩ := nown n
          walk_at "hp"
        · rw [e] at hx
          exact ⟨x, by rw [hl1]; exact (drop_sub hx).1, rfl⟩
    refine ⟨_, rfl, _, rfl, a.p, C, dx, _, _, rfl, hi, W.cl, W.nWritten, rfl, a.dw, _, rfl, DGet.k (k := Sum.inl L) N.dw, ?_⟩
    rw [dk_val, Option.isSome_map, lk_some, tk_keys]
    by_cases hw : L ∈ s.written
    · refine ⟨true, bl_of (decide_eq_true hw), ?_⟩
      refine ⟨_, rfl, a.p, dx, _, rfl, hi, rfl, _, rfl, a, par, s, L, rfl, N, G, hk, hw, hf, hwd, hro, fun H1 N1 st1 => ?_⟩
      obtain ⟨⟨_, dx1, rfl, hi1⟩, r1, r2⟩ := tail H1 _ N1 rfl st1 (by rw [go_cases, if_pos hw])
      refine ⟨_, rfl, a.p, C, dx1, _, _, rfl, hi1, W.cl, W.nLines, rfl, _, rfl, a.dl, _, Sum.inl L, rfl, N1.dl, rfl, ?_, q _ r1 r2⟩
      rw [dk_val, Option.isSome_map, lk_some]
      exact decide_eq_true hk
    · refine ⟨false, bl_of (decide_eq_false hw), ?_⟩
      obtain ⟨_, r1, r2⟩ := tail H s N rfl (Step.of_same (Same.refl _)) (by rw [go_cases, if_neg hw])
      refine ⟨_, rfl, a.p, C, dx, _, _, rfl, hi, W.cl, W.nLines, rfl, _, rfl, a.dl, _, Sum.inl L, rfl, N.dl, rfl, ?_, q _ r1 r2⟩
      rw [dk_val, Option.isSome_map, lk_some]
      exact decide_eq_true hk
theorem keys_list (s : Ns) : (dk lnV s.lines).map (fun kv => kV kv.1) = s.keys.map V.int := by
  unfold dk Ns.keys
  rw [List.map_map, List.map_map]
  rfl
def spHeld (C : Addr) : Sp := fun vs H Q _ => ∃ (a : Na) (par : Np) (s : Ns), vs = [.ref a.p] ∧ NearAt C H a par s ∧ ∀ H' p, Same H H' → H p = none → H' p = some (.lst (s.keys.map V.int)) → Q (.ref p) H'
abbrev s_Near_held : Stmt := inClass (top 30) 3
abbrev N_Near_held : List Str := ["self"]
theorem S_Near_held : FnScope N_Near_held ["self"] (defScope s_Near_held) := ⟨rfl, rfl, rfl, by decide +kernel, rfl, by decide +kernel, by decide +kernel⟩

theorem m_held {C : Addr} (T : Txt K w mg) (W : NCls K C) (D : MethAt K C "held" "Near.held" s_Near_held) : C8.Met P w K mg base 1 C "held" (spHeld C) [] := by
  have S := S_Near_held
  refine met_of W.cl D S (fun _ _ _ _ _ _ us hl => match us, hl with | [_], _ => rfl) (fun vs H Q E h => ?_) (fun f cdv A outer s H vs Q E hr h => ?_)
  · obtain ⟨a, par, s, rfl, _⟩ := h
    rfl
  · obtain ⟨a, par, s, rfl, N, q⟩ := h
    refine ⟨_, (pss_one (ps_ret (pe_callTy (call_listD rfl) (by rfl) T.list (by decide +kernel) (pa_cons (pe_fld (pv 0) rfl) pa_nil)))), ?_⟩
    obtain ⟨dx, hi⟩ := N.ins
    refine ⟨_, rfl, a.p, C, dx, _, _, rfl, hi, W.cl, W.nLines, rfl, a.dl, _, rfl, .inl N.dl, fun p np => ?_⟩
    rw [keys_list]
    exact q _ p (Same.new np) np upd_same
def spFind (C : Addr) : Sp := fun vs H Q _ => ∃ (a : Na) (par : Np) (s : Ns) (L : Int), vs = [.ref a.p, .int L] ∧ NearAt C H a par s ∧ GoodS par s ∧ L ∈ s.keys ∧ par.room ≤ 300 ∧
  ∀ H', NearAt C H' a par (findS (decide (par.rule = "least")) s L) → Step H a s H' (findS (decide (par.rule = "least")) s L) → Q .non H'
abbrev s_Near__find : Stmt := inClass (top 30) 6
abbrev N_Near__find : List Str := ["self", "line", "numbers"]
theorem S_Near__find : FnScope N_Near__find ["self", "line"] (defScope s_Near__find) := ⟨rfl, rfl, rfl, by decide +kernel, rfl, by decide +kernel, by decide +kernel⟩

theorem m_find {C : Addr} (T : Txt K w mg) (W : NCls K C) (gLeast : ∃ t, mg "LEAST" = some (.str "least" t)) (D : MethAt K C "_find" "Near._find" s_Near__find) : C8.Met P w K mg base 1 C "_find" (spFind C) [] := by
  have S := S_Near__find
  obtain ⟨tL, gLeast⟩ := gLeast
  refine met_of W.cl D S (fun _ _ _ _ _ _ us hl => match us, hl with | [_, _], _ => rfl) (fun vs H Q E h => ?_) (fun f cdv A outer s H vs Q E hr h => ?_)
  · obtain ⟨a, par, s, L, rfl, _⟩ := h
    rfl
  · obtain ⟨a, par, s, L, rfl, N, G, hk, hro, q⟩ := h
    refine ⟨_, (pss_one (ps_if (pt_cmpR op_eq (pe_fld (pv 0) rfl) ((pe_glob (v := .str "least") rfl gLeast ⟨_, rfl⟩)) (nomark _)) (pss_cons (ps_set (i := 2) S.nd rfl (Or.inl rfl) (pe_dpop1 (pe_fld (pv 0) rfl) (pv 1) ⟨by rfl, by rfl, by rfl, by rfl⟩))
  (pss_one (ps_dput (hu_of hr) (pe_fld (pv 0) rfl) (pv 1) (pv 2) rfl))) pss_nil)), ?_⟩
    obtain ⟨dx, hi⟩ := N.ins
    obtain ⟨b, ns, hlk, hm⟩ := key_get hk
    obtain ⟨pf, pl, pw, fl, fw, lw⟩ := N.dist
    refine ⟨_, rfl, a.p, C, dx, _, _, rfl, hi, W.cl, W.nRule, rfl, rfl, ?_⟩
    by_cases hle : par.rule = "least"
    · refine ⟨true, bl_of (decide_eq_true (congrArg V.str hle)), ?_⟩
      have ef : findS (decide (par.rule = "least")) s L = { s with lines := dropP s.lines L ++ [(L, (b, ns))] } := by
        unfold findS
        rw [hlk, decide_eq_true hle]
        rfl
      rw [ef] at q
      refine ⟨_, rfl, a.p, C, dx, _, _, rfl, hi, W.cl, W.nLines, rfl, a.dl, rfl, .inl ⟨_, .inl N.dl⟩, _, rfl, _, Sum.inl L, lnV (b, ns), N.dl, rfl, by rw [dk_val, hlk]; rfl, ?_⟩
      have hnk : L ∉ (dropP s.lines L).map (·.1) := by
        rw [drop_keys]
        exact fun h => by simpa using (List.mem_filter.mp h).2
      have hll : (dropP s.lines L).length ≤ s.lines.length := List.length_filter_le _ _
      have hrm := G.room
      refine ⟨_, rfl, _, rfl, a.p, C, dx, _, _, rfl, (by walk_at "hp"), W.cl, W.nLines, rfl, _, rfl, a.dl, _, rfl, DPut.k (k := Sum.inl L) upd_same (small1000 (by rw [dk_drop, dk_len]; omega)), ?_⟩
      rw [dk_drop, dk_put, put_new hnk]
      have hperm : (dropP s.lines L ++ [(L, (b, ns))]).Perm s.lines := by
        have h1 : dropP s.lines L = s.lines.erase (L, (b, ns)) := by
          rw [List.Nodup.erase_eq_filter (nodup_of G.keys)]
          unfold dropP
          refine List.filter_congr fun x hx => ?_
          by_cases e : x.1 = L
          · have : x = (L, (b, ns)) := by
              have h2 := nodup_inj G.keys hx hm e
              exact h2
            rw [this]
            exact (bne_self_eq_false L).trans (bne_self_eq_false (L, (b, ns))).symm
          · have : x ≠ (L, (b, ns)) := fun z => e (by rw [z])
            exact (bne_iff_ne.mpr e).trans (bne_iff_ne.mpr this).symm
        rw [h1]
        exact (List.perm_append_singleton _ _).trans (List.perm_cons_erase hm).symm
      have hsub : ∀ x ∈ dropP s.lines L ++ [(L, (b, ns))], x ∈ s.lines := fun x hx => hperm.mem_iff.mp hx
      refine q _ ⟨⟨dx, by walk_at "hp"⟩, by have := N.far; walk_at "hp", upd_same, by have := N.dw; walk_at "hp", N.ne, fun x hx => ?_, ((hperm.map _).nodup_iff).mpr N.nd⟩ (Step.own (fun q' o e n => ?_) (own_sub fun x hx => ⟨x, hsub x hx, rfl⟩))
      · obtain ⟨k1, k2⟩ := N.lns x (hsub x hx)
        obtain ⟨m1, m2, m3, m4⟩ := N.lnd (hsub x hx)
        exact ⟨by walk_at "hp", k2⟩
      · obtain ⟨m1, m2, m3, m4, m5⟩ := nown n
        walk_at "hp"
    · refine ⟨false, bl_of (decide_eq_false fun z => hle (V.str.inj z)), ?_⟩
      have ef : findS (decide (par.rule = "least")) s L = s := by
        unfold findS
        rw [hlk, decide_eq_false hle]
        rfl
      rw [ef] at q
      exact q H N (Step.of_same (Same.refl _))
theorem cut_slice (far : List Int) (st wd : Nat) : cutV (far.map V.int) (some (st : Nat)) (some (((st : Nat) : Int) + ((wd : Nat) : Int))) = (sliceF far st wd).map V.int := by
  unfold cutV sliceF
  rw [show ((st : Nat) : Int) + ((wd : Nat) : Int) = ((st + wd : Nat) : Int) by omega, HT.sIx_nat, HT.sIx_nat, List.length_map, ← List.map_drop, ← List.map_take]
  congr 1
  by_cases h : st ≤ far.length
  · rw [show min st far.length = st by omega]
    by_cases h2 : st + wd ≤ far.length
    · rw [show min (st + wd) far.length - st = wd by omega]
    · rw [show min (st + wd) far.length - st = far.length - st by omega, List.take_of_length_le (by rw [List.length_drop]; omega), List.take_of_length_le (by rw [List.length_drop]; omega)]
  · rw [List.drop_of_length_le (by omega), List.drop_of_length_le (by omega)]
    simp
def spBring (C : Addr) : Sp := fun vs H Q _ => ∃ (a : Na) (par : Np) (s : Ns) (L : Int), vs = [.ref a.p, .int L] ∧ NearAt C H a par s ∧ GoodS par s ∧ L ∉ s.keys ∧ 0 ≤ L ∧ L * (par.wd : Nat) < s.far.length ∧ s.far.length ≤ 300 ∧ par.wd ≤ 300 ∧ par.room ≤ 300 ∧
  ∀ H' b, NearAt C H' a par (bringS par s L b) → Step H a s H' (bringS par s L b) → Q .non H'
abbrev s_Near__bring : Stmt := inClass (top 30) 7
abbrev N_Near__bring : List Str := ["self", "line", "start"]
theorem S_Near__bring : FnScope N_Near__bring ["self", "line"] (defScope s_Near__bring) := ⟨rfl, rfl, rfl, by decide +kernel, rfl, by decide +kernel, by decide +kernel⟩

theorem m_bring {C : Addr} (T : Txt K w mg) (W : NCls K C) (D : MethAt K C "_bring" "Near._bring" s_Near__bring) (M_let_go : C8.Met P w K mg base 2 C "_let_go" (spLetGo C) []) (M_held : C8.Met P w K mg base 1 C "held" (spHeld C) []) : C8.Met P w K mg base 3 C "_bring" (spBring C) [] := by
  have S := S_Near__bring
  refine met_of W.cl D S (fun _ _ _ _ _ _ us hl => match us, hl with | [_, _], _ => rfl) (fun vs H Q E h => ?_) (fun f cdv A outer s H vs Q E hr h => ?_)
  · obtain ⟨a, par, s, L, rfl, _⟩ := h
    rfl
  · obtain ⟨a, par, s, L, rfl, N, G, hk, hL0, hL1, hf, hwd, hro, q⟩ := h
    have w1 := G.w1
    have hst : 0 ≤ L * (par.wd : Nat) := Int.mul_nonneg hL0 (by omega)
    have hL : L ≤ L * (par.wd : Nat) := by
      have := Int.mul_le_mul_of_nonneg_left (show (1 : Int) ≤ (par.wd : Nat) by omega) hL0
      omega
    refine ⟨_, (pss_cons (ps_if (pt_cmpR op_eq (pe_callB call_lenD (by rfl) T.len PySem.boot_len (pa_cons (pe_fld (pv 0) rfl) pa_nil)) (pe_fld (pv 0) rfl) (nomark _)) (pss_one (ps_expr (C8.pe_mt M_let_go hr (by decide) (pv 0) (pa_cons (pe_ix ix_list (C8.pe_mt0 M_held hr (by decide) (pv 0)) pe_int (fun _ _ => rfl)) pa_nil)))) pss_nil)
  (pss_cut (D := { nx := fun _ H' => Q .non H', rt := Q }) (P := fun σ H' => σ = [some (.ref a.p), some (.int L), none] ∧ ∃ s1, NearAt C H' a par s1 ∧ Step H a s H' s1 ∧ s1.far.length = s.far.length ∧ s1.lines.length ≤ par.room ∧ L ∉ s1.keys ∧ ∀ b, bringS par s L b = { s1 with lines := s1.lines ++ [(L, (b, sliceF s1.far (L * par.wd).toNat par.wd))] }) ?tail)), ?_⟩
    case tail =>
      refine ⟨_, (pss_cons (ps_set (i := 2) S.nd rfl (Or.inl rfl) (pe_op op_mul (pv 1) (pe_fld (pv 0) rfl)))
  (pss_one (ps_dput (hu_of hr) (pe_fld (pv 0) rfl) (pv 1) (pe_slice sl_list (pe_fld (pv 0) rfl) (po_some (pv 2)) (po_some (pe_op op_add (pv 2) (pe_fld (pv 0) rfl)))) rfl))), fun σ H1 h => ?_⟩
      obtain ⟨rfl, s1, N1, st1, hf1, hl1, hk1, eb⟩ := h
      obtain ⟨dx, hi⟩ := N1.ins
      obtain ⟨pf, pl, pw, fl, fw, lw⟩ := N1.dist
      obtain ⟨k, ek⟩ : ∃ k : Nat, L * (par.wd : Nat) = (k : Nat) := ⟨(L * (par.wd : Nat)).toNat, (Int.toNat_of_nonneg hst).symm⟩
      refine ⟨_, rfl, _, rfl, a.p, C, dx, _, _, rfl, hi, W.cl, W.nWidth, rfl, _, _, rfl, rfl, .inl ⟨by omega, by omega⟩, ?_⟩
      refine ⟨_, rfl, a.p, C, dx, _, _, rfl, hi, W.cl, W.nFar, rfl, _, rfl, _, rfl, _, rfl, _, rfl, a.p, C, dx, _, _, rfl, hi, W.cl, W.nWidth, rfl, _, _, rfl, rfl, _, rfl, a.af, _, rfl, SqL.of N1.far, fun b nb => ?_⟩
      rw [ek, cut_slice]
      have nbo := N1.new nb
      obtain ⟨nbp, nbf, nbl, nbw, nbx⟩ := nown nbo
      refine ⟨_, rfl, a.p, C, dx, _, _, rfl, (by walk_at "hp"), W.cl, W.nLines, rfl, _, rfl, a.dl, _, rfl, DPut.k (k := Sum.inl L) (by have := N1.dl; walk_at "hp") (small1000 (by rw [dk_len]; omega)), ?_⟩
      have ev : V.ref b = lnV (b, sliceF s1.far k par.wd) := rfl
      rw [ev, dk_put, put_new hk1]
      have en : bringS par s L b = { s1 with lines := s1.lines ++ [(L, (b, sliceF s1.far k par.wd))] } := by rw [eb b, ek]; rfl
      refine q _ b ?_ (st1.trans fun q' o e n => ?_)
      · rw [en]
        refine ⟨⟨dx, by walk_at "hp"⟩, by have := N1.far; walk_at "hp", upd_same, by have := N1.dw; walk_at "hp", N1.ne, fun x hx => ?_, ?_⟩
        · rcases List.mem_append.mp hx with hx | hx
          · obtain ⟨k1, k2⟩ := N1.lns x hx
            obtain ⟨m1, m2, m3, m4⟩ := N1.lnd hx
            have := nbx x hx
            exact ⟨by walk_at "hp", k2⟩
          · cases List.mem_singleton.mp hx
            exact ⟨(by walk_at "hp"), nbf⟩
        · show ((s1.lines ++ [(L, (b, sliceF s1.far k par.wd))]).map (·.2.1)).Nodup
          rw [List.map_append, List.nodup_append]
          refine ⟨N1.nd, by simp, fun y hy z hz => ?_⟩
          obtain ⟨x, hx, rfl⟩ := List.mem_map.mp hy
          cases List.mem_singleton.mp hz
          exact nbx x hx
      · obtain ⟨m1, m2, m3, m4, m5⟩ := nown n
        have nqb : q' ≠ b := ne_of_none e nb
        refine ⟨by walk_at "hp", fun z => ?_⟩
        rw [en] at z
        rcases z with z | z | z | z | ⟨x, hx, z⟩
        · exact m1 z
        · exact m2 z
        · exact m3 z
        · exact m4 z
        · rcases List.mem_append.mp hx with hx | hx
          · exact m5 x hx z
          · cases List.mem_singleton.mp hx
            exact nqb z.symm
    obtain ⟨dx, hi⟩ := N.ins
    refine ⟨_, rfl, a.p, C, dx, _, _, rfl, hi, W.cl, W.nLines, rfl, a.dl, _, rfl, N.dl, _, rfl, a.p, C, dx, _, _, rfl, hi, W.cl, W.nRoom, rfl, rfl, ?_⟩
    rw [dk_len]
    by_cases hfull : s.lines.length = par.room
    · refine ⟨true, bl_of (decide_eq_true (by rw [hfull])), ?_⟩
      refine ⟨_, rfl, a.p, dx, _, rfl, hi, rfl, ?_⟩
      refine ⟨_, rfl, a.p, dx, _, rfl, hi, rfl, a, par, s, rfl, N, fun H1 p1 t1 n1 g1 => ?_⟩
      have r1 := G.r1
      obtain ⟨L0, hL0'⟩ : ∃ L0, s.keys[0]? = some L0 := ⟨_, List.getElem?_eq_getElem (by unfold Ns.keys; rw [List.length_map]; omega)⟩
      have hmem : L0 ∈ s.keys := List.mem_of_getElem? hL0'
      have ehd : s.keys.headD 0 = L0 := by
        rw [List.headD_eq_head?_getD, List.head?_eq_getElem?, hL0']
        rfl
      refine ⟨p1, _, _, _, rfl, rfl, SqL.of g1, at_in (by decide) (by rw [List.getElem?_map, show (0 : Int).toNat = 0 from rfl, hL0']; rfl), ?_⟩
      refine ⟨a, par, s, L0, rfl, N.same t1, G, hmem, hf, hwd, hro, fun H2 N2 st2 => ?_⟩
      obtain ⟨q1, q2, q3, q4⟩ := G.go hmem
      refine ⟨rfl, rfl, _, N2, (Step.of_same t1).trans st2, q2, q1.room, ?_, fun b => ?_⟩
      · rw [q4]
        exact fun z => hk (List.mem_filter.mp z).1
      · unfold bringS
        rw [if_pos hfull, ehd]
    · refine ⟨false, bl_of (decide_eq_false fun z => hfull (by have := V.int.inj z; omega)), ?_⟩
      refine ⟨rfl, rfl, s, N, Step.of_same (Same.refl _), rfl, G.room, hk, fun b => ?_⟩
      unfold bringS
      rw [if_neg hfull]
def spTouchedLine (K : PySem.W.Frag) (C CN : Addr) : Sp := fun vs H Q E => ∃ (a : Na) (par : Np) (s : Ns) (v : V), vs = [.ref a.p, v] ∧ AnyT K H v ∧ NearAt C H a par s ∧ GoodS par s ∧ 1 ≤ s.far.length ∧ s.far.length ≤ 300 ∧ par.wd ≤ 300 ∧ par.room ≤ 300 ∧
  (∀ i : Nat, v = .int (i : Nat) → i < s.far.length → ∀ H' b, NearAt C H' a par (touchS par s ((i / par.wd : Nat) : Int) b) → Step H a s H' (touchS par s ((i / par.wd : Nat) : Int) b) → Q (.int ((i / par.wd : Nat) : Int)) H') ∧
  (wholeV v 0 ((s.far.length : Nat) - 1) = false → ∀ H', Same H H' → E (.ref CN) none H')
theorem NearAt.cnt {C : Addr} {H : Hp} {a : Na} {par : Np} {s : Ns} (N : NearAt C H a par s) (f m bk : Nat) (dx : Addr) : NearAt C (L2.upd H a.p (.ins C dx (nfs a par { s with found := f, missed := m, back := bk }))) a par { s with found := f, missed := m, back := bk } := by
  obtain ⟨pf, pl, pw, fl, fw, lw⟩ := N.dist
  refine ⟨⟨dx, upd_same⟩, (upd_ne (Ne.symm pf)).trans N.far, (upd_ne (Ne.symm pl)).trans N.dl, (upd_ne (Ne.symm pw)).trans N.dw, N.ne, fun x hx => ?_, N.nd⟩
  obtain ⟨k1, k2⟩ := N.lns x hx
  exact ⟨(upd_ne (N.lnd hx).1).trans k1, k2⟩
theorem Step.cnt {H : Hp} {a : Na} {s : Ns} {o : HO} {f m bk : Nat} : Step H a s (upd H a.p o) { s with found := f, missed := m, back := bk } := Step.own (fun q o e n => (upd_ne (nown n).1).trans e) fun _ o => o
abbrev s_Near__touched_line : Stmt := inClass (top 30) 5
abbrev N_Near__touched_line : List Str := ["self", "box", "last", "line"]
theorem S_Near__touched_line : FnScope N_Near__touched_line ["self", "box"] (defScope s_Near__touched_line) := ⟨rfl, rfl, rfl, by decide +kernel, rfl, by decide +kernel, by decide +kernel⟩

theorem m_touched_line {C CN : Addr} (T : Txt K w mg) (W : NCls K C) (X_NoBox : ExcT K mg "NoBox" CN) (D : MethAt K C "_touched_line" "Near._touched_line" s_Near__touched_line) (C_is_whole : Cal P w K mg base CX0 2 "is_whole" (spIsWholeV K)) (C_line_of : Cal P w K mg base CX0 1 "line_of" spLineOf)
    (M_find : C8.Met P w K mg base 1 C "_find" (spFind C) []) (M_bring : C8.Met P w K mg base 3 C "_bring" (spBring C) []) : MetX P w K mg base 4 C "_touched_line" (spTouchedLine K C CN) := by
  have S := S_Near__touched_line
  refine metX_of W.cl D S (fun _ _ _ _ _ _ us hl => match us, hl with | [_, _], _ => rfl) (fun vs H Q E h => ?_) (fun f cdv A outer s H vs Q E hr h => ?_)
  · obtain ⟨a, par, s, v, rfl, _⟩ := h
    rfl
  · obtain ⟨a, par, s, v, rfl, hv, N, G, hf1, hf, hwd, hro, hq, he⟩ := h
    refine ⟨_, (pss_cons (ps_set (i := 2) S.nd rfl (Or.inl rfl) (pe_op op_sub (pe_callB call_len_seq (by rfl) T.len PySem.boot_len (pa_cons (pe_fld (pv 0) rfl) pa_nil)) pe_int))
  (pss_cons (ps_if (pt_not (pt_val (pe_c C_is_whole hr (by decide) rfl (pa_cons (pv 1) (pa_cons pe_int (pa_cons (pv 2) pa_nil)))))) (pss_one (ps_raise rfl (takes_of rfl rfl rfl rfl) (SkE.pmk_own1 PySem.F.excBase_ValueError X_NoBox.x X_NoBox.g X_NoBox.k (raises_own X_NoBox.b X_NoBox.t) rfl (pe_joined (.cons pe_str (.cons (pe_fmt (pv 2)) .nil)))))) pss_nil)
  (pss_cons (ps_set (i := 3) S.nd rfl (Or.inl rfl) (pe_c C_line_of hr (by decide) rfl (pa_cons (pv 1) (pa_cons (pe_fld (pv 0) rfl) pa_nil))))
  (pss_cons (ps_if (pt_cmp (pc_din (hu_of hr) (pv 3) (pe_fld (pv 0) rfl))) (pss_cons (ps_fldaug (pv 0) pe_int in_add)
  (pss_one (ps_expr (C8.pe_mt M_find hr (by decide) (pv 0) (pa_cons (pv 3) pa_nil))))) (pss_cons (ps_fldaug (pv 0) pe_int in_add)
  (pss_one (ps_expr (C8.pe_mt M_bring hr (by decide) (pv 0) (pa_cons (pv 3) pa_nil))))))
  (pss_one (ps_ret (pv 3))))))), ?_⟩
    obtain ⟨dx, hi⟩ := N.ins
    refine ⟨_, rfl, a.p, C, dx, _, _, rfl, hi, W.cl, W.nFar, rfl, a.af, _, rfl, .inl (SqL.of N.far), _, _, rfl, rfl, ?_⟩
    rw [List.length_map]
    refine ⟨_, rfl, _, rfl, v, 0, _, rfl, hv, _, rfl, ?_⟩
    cases hb : wholeV v 0 ((s.far.length : Nat) - 1) with
    | false =>
      refine ⟨_, rfl, by decide +kernel, ?_⟩
      refine ⟨_, rfl, .inr ⟨_, rfl, log_small (by omega) (by omega), _, rfl, ?_, he hb _ (Same.refl _)⟩⟩
      exact app_sz (n := 40) (m := 6) (by decide +kernel) (txt_len (by omega) (by omega)) (by decide)
    | true =>
      obtain ⟨i, rfl, hi0⟩ : ∃ i : Nat, v = .int (i : Nat) ∧ i < s.far.length := by
        cases v with
        | int z =>
          have hb : (decide (0 ≤ z) && decide (z ≤ (s.far.length : Nat) - 1)) = true := hb
          rw [Bool.and_eq_true, decide_eq_true_eq, decide_eq_true_eq] at hb
          exact ⟨z.toNat, congrArg V.int (Int.toNat_of_nonneg hb.1).symm, by omega⟩
        | _ => cases hb
      have w1 := G.w1
      have hq := hq i rfl hi0
      refine ⟨_, rfl, _, rfl, a.p, C, dx, _, _, rfl, hi, W.cl, W.nWidth, rfl, _, _, rfl, by omega, by omega, ?_⟩
      rw [show ((i : Nat) : Int) / ((par.wd : Nat) : Int) = ((i / par.wd : Nat) : Int) from (Int.natCast_ediv _ _).symm]
      have hL1 : ((i / par.wd : Nat) : Int) * (par.wd : Nat) < s.far.length := by
        have := Nat.div_mul_le_self i par.wd
        have h2 : ((i / par.wd : Nat) : Int) * (par.wd : Nat) = ((i / par.wd * par.wd : Nat) : Int) := (Int.natCast_mul _ _).symm
        omega
      have hL0 : 0 ≤ ((i / par.wd : Nat) : Int) := Int.natCast_nonneg _
      generalize ((i / par.wd : Nat) : Int) = L at hq hL0 hL1
      refine ⟨_, rfl, _, rfl, a.p, C, dx, _, _, rfl, hi, W.cl, W.nLines, rfl, a.dl, _, rfl, DGet.k (k := Sum.inl L) N.dl, ?_⟩
      rw [dk_val, Option.isSome_map, lk_some]
      by_cases hk : L ∈ s.keys
      · refine ⟨true, bl_of (decide_eq_true hk), ?_⟩
        refine ⟨_, rfl, a.p, C, dx, nfs a par s, .int (s.found : Nat), rfl, hi, W.cl, W.nFound, rfl, _, _, rfl, rfl, dx, nfs a par s, hi, (by show 9 < 1000; decide), ?_⟩
        have N1 := N.cnt (s.found + 1) s.missed s.back dx
        have st1 : Step H a s (upd H a.p (.ins C dx (nfs a par { s with found := s.found + 1 }))) { s with found := s.found + 1 } := Step.cnt
        have eT : ∀ b, touchS par s L b = findS (decide (par.rule = "least")) { s with found := s.found + 1 } L := fun b => if_pos hk
        refine ⟨_, rfl, a.p, dx, _, rfl, upd_same, rfl, _, rfl, a, par, _, L, rfl, N1, G.cnt _ _ _, hk, hro, fun H2 N2 st2 => ?_⟩
        refine ⟨_, rfl, hq H2 0 ?_ ?_⟩
        · rw [eT]
          exact N2
        · rw [eT]
          exact st1.trans st2
      · refine ⟨false, bl_of (decide_eq_false hk), ?_⟩
        refine ⟨_, rfl, a.p, C, dx, nfs a par s, .int (s.missed : Nat), rfl, hi, W.cl, W.nMissed, rfl, _, _, rfl, rfl, dx, nfs a par s, hi, (by show 9 < 1000; decide), ?_⟩
        have N1 := N.cnt s.found (s.missed + 1) s.back dx
        have st1 : Step H a s (upd H a.p (.ins C dx (nfs a par { s with missed := s.missed + 1 }))) { s with missed := s.missed + 1 } := Step.cnt
        have eT : ∀ b, touchS par s L b = bringS par { s with missed := s.missed + 1 } L b := fun b => if_neg hk
        refine ⟨_, rfl, a.p, dx, _, rfl, upd_same, rfl, _, rfl, a, par, _, L, rfl, N1, G.cnt _ _ _, hk, hL0, hL1, hf, hwd, hro, fun H2 b N2 st2 => ?_⟩
        refine ⟨_, rfl, hq H2 b ?_ ?_⟩
        · rw [eT]
          exact N2
        · rw [eT]
          exact st1.trans st2
theorem touch_key {par : Np} {s : Ns} {L : Int} {b : Addr} : L ∈ (touchS par s L b).keys := by
  unfold touchS
  by_cases h : L ∈ s.keys
  · rw [if_pos h]
    have h' : L ∈ ({ s with found := s.found + 1 } : Ns).keys := h
    obtain ⟨b, ns, hlk, hm⟩ := key_get h'
    unfold findS
    rw [hlk]
    dsimp only
    split
    · unfold Ns.keys
      rw [List.map_append, List.mem_append]
      exact .inr List.mem_cons_self
    · exact h
  · rw [if_neg h]
    unfold bringS Ns.keys
    rw [List.map_append, List.mem_append]
    exact .inr List.mem_cons_self

theorem mod_in {par : Np} {s : Ns} (G : GoodS par s) {i : Nat} (hi : i < s.far.length) {b : Addr} {ns : List Int} (hm : (((i / par.wd : Nat) : Int), (b, ns)) ∈ s.lines) : i % par.wd < ns.length := by
  obtain ⟨h0, h1, h2⟩ := G.nums _ hm
  have w1 := G.w1
  have e1 := Nat.div_add_mod i par.wd
  have e2 := Nat.mod_lt i (show par.wd > 0 by omega)
  have e3 : (((i / par.wd : Nat) : Int) * (par.wd : Nat)).toNat = par.wd * (i / par.wd) := by
    rw [show ((i / par.wd : Nat) : Int) * (par.wd : Nat) = ((par.wd * (i / par.wd) : Nat) : Int) by rw [Int.natCast_mul]; exact Int.mul_comm _ _]
    rfl
  simp only at h2
  rw [h2, e3]
  omega
def spLookN (K : PySem.W.Frag) (C CN : Addr) : Sp := fun vs H Q E => ∃ (a : Na) (par : Np) (s : Ns) (v : V), vs = [.ref a.p, v] ∧ AnyT K H v ∧ NearAt C H a par s ∧ GoodS par s ∧ 1 ≤ s.far.length ∧ s.far.length ≤ 300 ∧ par.wd ≤ 300 ∧ par.room ≤ 300 ∧
  (∀ i : Nat, v = .int (i : Nat) → i < s.far.length → ∀ H' b, NearAt C H' a par (touchS par s ((i / par.wd : Nat) : Int) b) → Step H a s H' (touchS par s ((i / par.wd : Nat) : Int) b) → Q (.int (lookV par (touchS par s ((i / par.wd : Nat) : Int) b) i)) H') ∧
  (wholeV v 0 ((s.far.length : Nat) - 1) = false → ∀ H', Same H H' → E (.ref CN) none H')
abbrev s_Near_look : Stmt := inClass (top 30) 1
abbrev N_Near_look : List Str := ["self", "box", "line"]
theorem S_Near_look : FnScope N_Near_look ["self", "box"] (defScope s_Near_look) := ⟨rfl, rfl, rfl, by decide +kernel, rfl, by decide +kernel, by decide +kernel⟩

theorem m_lookN {C CN : Addr} (T : Txt K w mg) (W : NCls K C) (D : MethAt K C "look" "Near.look" s_Near_look) (M_touched_line : MetX P w K mg base 4 C "_touched_line" (spTouchedLine K C CN)) : MetX P w K mg base 5 C "look" (spLookN K C CN) := by
  have S := S_Near_look
  refine metX_of W.cl D S (fun _ _ _ _ _ _ us hl => match us, hl with | [_, _], _ => rfl) (fun vs H Q E h => ?_) (fun f cdv A outer s H vs Q E hr h => ?_)
  · obtain ⟨a, par, s, v, rfl, _⟩ := h
    rfl
  · obtain ⟨a, par, s, v, rfl, hv, N, G, hf1, hf, hwd, hro, hq, he⟩ := h
    refine ⟨_, (pss_cons (ps_set (i := 2) S.nd rfl (Or.inl rfl) (pe_mx M_touched_line (takes_of rfl rfl rfl rfl) hr (by decide) (pv 0) (pa_cons (pv 1) pa_nil)))
  (pss_one (ps_ret (pe_ix ix_list (pe_dget (hu_of hr) (pe_fld (pv 0) rfl) (pv 2) (fun _ _ => rfl)) (pe_op op_mod (pv 1) (pe_fld (pv 0) rfl)) (fun _ _ => rfl))))), ?_⟩
    obtain ⟨dx, hi⟩ := N.ins
    refine ⟨_, rfl, a.p, dx, _, rfl, hi, rfl, _, rfl, a, par, s, v, rfl, hv, N, G, hf1, hf, hwd, hro, fun i ev hil H1 b N1 st1 => ?_, fun hb H1 t1 => he hb H1 t1⟩
    subst ev
    obtain ⟨dx1, hi1⟩ := N1.ins
    have w1 := G.w1
    have hL1 : ((i / par.wd : Nat) : Int) * (par.wd : Nat) < s.far.length := by
      have := Nat.div_mul_le_self i par.wd
      have h2 : ((i / par.wd : Nat) : Int) * (par.wd : Nat) = ((i / par.wd * par.wd : Nat) : Int) := (Int.natCast_mul _ _).symm
      omega
    obtain ⟨G1, ef⟩ := G.touch (b := b) (Int.natCast_nonneg (i / par.wd)) hL1
    obtain ⟨b1, ns1, hlk, hm⟩ := key_get (touch_key (par := par) (s := s) (L := ((i / par.wd : Nat) : Int)) (b := b))
    obtain ⟨hb1, _⟩ := N1.lns _ hm
    have hin := mod_in G1 (i := i) (by omega) hm
    refine ⟨_, rfl, a.p, C, dx1, _, _, rfl, hi1, W.cl, W.nLines, rfl, _, rfl, a.dl, _, rfl, dget_ln N1 hlk, ?_⟩
    refine ⟨_, rfl, _, rfl, a.p, C, dx1, _, _, rfl, hi1, W.cl, W.nWidth, rfl, _, _, rfl, rfl, by omega, ?_⟩
    have emod : ((i : Nat) : Int) % ((par.wd : Nat) : Int) = ((i % par.wd : Nat) : Int) := (Int.natCast_emod _ _).symm
    refine ⟨b1, _, _, .int (ns1.getD (i % par.wd) 0), rfl, rfl, SqL.of hb1, by rw [emod]; exact at_map V.int (by rw [List.getD_eq_getElem?_getD, List.getElem?_eq_getElem hin]; rfl), ?_⟩
    have := hq i rfl hil H1 b N1 st1
    unfold lookV numsOf at this
    rw [hlk] at this
    exact this
def spPutN (K : PySem.W.Frag) (C CN : Addr) : Sp := fun vs H Q E => ∃ (a : Na) (par : Np) (s : Ns) (v : V) (n : Int), vs = [.ref a.p, v, .int n] ∧ AnyT K H v ∧ NearAt C H a par s ∧ GoodS par s ∧ 1 ≤ s.far.length ∧ s.far.length ≤ 300 ∧ par.wd ≤ 300 ∧ par.room ≤ 300 ∧
  (∀ i : Nat, v = .int (i : Nat) → i < s.far.length → ∀ H' b, NearAt C H' a par (putS (touchS par s ((i / par.wd : Nat) : Int) b) ((i / par.wd : Nat) : Int) (i % par.wd) n) → Step H a s H' (putS (touchS par s ((i / par.wd : Nat) : Int) b) ((i / par.wd : Nat) : Int) (i % par.wd) n) → Q .non H') ∧
  (wholeV v 0 ((s.far.length : Nat) - 1) = false → ∀ H', Same H H' → E (.ref CN) none H')
theorem written_put {s : Ns} {L : Int} : tkP (if L ∈ s.written then s.written else s.written ++ [L]) = putP (tkP s.written) L () := tk_put.symm
abbrev s_Near_put : Stmt := inClass (top 30) 2
abbrev N_Near_put : List Str := ["self", "box", "number", "line"]
theorem S_Near_put : FnScope N_Near_put ["self", "box", "number"] (defScope s_Near_put) := ⟨rfl, rfl, rfl, by decide +kernel, rfl, by decide +kernel, by decide +kernel⟩

theorem m_putN {C CN : Addr} (T : Txt K w mg) (W : NCls K C) (D : MethAt K C "put" "Near.put" s_Near_put) (M_touched_line : MetX P w K mg base 4 C "_touched_line" (spTouchedLine K C CN)) : MetX P w K mg base 5 C "put" (spPutN K C CN) := by
  have S := S_Near_put
  refine metX_of W.cl D S (fun _ _ _ _ _ _ us hl => match us, hl with | [_, _, _], _ => rfl) (fun vs H Q E h => ?_) (fun f cdv A outer s H vs Q E hr h => ?_)
  · obtain ⟨a, par, s, v, n, rfl, _⟩ := h
    rfl
  · obtain ⟨a, par, s, v, n, rfl, hv, N, G, hf1, hf, hwd, hro, hq, he⟩ := h
    refine ⟨_, (pss_cons (ps_set (i := 3) S.nd rfl (Or.inl rfl) (pe_mx M_touched_line (takes_of rfl rfl rfl rfl) hr (by decide) (pv 0) (pa_cons (pv 1) pa_nil)))
  (pss_cons (ps_asg (pv 2) (pg_sub (pe_dget (hu_of hr) (pe_fld (pv 0) rfl) (pv 3) (fun _ _ => rfl)) (pe_op op_mod (pv 1) (pe_fld (pv 0) rfl)) set_list))
  (pss_one (ps_dput (hu_of hr) (pe_fld (pv 0) rfl) (pv 3) pe_bl rfl)))), ?_⟩
    obtain ⟨dx, hi⟩ := N.ins
    refine ⟨_, rfl, a.p, dx, _, rfl, hi, rfl, _, rfl, a, par, s, v, rfl, hv, N, G, hf1, hf, hwd, hro, fun i ev hil H1 b N1 st1 => ?_, fun hb H1 t1 => he hb H1 t1⟩
    subst ev
    have hq := fun H' : Hp => hq i rfl hil H' b
    obtain ⟨dx1, hi1⟩ := N1.ins
    have w1 := G.w1
    have hL1 : ((i / par.wd : Nat) : Int) * (par.wd : Nat) < s.far.length := by
      have := Nat.div_mul_le_self i par.wd
      have h2 : ((i / par.wd : Nat) : Int) * (par.wd : Nat) = ((i / par.wd * par.wd : Nat) : Int) := (Int.natCast_mul _ _).symm
      omega
    obtain ⟨G1, ef⟩ := G.touch (b := b) (Int.natCast_nonneg (i / par.wd)) hL1
    have hkey := touch_key (par := par) (s := s) (L := ((i / par.wd : Nat) : Int)) (b := b)
    obtain ⟨b1, ns1, hlk, hm⟩ := key_get hkey
    obtain ⟨hb1, hbf⟩ := N1.lns _ hm
    have hin := mod_in G1 (i := i) (by omega) hm
    obtain ⟨nbp, nbf, nbl, nbw⟩ := N1.lnd hm
    simp only at hb1 hbf nbp nbf nbl nbw
    generalize hs1 : touchS par s ((i / par.wd : Nat) : Int) b = s1 at N1 st1 hq G1 hlk hm ef hkey hi1
    generalize hL : ((i / par.wd : Nat) : Int) = L at hq hlk hm hkey hs1
    refine ⟨_, rfl, _, rfl, a.p, C, dx1, _, _, rfl, hi1, W.cl, W.nLines, rfl, _, rfl, a.dl, _, rfl, dget_ln N1 hlk, ?_⟩
    refine ⟨_, rfl, _, rfl, a.p, C, dx1, _, _, rfl, hi1, W.cl, W.nWidth, rfl, _, _, rfl, rfl, by omega, ?_⟩
    have emod : ((i : Nat) : Int) % ((par.wd : Nat) : Int) = ((i % par.wd : Nat) : Int) := (Int.natCast_emod _ _).symm
    refine ⟨b1, _, _, i % par.wd, rfl, rfl, hb1, ?_, ?_⟩
    · unfold ixN
      rw [List.length_map, emod, if_pos (Int.natCast_nonneg _), if_pos (by omega)]
      rfl
    rw [show (ns1.map V.int).set (i % par.wd) (.int n) = (ns1.set (i % par.wd) n).map V.int by rw [List.map_set]]
    obtain ⟨pf, pl, pw, fl, fw, lw⟩ := N1.dist
    have hwl : s1.written.length ≤ 300 := by
      have h1 : s1.written.length ≤ s1.keys.length := nd_len G1.wnd G1.wsub
      have h2 : s1.keys.length = s1.lines.length := by unfold Ns.keys; rw [List.length_map]
      have := G1.room
      omega
    refine ⟨_, rfl, a.p, C, dx1, _, _, rfl, (by walk_at "hp"), W.cl, W.nWritten, rfl, _, rfl, a.dw, _, rfl, DPut.k (k := Sum.inl L) (by have := N1.dw; walk_at "hp") (small1000 (by rw [dk_len, tk_len]; omega)), ?_⟩
    rw [show V.bl true = gT () from rfl, dk_put, ← written_put]
    have hi2 : H1 a.p = some (.ins C dx1 (nfs a par (putS s1 L (i % par.wd) n))) := hi1
    have hf2 : H1 a.af = some (.lst ((putS s1 L (i % par.wd) n).far.map V.int)) := N1.far
    refine hq _ ⟨⟨dx1, (upd_ne pw).trans ((upd_ne nbp.symm).trans hi2)⟩, (upd_ne fw).trans ((upd_ne nbf.symm).trans hf2), ?_, upd_same, N1.ne, fun x hx => ?_, ?_⟩ (st1.trans (Step.own (fun q' o e n => ?_) (own_sub fun x hx => ?_)))
    · have : dk lnV (setLn s1.lines L (i % par.wd) n) = dk lnV s1.lines := by
        unfold dk setLn
        rw [List.map_map]
        refine List.map_congr_left fun x _ => ?_
        show ((Sum.inl (if x.1 = L then (x.1, (x.2.1, x.2.2.set (i % par.wd) n)) else x).1 : Key), lnV (if x.1 = L then (x.1, (x.2.1, x.2.2.set (i % par.wd) n)) else x).2) = (Sum.inl x.1, lnV x.2)
        split <;> rfl
      show _ = some (HO.dK (dk lnV (setLn s1.lines L (i % par.wd) n)))
      rw [this]
      have := N1.dl
      walk_at "hp"
    · obtain ⟨y, hy, rfl⟩ := List.mem_map.mp hx
      obtain ⟨k1, k2⟩ := N1.lns y hy
      obtain ⟨m1, m2, m3, m4⟩ := N1.lnd hy
      by_cases e : y.1 = L
      · have ey : y = (L, (b1, ns1)) := nodup_inj (f := fun x : Int × (Addr × List Int) => x.1) G1.keys hy hm e
        rw [if_pos e, ey]
        exact ⟨by walk_at "hp", nbf⟩
      · rw [if_neg e]
        have : y.2.1 ≠ b1 := fun z => e (by rw [nodup_inj (f := fun x : Int × (Addr × List Int) => x.2.1) N1.nd hy hm z])
        exact ⟨by walk_at "hp", k2⟩
    · show ((setLn s1.lines L (i % par.wd) n).map (·.2.1)).Nodup
      rw [set_addrs]
      exact N1.nd
    · obtain ⟨m1, m2, m3, m4, m5⟩ := nown n
      have := (m5 _ hm).symm
      simp only at this
      walk_at "hp"
    · obtain ⟨y, hy, rfl⟩ := List.mem_map.mp hx
      refine ⟨y, hy, ?_⟩
      split <;> rfl
/-! ### the making -/
def ruleOk : PyData → Bool
  | .str x => decide (x = "least") || decide (x = "first")
  | _ => false
def shapeOk (vr vw : V) (du : PyData) : Bool := wholeV vr 1 200 && (wholeV vw 1 200 && ruleOk du)
def spCheckShape (K : PySem.W.Frag) (CS : Addr) : Sp := fun vs H Q E => ∃ (vr vw vu : V) (du : PyData), vs = [vr, vw, vu] ∧ AnyT K H vr ∧ AnyT K H vw ∧ Dp K H vu du ∧ (shapeOk vr vw du = true → ∀ H', Same H H' → Q .non H') ∧ (shapeOk vr vw du = false → ∀ H', Same H H' → E (.ref CS) none H')
abbrev s__check_shape : Stmt := top 31
abbrev N__check_shape : List Str := ["room", "width", "rule"]
theorem S__check_shape : FnScope N__check_shape ["room", "width", "rule"] (defScope s__check_shape) := ⟨rfl, rfl, rfl, by decide +kernel, rfl, by decide +kernel, by decide +kernel⟩

theorem c_check_shape {CS : Addr} (T : Txt K w mg) (X_BadShape : ExcT K mg "BadShape" CS) (gMost : ∃ t, mg "MOST" = some (.int 200 t)) (gLeast : ∃ t, mg "LEAST" = some (.str "least" t)) (gFirst : ∃ t, mg "FIRST" = some (.str "first" t)) (D : DefAt K "_check_shape" s__check_shape) (C_is_whole : Cal P w K mg base CX0 2 "is_whole" (spIsWholeV K)) : Cal P w K mg base (L2.CX P w) 3 "_check_shape" (spCheckShape K CS) := by
  have S := S__check_shape
  obtain ⟨tM, gMost⟩ := gMost
  obtain ⟨tL, gLeast⟩ := gLeast
  obtain ⟨tF, gFirst⟩ := gFirst
  refine cal_ofX T.toTop D S (fun _ _ _ _ _ _ us hl => match us, hl with | [_, _, _], _ => rfl) (fun vs H Q E h => ?_) (fun f cdv A outer s H vs Q E hr h => ?_)
  · obtain ⟨vr, vw, vu, du, rfl, _⟩ := h
    rfl
  · obtain ⟨vr, vw, vu, du, rfl, hvr, hvw, hvu, hq, he⟩ := h
    refine ⟨_, (pss_cons (ps_if (pt_not (pt_val (pe_c C_is_whole hr (by decide) rfl (pa_cons (pv 0) (pa_cons pe_int (pa_cons ((pe_glob (v := .int 200) rfl gMost ⟨_, rfl⟩)) pa_nil)))))) (pss_one (ps_raise rfl (takes_of rfl rfl rfl rfl) (SkE.pmk_own1 PySem.F.excBase_ValueError X_BadShape.x X_BadShape.g X_BadShape.k (raises_own X_BadShape.b X_BadShape.t) rfl (pe_joined (.cons pe_str (.cons (pe_fmt ((pe_glob (v := .int 200) rfl gMost ⟨_, rfl⟩))) .nil)))))) pss_nil)
  (pss_cons (ps_if (pt_not (pt_val (pe_c C_is_whole hr (by decide) rfl (pa_cons (pv 1) (pa_cons pe_int (pa_cons ((pe_glob (v := .int 200) rfl gMost ⟨_, rfl⟩)) pa_nil)))))) (pss_one (ps_raise rfl (takes_of rfl rfl rfl rfl) (SkE.pmk_own1 PySem.F.excBase_ValueError X_BadShape.x X_BadShape.g X_BadShape.k (raises_own X_BadShape.b X_BadShape.t) rfl (pe_joined (.cons pe_str (.cons (pe_fmt ((pe_glob (v := .int 200) rfl gMost ⟨_, rfl⟩))) .nil)))))) pss_nil)
  (pss_one (ps_if (PW.pt (pw_or (pt_not (pt_val (pe_callB call_isi (by rfl) T.isinstance (by decide +kernel) (pa_cons (pv 2) (pa_cons ((pe_bltn (v := .ty "str") (u := .type "str") rfl T.str (by decide +kernel) rfl)) pa_nil))))) (pw_or1 (pt_cmpR op_notIn_seq (pv 2) (pe_tup (pa_cons ((pe_glob (v := .str "least") rfl gLeast ⟨_, rfl⟩)) (pa_cons ((pe_glob (v := .str "first") rfl gFirst ⟨_, rfl⟩)) pa_nil))) (by with_unfolding_all rfl))))) (pss_one (ps_raise rfl (takes_of rfl rfl rfl rfl) (SkE.pmk_own1 PySem.F.excBase_ValueError X_BadShape.x X_BadShape.g X_BadShape.k (raises_own X_BadShape.b X_BadShape.t) rfl (pe_joined (.cons pe_str (.cons (pe_fmt ((pe_glob (v := .str "least") rfl gLeast ⟨_, rfl⟩))) (.cons pe_str (.cons (pe_fmt ((pe_glob (v := .str "first") rfl gFirst ⟨_, rfl⟩))) .nil)))))))) pss_nil)))), ?_⟩
    refine ⟨_, rfl, vr, 1, 200, rfl, hvr, _, rfl, ?_⟩
    cases h1 : wholeV vr 1 200 with
    | false =>
      have hb : shapeOk vr vw du = false := by unfold shapeOk; rw [h1]; rfl
      refine ⟨_, rfl, by decide +kernel, ?_⟩
      exact .inr ⟨200, rfl, by decide, _, rfl, by decide +kernel, he hb _ (Same.refl _)⟩
    | true =>
    refine ⟨_, rfl, vw, 1, 200, rfl, hvw, _, rfl, ?_⟩
    cases h2 : wholeV vw 1 200 with
    | false =>
      have hb : shapeOk vr vw du = false := by unfold shapeOk; rw [h1, h2]; rfl
      refine ⟨_, rfl, by decide +kernel, ?_⟩
      exact .inr ⟨200, rfl, by decide, _, rfl, by decide +kernel, he hb _ (Same.refl _)⟩
    | true =>
    have hs : shapeOk vr vw du = ruleOk du := by unfold shapeOk; rw [h1, h2]; rfl
    rw [hs] at hq he
    have ty := dp_ty hvu
    have bad : ruleOk du = false → ∀ H', Same H H' → E (.ref CS) none H' := he
    refine ⟨_, rfl, _, _, _, _, _, rfl, .ty _, ty, kit_ty (kit_str du), ?_⟩
    by_cases hstr : tyN du = "str"
    · obtain ⟨x, rfl⟩ : ∃ x, du = .str x := by
        cases du with
        | str x => exact ⟨x, rfl⟩
        | _ => simp [tyN] at hstr
      cases hvu
      refine ⟨true, bl_of (decide_eq_true rfl), ?_⟩
      refine ⟨_, rfl, sz_ok rfl, fun p np => ⟨p, _, rfl, .inr (SqT.of upd_same), rfl, rfl, ?_⟩⟩
      have hin : inV (.str x) [.str "least", .str "first"] = ruleOk (.str x) := by
        show ((("least" : Str) == x) || ((("first" : Str) == x) || false)) = (decide (x = "least") || decide (x = "first"))
        rw [Bool.or_false, Bool.eq_iff_iff]
        simp only [Bool.or_eq_true, beq_iff_eq, decide_eq_true_eq]
        exact ⟨fun h => h.elim (fun e => .inl e.symm) fun e => .inr e.symm, fun h => h.elim (fun e => .inl e.symm) fun e => .inr e.symm⟩
      cases hr2 : ruleOk (.str x) with
      | true => exact ⟨false, bl_of (by rw [hin, hr2]; rfl), hq hr2 _ (Same.new np)⟩
      | false =>
        refine ⟨true, bl_of (by rw [hin, hr2]; rfl), ?_⟩
        refine ⟨_, rfl, by decide +kernel, ?_⟩
        exact .inl ⟨"least", rfl, by decide +kernel, _, rfl, by decide +kernel, _, rfl, by decide +kernel, .inl ⟨"first", rfl, by decide +kernel, _, rfl, by decide +kernel, he hr2 _ (Same.new np)⟩⟩
    · refine ⟨false, bl_of (decide_eq_false hstr), ?_⟩
      have hb : ruleOk du = false := by
        cases du with
        | str x => exact absurd rfl hstr
        | _ => rfl
      refine ⟨_, rfl, by decide +kernel, ?_⟩
      exact .inl ⟨"least", rfl, by decide +kernel, _, rfl, by decide +kernel, _, rfl, by decide +kernel, .inl ⟨"first", rfl, by decide +kernel, _, rfl, by decide +kernel, he hb _ (Same.refl _)⟩⟩
def initS (bs : List Int) : Ns := ⟨bs, 0, 0, 0, [], []⟩
def spInitN (K : PySem.W.Frag) (C CB CS : Addr) : Sp := fun vs H Q E => ∃ (H0 : Hp) (p dx g : Addr) (xs : List V) (ds : List PyData) (vr vw vu : V) (du : PyData), vs = [.ref p, .ref g, vr, vw, vu] ∧ Same H0 H ∧ H0 p = none ∧ H p = some (.ins C dx []) ∧
  SqL K H0 g xs ∧ DpAll K H0 xs ds ∧ xs.length ≤ 1000 ∧ AnyT K H0 vr ∧ AnyT K H0 vw ∧ (∀ H', Same H0 H' → AnyT K H' vr ∧ AnyT K H' vw) ∧ Dp K H0 vu du ∧
  (∀ (bs : List Int) (r wd : Nat) (rule : Str), goodB ds = true → shapeOk vr vw du = true → xs = bs.map V.int → vr = .int (r : Nat) → vw = .int (wd : Nat) → vu = .str rule →
    ∀ H' a, a.p = p → NearAt C H' a ⟨r, wd, rule⟩ (initS bs) → Same H0 H' → (∀ q, Own a (initS bs) q → H0 q = none) → Q .non H') ∧
  (goodB ds = false → ∀ H', Same H0 H' → E (.ref CB) none H') ∧ (goodB ds = true → shapeOk vr vw du = false → ∀ H', Same H0 H' → E (.ref CS) none H')
theorem good_ints {K : PySem.W.Frag} {H : Hp} {xs : List V} {ds : List PyData} (h : DpAll K H xs ds) (g : goodB ds = true) : ∃ bs : List Int, xs = bs.map V.int ∧ (∀ b ∈ bs, 0 ≤ b ∧ b < 1000000) ∧ 1 ≤ bs.length ∧ bs.length ≤ 200 := by
  unfold goodB at g
  rw [Bool.and_eq_true, Bool.and_eq_true, decide_eq_true_eq, decide_eq_true_eq] at g
  obtain ⟨g1, g2, g3⟩ := g
  have main : ∀ {xs : List V} {ds : List PyData}, DpAll K H xs ds → (ds.all fun d => wholeIn d 0 999999) = true → ∃ bs : List Int, xs = bs.map V.int ∧ ∀ b ∈ bs, 0 ≤ b ∧ b < 1000000 := by
    intro xs ds h
    induction ds generalizing xs with
    | nil => intro _; cases h; exact ⟨[], rfl, fun b hb => by cases hb⟩
    | cons d ds ih =>
      intro g
      cases h with
      | cons hd ht =>
        rw [List.all_cons, Bool.and_eq_true] at g
        obtain ⟨bs, e, hb⟩ := ih ht g.2
        cases hd with
        | int i =>
          have hi : (decide (0 ≤ i) && decide (i ≤ 999999)) = true := g.1
          rw [Bool.and_eq_true, decide_eq_true_eq, decide_eq_true_eq] at hi
          refine ⟨i :: bs, by rw [e]; rfl, fun b hb2 => ?_⟩
          rcases List.mem_cons.mp hb2 with rfl | hb2
          · exact ⟨hi.1, by omega⟩
          · exact hb b hb2
        | _ => cases g.1
  obtain ⟨bs, e, hb⟩ := main h g3
  have hl := dpA_len h
  rw [e, List.length_map] at hl
  exact ⟨bs, e, hb, by omega, by omega⟩
abbrev s_Near___init__ : Stmt := inClass (top 30) 0
abbrev N_Near___init__ : List Str := ["self", "boxes", "room", "width", "rule"]
theorem S_Near___init__ : FnScope N_Near___init__ ["self", "boxes", "room", "width", "rule"] (defScope s_Near___init__) := ⟨rfl, rfl, rfl, by decide +kernel, rfl, by decide +kernel, by decide +kernel⟩

theorem m_initN {C CB CS : Addr} (T : Txt K w mg) (W : NCls K C) (mk : PySem.W.makesIn K C = true) (kc : PySem.W.keepIn K (.ref C) = true) (hm : mg "Near" = some (.ref C)) (D : MethAt K C "__init__" "Near.__init__" s_Near___init__) (C_checked_boxes : Cal P w K mg base (L2.CX P w) 3 "checked_boxes" (spCheckedB K CB)) (C__check_shape : Cal P w K mg base (L2.CX P w) 3 "_check_shape" (spCheckShape K CS)) :
    MakX P w K mg base 4 "Near" C (spInitN K C CB CS) := by
  have S := S_Near___init__
  refine makX_of mk kc hm D S (fun _ _ _ _ _ _ us hl => match us, hl with | [_, _, _, _, _], _ => rfl) (fun vs H Q E h => ?_) (fun f cdv A outer s H vs Q E hr h => ?_)
  · obtain ⟨H0, p, dx, g, xs, ds, vr, vw, vu, du, rfl, _⟩ := h
    rfl
  · obtain ⟨H0, p, dx, g, xs, ds, vr, vw, vu, du, rfl, s0, p0, hp, hX, hD, hz, hvr, hvw, hany, hvu, hq, he1, he2⟩ := h
    refine ⟨_, (pss_cons (ps_fld (pv 0) (pe_cx C_checked_boxes (takes_of rfl rfl rfl rfl) hr (by decide) rfl (pa_cons (pv 1) pa_nil)) rfl)
  (pss_cons (ps_expr (pe_cx C__check_shape (takes_of rfl rfl rfl rfl) hr (by decide) rfl (pa_cons (pv 2) (pa_cons (pv 3) (pa_cons (pv 4) pa_nil)))))
  (pss_cons (ps_fld (pv 0) pe_int rfl)
  (pss_cons (ps_fld (pv 0) pe_int rfl)
  (pss_cons (ps_fld (pv 0) pe_int rfl)
  (pss_cons (ps_fld (pv 0) (pv 2) rfl)
  (pss_cons (ps_fld (pv 0) (pv 3) rfl)
  (pss_cons (ps_fld (pv 0) (pv 4) rfl)
  (pss_cons (ps_fld (pv 0) pe_dnewK rfl)
  (pss_one (ps_fld (pv 0) pe_dnewK rfl))))))))))), ?_⟩
    refine ⟨_, rfl, g, xs, ds, rfl, s0.seq hX, dpAll_same s0 _ _ hD, hz, fun hgB H1 af t1 naf gaf => ?_, fun hgB H1 t1 => he1 hgB H1 (s0.trans t1)⟩
    have hp1 := t1 _ _ hp
    have paf : p ≠ af := ne_of_none hp naf
    have naf0 : H0 af = none := s0.free naf
    have t01 := s0.trans t1
    obtain ⟨bs, ebs, hbb, hb1, hb2⟩ := good_ints hD hgB
    refine ⟨_, rfl, p, C, dx, [], rfl, hp1, W.cl, W.nFar, (by show 0 < 1000; decide), ?_⟩
    generalize eH2 : upd H1 p _ = H2
    have g2 : H2 p = some (.ins C dx [(("far" : Str), .ref af)]) := eH2 ▸ upd_same
    have t2 : Same H0 H2 := eH2 ▸ t01.mut p0
    have gaf2 : H2 af = some (.lst xs) := by rw [← eH2]; exact (upd_ne paf.symm).trans gaf
    clear eH2
    refine ⟨_, rfl, _, rfl, _, rfl, vr, vw, vu, du, rfl, (hany _ t2).1, (hany _ t2).2, dp_same t2 _ _ hvu, fun hsh H3 t3 => ?_, fun hsh H3 t3 => he2 hgB hsh H3 (t2.trans t3)⟩
    have g3 := t3 _ _ g2
    have gaf3 := t3 _ _ gaf2
    have t03 := t2.trans t3
    -- what is good is of these forms
    obtain ⟨r, wd, rule, rfl, rfl, rfl⟩ : ∃ (r wd : Nat) (rule : Str), vr = .int (r : Nat) ∧ vw = .int (wd : Nat) ∧ vu = .str rule := by
      unfold shapeOk at hsh
      rw [Bool.and_eq_true, Bool.and_eq_true] at hsh
      obtain ⟨k1, k2, k3⟩ := hsh
      have nat : ∀ v : V, wholeV v 1 200 = true → ∃ n : Nat, v = .int (n : Nat) := fun v h => by
        cases v with
        | int z =>
          have h : (decide (1 ≤ z) && decide (z ≤ 200)) = true := h
          rw [Bool.and_eq_true, decide_eq_true_eq, decide_eq_true_eq] at h
          exact ⟨z.toNat, congrArg V.int (Int.toNat_of_nonneg (by omega)).symm⟩
        | _ => cases h
      obtain ⟨r, er⟩ := nat _ k1
      obtain ⟨wd, ew⟩ := nat _ k2
      cases hvu with
      | str x => exact ⟨r, wd, x, er, ew, rfl⟩
      | _ => cases k3
    refine ⟨_, rfl, p, C, dx, _, rfl, g3, W.cl, W.nFound, (by show 1 < 1000; decide), ?_⟩
    refine ⟨_, rfl, p, C, dx, _, rfl, upd_same, W.cl, W.nMissed, (by show 2 < 1000; decide), ?_⟩
    refine ⟨_, rfl, p, C, dx, _, rfl, upd_same, W.cl, W.nBack, (by show 3 < 1000; decide), ?_⟩
    refine ⟨_, rfl, _, rfl, p, C, dx, _, rfl, upd_same, W.cl, W.nRoom, (by show 4 < 1000; decide), ?_⟩
    refine ⟨_, rfl, _, rfl, p, C, dx, _, rfl, upd_same, W.cl, W.nWidth, (by show 5 < 1000; decide), ?_⟩
    refine ⟨_, rfl, _, rfl, p, C, dx, _, rfl, upd_same, W.cl, W.nRule, (by show 6 < 1000; decide), ?_⟩
    generalize eH4 : upd (upd (upd (upd (upd (upd H3 p _) p _) p _) p _) p _) p _ = H4
    have g4 : H4 p = some (.ins C dx [(("far" : Str), .ref af), (("found" : Str), .int 0), (("missed" : Str), .int 0), (("back" : Str), .int 0), (("_room" : Str), .int (r : Nat)), (("_width" : Str), .int (wd : Nat)), (("_rule" : Str), .str rule)]) := eH4 ▸ upd_same
    have t4 : Same H0 H4 := eH4 ▸ (((((t03.mut p0).mut p0).mut p0).mut p0).mut p0).mut p0
    have gaf4 : H4 af = some (.lst xs) := by rw [← eH4]; walk_at "hp"
    clear eH4
    refine fun dl ndl => ?_
    have npl : p ≠ dl := ne_of_none g4 ndl
    have nfl : af ≠ dl := ne_of_none gaf4 ndl
    have ndl0 : H0 dl = none := t4.free ndl
    refine ⟨_, rfl, p, C, dx, _, rfl, (by walk_at "hp"), W.cl, W.nLines, (by show 7 < 1000; decide), ?_⟩
    generalize eH5 : upd (upd H4 dl _) p _ = H5
    have g5 : H5 p = some (.ins C dx [(("far" : Str), .ref af), (("found" : Str), .int 0), (("missed" : Str), .int 0), (("back" : Str), .int 0), (("_room" : Str), .int (r : Nat)), (("_width" : Str), .int (wd : Nat)), (("_rule" : Str), .str rule), (("_lines" : Str), .ref dl)]) := eH5 ▸ upd_same
    have t5 : Same H0 H5 := eH5 ▸ (t4.more ndl).mut p0
    have gaf5 : H5 af = some (.lst xs) := by rw [← eH5]; walk_at "hp"
    have gdl5 : H5 dl = some (.dK []) := by rw [← eH5]; exact (upd_ne npl.symm).trans upd_same
    clear eH5
    refine fun dw ndw => ?_
    have npw : p ≠ dw := ne_of_none g5 ndw
    have nfw : af ≠ dw := ne_of_none gaf5 ndw
    have nlw : dl ≠ dw := ne_of_none gdl5 ndw
    have ndw0 : H0 dw = none := t5.free ndw
    refine ⟨_, rfl, p, C, dx, _, rfl, (by walk_at "hp"), W.cl, W.nWritten, (by show 8 < 1000; decide), ?_⟩
    refine hq bs r wd rule hgB hsh ebs rfl rfl rfl _ ⟨p, af, dl, dw⟩ rfl ⟨⟨dx, upd_same⟩, ?_, ?_, ?_, nlw, (fun x hx => by cases hx), List.nodup_nil⟩ ((t5.more ndw).mut p0) fun q' o => ?_
    · rw [ebs] at gaf5
      exact (upd_ne paf.symm).trans ((upd_ne nfw).trans gaf5)
    · exact (upd_ne npl.symm).trans ((upd_ne nlw).trans gdl5)
    · exact (upd_ne npw.symm).trans upd_same
    · rcases o with rfl | rfl | rfl | rfl | ⟨x, hx, _⟩
      · exact p0
      · exact naf0
      · exact ndl0
      · exact ndw0
      · cases hx

def spSettle (C : Addr) : Sp := fun vs H Q _ => ∃ (a : Na) (par : Np) (s : Ns) (plain : List Int), vs = [.ref a.p] ∧ NearAt C H a par s ∧ GoodS par s ∧ Rel par s plain ∧ s.far.length ≤ 300 ∧ par.wd ≤ 300 ∧ par.room ≤ 300 ∧
  ∀ H', NearAt C H' a par (settleS par s) → Step H a s H' (settleS par s) → Q .non H'
theorem tk_list (near : List Int) : (dk gT (tkP near)).map (fun kv => kV kv.1) = near.map V.int := by
  unfold dk tkP
  rw [List.map_map, List.map_map]
  rfl
abbrev s_Near_settle : Stmt := inClass (top 30) 4
abbrev N_Near_settle : List Str := ["self", "line"]
theorem S_Near_settle : FnScope N_Near_settle ["self"] (defScope s_Near_settle) := ⟨rfl, rfl, rfl, by decide +kernel, rfl, by decide +kernel, by decide +kernel⟩

theorem m_settle {C : Addr} (T : Txt K w mg) (W : NCls K C) (D : MethAt K C "settle" "Near.settle" s_Near_settle) (M_write_back : C8.Met P w K mg base 1 C "_write_back" (spWriteBack C) []) : C8.Met P w K mg base 2 C "settle" (spSettle C) [] := by
  have S := S_Near_settle
  refine met_of W.cl D S (fun _ _ _ _ _ _ us hl => match us, hl with | [_], _ => rfl) (fun vs H Q E h => ?_) (fun f cdv A outer s H vs Q E hr h => ?_)
  · obtain ⟨a, par, s, plain, rfl, _⟩ := h
    rfl
  · obtain ⟨a, par, s, plain, rfl, N, G, R, hf, hwd, hro, q⟩ := h
    refine ⟨_, (pss_one (ps_for PassesOwn.never rfl (pi_list (pe_callTy (call_listD rfl) (by rfl) T.list (by decide +kernel) (pa_cons (pe_fld (pv 0) rfl) pa_nil))) (pg_name (i := 1) S.nd rfl (Or.inl rfl))
  (pss_one (ps_expr (C8.pe_mt M_write_back hr (by decide) (pv 0) (pa_cons (pv 1) pa_nil)))))), ?_⟩
    obtain ⟨dx, hi⟩ := N.ins
    refine ⟨_, rfl, a.p, C, dx, _, _, rfl, hi, W.cl, W.nWritten, rfl, a.dw, _, rfl, .inl N.dw, fun p np => ?_⟩
    rw [tk_list]
    have t1 : Same H (upd H p (.lst (s.written.map V.int))) := Same.new np
    refine ⟨p, rfl, ⟨_, SqL.of upd_same⟩, for_list (xs := s.written.map V.int) (fun i σ H' => (∃ v1, σ = [some (.ref a.p), v1]) ∧ NearAt C H' a par (settleL par.wd (s.written.take i) s) ∧ Step (upd H p (.lst (s.written.map V.int))) a s H' (settleL par.wd (s.written.take i) s) ∧ H' p = some (.lst (s.written.map V.int)) ∧ ¬ Own a (settleL par.wd (s.written.take i) s) p)
      ⟨⟨_, rfl⟩, N.same t1, Step.of_same (Same.refl _), upd_same, N.new np⟩ (fun i σ H' _ h => SqL.of h.2.2.2.1) (fun i x σ H' ex h => ?_) (fun σ H' h => ?_)⟩
    · obtain ⟨⟨v1, rfl⟩, N1, st1, gp, op⟩ := h
      obtain ⟨L, rfl, eL⟩ : ∃ L, x = V.int L ∧ s.written[i]? = some L := by
        rw [List.getElem?_map] at ex
        obtain ⟨y, e, e2⟩ := Option.map_eq_some_iff.mp ex
        exact ⟨y, e2.symm, e⟩
      have hmem : L ∈ s.written := List.mem_of_getElem? eL
      have etake : s.written.take (i + 1) = s.written.take i ++ [L] := by rw [List.take_add_one, eL]; rfl
      have nd2 : (s.written.take i ++ [L]).Nodup := by rw [← etake]; exact G.wnd.sublist (List.take_sublist _ _)
      obtain ⟨a1, a2, a3, a4, a5, a6, a7⟩ := settle_all (plain := plain) (s.written.take i) s G R (fun l hl => G.wsub l (List.mem_of_mem_take hl)) (G.wnd.sublist (List.take_sublist _ _))
      have hnot : L ∉ s.written.take i := fun z => (List.nodup_append.mp nd2).2.2 L z L List.mem_cons_self rfl
      have enext : settleL par.wd (s.written.take (i + 1)) s = wbS par.wd (settleL par.wd (s.written.take i) s) L := by
        rw [etake]
        unfold settleL
        rw [List.foldl_append]
        rfl
      have hkey : L ∈ (settleL par.wd (s.written.take i) s).keys := by
        show L ∈ (settleL par.wd (s.written.take i) s).lines.map (·.1)
        rw [a3]
        exact G.wsub L hmem
      have hfl : (settleL par.wd (s.written.take i) s).far.length ≤ 300 := by have := a2.len; have := R.len; omega
      obtain ⟨dx1, hi1⟩ := N1.ins
      refine ⟨_, rfl, a.p, dx1, _, rfl, hi1, rfl, _, rfl, a, par, _, L, rfl, N1, a1, hkey, (a7 L).mpr ⟨hmem, hnot⟩, hfl, hwd, hro, fun H2 N2 st2 => ?_⟩
      rw [← enext] at N2 st2
      obtain ⟨gp2, op2⟩ := st2 _ _ gp op
      exact ⟨⟨_, rfl⟩, N2, st1.trans st2, gp2, op2⟩
    · obtain ⟨⟨v1, rfl⟩, N1, st1, gp, op⟩ := h
      rw [List.length_map, List.take_length] at N1 st1
      exact q H' N1 ((Step.of_same t1).trans st1)

def nearB (ks : List Int) (L : Int) (room : Nat) (rule : Str) : List Int := if L ∈ ks then (if rule = "first" then ks else ks.filter (fun y => y != L) ++ [L]) else (if ks.length = room then ks.drop 1 else ks) ++ [L]

theorem line_in {par : Np} {s : Ns} (G : GoodS par s) {i : Nat} (hi : i < s.far.length) : 0 ≤ ((i / par.wd : Nat) : Int) ∧ ((i / par.wd : Nat) : Int) * par.wd < s.far.length := by
  have := Nat.div_mul_le_self i par.wd
  have h2 : ((i / par.wd : Nat) : Int) * (par.wd : Nat) = ((i / par.wd * par.wd : Nat) : Int) := (Int.natCast_mul _ _).symm
  exact ⟨Int.natCast_nonneg _, by omega⟩
theorem Rel.near {par : Np} {s : Ns} {plain : List Int} (G : GoodS par s) (R : Rel par s plain) {k : Nat} (hk : k < plain.length) (hne : s.far[k]? ≠ plain[k]?) : ((k / par.wd : Nat) : Int) ∈ s.keys := by
  by_cases h : ((k / par.wd : Nat) : Int) ∈ s.written
  · exact G.wsub _ h
  · exact absurd (R.far k hk h) hne
theorem boxes_goodN {bs : List Int} (h : ∀ b ∈ bs, 0 ≤ b ∧ b < 1000000) (h1 : 1 ≤ bs.length) (h2 : bs.length ≤ 200) : goodB ((bs.map V.int).map dOf) = true := by
  unfold goodB
  rw [List.length_map, List.length_map, decide_eq_true h1, decide_eq_true h2, Bool.true_and, Bool.true_and, List.map_map, List.all_map]
  refine List.all_eq_true.mpr fun b hb => ?_
  show (decide (0 ≤ b) && decide (b ≤ 999999)) = true
  rw [decide_eq_true (h b hb).1, decide_eq_true (by have := (h b hb).2; omega)]
  rfl
theorem shape_good {room wd : Nat} {rule : Str} (r0 : 1 ≤ room) (r1 : room ≤ 200) (w0 : 1 ≤ wd) (w1 : wd ≤ 200) (hr2 : rule = "least" ∨ rule = "first") : shapeOk (.int (room : Nat)) (.int (wd : Nat)) (.str rule) = true := by
  unfold shapeOk
  have h1 : wholeV (.int (room : Nat)) 1 200 = true := by show (decide _ && decide _) = true; rw [decide_eq_true (by omega), decide_eq_true (by omega)]; rfl
  have h2 : wholeV (.int (wd : Nat)) 1 200 = true := by show (decide _ && decide _) = true; rw [decide_eq_true (by omega), decide_eq_true (by omega)]; rfl
  rw [h1, h2]
  rcases hr2 with e | e <;> rw [e] <;> rfl
/-- a new Near: what is asked when all is good -/
theorem init_good {K : PySem.W.Frag} {C CB CS : Addr} {H6 : Hp} {ap dx g : Addr} {bs : List Int} {room wd : Nat} {rule : Str} {Q : VK} {E : XK} (nap : H6 ap = none) (ndx : H6 dx = none) (gg : H6 g = some (.lst (bs.map V.int))) (hbb : ∀ b ∈ bs, 0 ≤ b ∧ b < 1000000) (hb1 : 1 ≤ bs.length) (hb2 : bs.length ≤ 200)
    (r0 : 1 ≤ room) (r1 : room ≤ 200) (w0 : 1 ≤ wd) (w1 : wd ≤ 200) (hr2 : rule = "least" ∨ rule = "first")
    (q : ∀ H' a, a.p = ap → NearAt C H' a ⟨room, wd, rule⟩ (initS bs) → Same H6 H' → (∀ q, Own a (initS bs) q → H6 q = none) → Q .non H') :
    spInitN K C CB CS [.ref ap, .ref g, .int (room : Nat), .int (wd : Nat), .str rule] (upd (upd H6 dx (.own ap)) ap (.ins C dx [])) Q E := by
  have s0 : Same H6 (upd (upd H6 dx (.own ap)) ap (.ins C dx [])) := fun b o e => by
    rw [upd_ne (ne_of_none e nap), upd_ne (ne_of_none e ndx)]
    exact e
  have hg := boxes_goodN hbb hb1 hb2
  have hs := shape_good r0 r1 w0 w1 hr2
  refine ⟨H6, ap, dx, g, _, _, _, _, _, _, rfl, s0, nap, upd_same, SqL.of gg, dpA_int _, by rw [List.length_map]; omega, any_int _, any_int _, fun H' _ => ⟨any_int _, any_int _⟩, .str rule, fun bs' r' wd' rule' _ _ exs er ew eu H7 a ea N7 t7 fresh => ?_, (fun hb => by rw [hg] at hb; cases hb), (fun _ hb => by rw [hs] at hb; cases hb)⟩
  have exs := map_int_inj exs
  have er := V.int.inj er
  have ew := V.int.inj ew
  have eu := V.str.inj eu
  obtain rfl : room = r' := by omega
  obtain rfl : wd = wd' := by omega
  subst eu exs
  exact q H7 a ea N7 t7 fresh
theorem good0 {par : Np} {bs : List Int} (r0 : 1 ≤ par.room) (w0 : 1 ≤ par.wd) : GoodS par (initS bs) := ⟨List.nodup_nil, (fun x hx => by cases hx), (fun l hl => by cases hl), List.nodup_nil, Nat.zero_le _, r0, w0⟩

theorem keys_touch {par : Np} {s : Ns} (G : GoodS par s) (hr : par.rule = "least" ∨ par.rule = "first") (L : Int) (b : Addr) : (touchS par s L b).keys = nearB s.keys L par.room par.rule ∧ (touchS par s L b).found = (if L ∈ s.keys then s.found + 1 else s.found) ∧ (touchS par s L b).missed = (if L ∈ s.keys then s.missed else s.missed + 1) := by
  unfold touchS nearB
  by_cases h : L ∈ s.keys
  · rw [if_pos h, if_pos h, if_pos h, if_pos h]
    have h' : L ∈ ({ s with found := s.found + 1 } : Ns).keys := h
    obtain ⟨b1, ns, hlk, hm⟩ := key_get h'
    unfold findS
    rw [hlk]
    rcases hr with e | e
    · rw [e, if_neg (by decide : ¬ ("least" : Str) = "first")]
      refine ⟨?_, rfl, rfl⟩
      show (dropP s.lines L ++ [(L, (b1, ns))]).map (·.1) = _
      rw [List.map_append, drop_keys]
      rfl
    · rw [e, if_pos rfl]
      exact ⟨rfl, rfl, rfl⟩
  · rw [if_neg h, if_neg h, if_neg h, if_neg h]
    have hlen : s.keys.length = s.lines.length := by unfold Ns.keys; rw [List.length_map]
    by_cases hf : s.lines.length = par.room
    · rw [if_pos (hlen.trans hf)]
      have e : bringS par { s with missed := s.missed + 1 } L b = { goS par.wd { s with missed := s.missed + 1 } (s.keys.headD 0) with lines := (goS par.wd { s with missed := s.missed + 1 } (s.keys.headD 0)).lines ++ [(L, (b, sliceF (goS par.wd { s with missed := s.missed + 1 } (s.keys.headD 0)).far (L * par.wd).toNat par.wd))] } := by
        unfold bringS
        rw [if_pos hf]
        rfl
      have r1 := G.r1
      have hg := go_cases par.wd { s with missed := s.missed + 1 } (s.keys.headD 0)
      rw [e]
      refine ⟨?_, ?_, ?_⟩
      · show ((goS par.wd { s with missed := s.missed + 1 } (s.keys.headD 0)).lines ++ [_]).map (fun x : Int × (Addr × List Int) => x.1) = _
        rw [List.map_append, hg]
        show (dropP s.lines (s.keys.headD 0)).map (·.1) ++ [L] = _
        rw [drop_keys]
        congr 1
        cases hk : s.keys with
        | nil => rw [hk] at hlen; simp at hlen; omega
        | cons k ks =>
          have nd := G.keys
          rw [hk] at nd
          have hk2 : s.lines.map (·.1) = k :: ks := hk
          rw [hk2, List.filter_cons_of_neg (by simp)]
          exact flt_id (List.nodup_cons.mp nd).1
      · show (goS par.wd { s with missed := s.missed + 1 } (s.keys.headD 0)).found = _
        rw [hg]
        dsimp only
        split <;> rfl
      · show (goS par.wd { s with missed := s.missed + 1 } (s.keys.headD 0)).missed = _
        rw [hg]
        dsimp only
        split <;> rfl
    · rw [if_neg (fun z => hf (hlen.symm.trans z))]
      have e : bringS par { s with missed := s.missed + 1 } L b = { s with missed := s.missed + 1, lines := s.lines ++ [(L, (b, sliceF s.far (L * par.wd).toNat par.wd))] } := by
        unfold bringS
        rw [if_neg hf]
      rw [e]
      refine ⟨?_, rfl, rfl⟩
      show (s.lines ++ [_]).map (fun x : Int × (Addr × List Int) => x.1) = _
      rw [List.map_append]
      rfl

/-! ### what a walk over touches counts, without the numbers -/
structure Ws where
  near : List Int
  dirty : List Int
  f : Nat
  m : Nat
  b : Nat
def wTouch (par : Np) (w : Ws) (L : Int) : Ws :=
  { near := if L ∈ w.near then (if par.rule = "first" then w.near else w.near.filter (fun y => y != L) ++ [L]) else (if w.near.length = par.room then w.near.drop 1 else w.near) ++ [L]
    dirty := if L ∈ w.near then w.dirty else if w.near.length = par.room then (if w.near.headD 0 ∈ w.dirty then w.dirty.filter (fun y => y != w.near.headD 0) else w.dirty) else w.dirty
    f := if L ∈ w.near then w.f + 1 else w.f
    m := if L ∈ w.near then w.m else w.m + 1
    b := if L ∈ w.near then w.b else if w.near.length = par.room then (if w.near.headD 0 ∈ w.dirty then w.b + 1 else w.b) else w.b }
def wPut (w : Ws) (L : Int) : Ws := { w with dirty := if L ∈ w.dirty then w.dirty else w.dirty ++ [L] }
def wStep (par : Np) (w : Ws) (t : Str × Int) : Ws := if t.1 = "write" then wPut (wTouch par w (t.2 / (par.wd : Nat))) (t.2 / (par.wd : Nat)) else wTouch par w (t.2 / (par.wd : Nat))
def walkW (par : Np) (ts : List (Str × Int)) : Ws := ts.foldl (wStep par) ⟨[], [], 0, 0, 0⟩
theorem walkW_snoc (par : Np) (ts : List (Str × Int)) (t : Str × Int) : walkW par (ts ++ [t]) = wStep par (walkW par ts) t := by
  unfold walkW
  rw [List.foldl_append]
  rfl
structure Cnt (s : Ns) (w : Ws) : Prop where
  k : s.keys = w.near
  d : s.written = w.dirty
  f : s.found = w.f
  m : s.missed = w.m
  b : s.back = w.b
theorem find_rest (least : Bool) (s : Ns) (L : Int) : (findS least s L).written = s.written ∧ (findS least s L).back = s.back := by
  unfold findS
  split
  · split <;> exact ⟨rfl, rfl⟩
  · exact ⟨rfl, rfl⟩
theorem touch_rest (par : Np) (s : Ns) (L : Int) (b : Addr) :
    (touchS par s L b).written = (if L ∈ s.keys then s.written else if s.lines.length = par.room then (if s.keys.headD 0 ∈ s.written then s.written.filter (fun y => y != s.keys.headD 0) else s.written) else s.written) ∧
    (touchS par s L b).back = (if L ∈ s.keys then s.back else if s.lines.length = par.room then (if s.keys.headD 0 ∈ s.written then s.back + 1 else s.back) else s.back) := by
  unfold touchS
  by_cases h : L ∈ s.keys
  · rw [if_pos h, if_pos h, if_pos h]
    exact find_rest _ _ _
  · rw [if_neg h, if_neg h, if_neg h]
    unfold bringS
    by_cases hf : s.lines.length = par.room
    · rw [if_pos hf, if_pos hf, if_pos hf]
      have hg := go_cases par.wd { s with missed := s.missed + 1 } (s.keys.headD 0)
      refine ⟨?_, ?_⟩
      · show (goS par.wd { s with missed := s.missed + 1 } (s.keys.headD 0)).written = _
        rw [hg]
        dsimp only
        split <;> rfl
      · show (goS par.wd { s with missed := s.missed + 1 } (s.keys.headD 0)).back = _
        rw [hg]
        dsimp only
        split <;> rfl
    · rw [if_neg hf, if_neg hf, if_neg hf]
      exact ⟨rfl, rfl⟩
theorem cnt_touch {par : Np} {s : Ns} {w : Ws} {L : Int} {b : Addr} (G : GoodS par s) (hr : par.rule = "least" ∨ par.rule = "first") (c : Cnt s w) : Cnt (touchS par s L b) (wTouch par w L) := by
  obtain ⟨e1, e2, e3⟩ := keys_touch G hr L b
  obtain ⟨e4, e5⟩ := touch_rest par s L b
  have hl : s.lines.length = s.keys.length := by unfold Ns.keys; rw [List.length_map]
  rw [hl] at e4 e5
  obtain ⟨c1, c2, c3, c4, c5⟩ := c
  unfold nearB at e1
  rw [c1] at e1 e2 e3 e4 e5
  rw [c2] at e4 e5
  rw [c3] at e2
  rw [c4] at e3
  rw [c5] at e5
  exact ⟨e1, e4, e2, e3, e5⟩
theorem cnt_put {s : Ns} {w : Ws} {L : Int} {i : Nat} {n : Int} (c : Cnt s w) : Cnt (putS s L i n) (wPut w L) := by
  obtain ⟨c1, c2, c3, c4, c5⟩ := c
  refine ⟨(set_keys _ _ _ _).trans c1, ?_, c3, c4, c5⟩
  show (if L ∈ s.written then s.written else s.written ++ [L]) = if L ∈ w.dirty then w.dirty else w.dirty ++ [L]
  rw [c2]
theorem cnt0 (bs : List Int) : Cnt (initS bs) (walkW par []) := ⟨rfl, rfl, rfl, rfl, rfl⟩
/-! ### a Near as a machine's memory: the boxes have bs behind the touches ts -/
structure MemN (C : Addr) (H : Hp) (a : Na) (par : Np) (s : Ns) (bs : List Int) (ts : List (Str × Int)) : Prop where
  na : NearAt C H a par s
  g : GoodS par s
  r : Rel par s bs
  c : Cnt s (walkW par ts)
  hr : par.rule = "least" ∨ par.rule = "first"
  l1 : 1 ≤ bs.length
  l2 : bs.length ≤ 300
  w2 : par.wd ≤ 300
  r2 : par.room ≤ 300
theorem MemN.keep {C : Addr} {H H' : Hp} {a : Na} {par : Np} {s : Ns} {bs : List Int} {ts : List (Str × Int)} (M : MemN C H a par s bs ts) (N : NearAt C H' a par s) : MemN C H' a par s bs ts := ⟨N, M.g, M.r, M.c, M.hr, M.l1, M.l2, M.w2, M.r2⟩
theorem MemN.look {C : Addr} {H H' : Hp} {a : Na} {par : Np} {s : Ns} {bs : List Int} {ts : List (Str × Int)} {i : Nat} {b : Addr} (M : MemN C H a par s bs ts) (hi : i < bs.length) (N : NearAt C H' a par (touchS par s ((i / par.wd : Nat) : Int) b)) :
    MemN C H' a par (touchS par s ((i / par.wd : Nat) : Int) b) bs (ts ++ [(("read" : Str), ((i : Nat) : Int))]) := by
  have hl := M.r.len
  have hline := line_in (par := par) (s := s) M.g (i := i) (by omega)
  obtain ⟨G1, ef1⟩ := M.g.touch (b := b) hline.1 hline.2
  refine ⟨N, G1, M.r.touch M.g hline.1, ?_, M.hr, M.l1, M.l2, M.w2, M.r2⟩
  rw [walkW_snoc]
  have := cnt_touch (L := ((i / par.wd : Nat) : Int)) (b := b) M.g M.hr M.c
  rw [show ((i / par.wd : Nat) : Int) = ((i : Nat) : Int) / ((par.wd : Nat) : Int) from Int.natCast_ediv _ _] at this ⊢
  exact this
theorem MemN.put {C : Addr} {H H' : Hp} {a : Na} {par : Np} {s : Ns} {bs : List Int} {ts : List (Str × Int)} {i : Nat} {b : Addr} {n : Int} (M : MemN C H a par s bs ts) (hi : i < bs.length) (N : NearAt C H' a par (putS (touchS par s ((i / par.wd : Nat) : Int) b) ((i / par.wd : Nat) : Int) (i % par.wd) n)) :
    MemN C H' a par (putS (touchS par s ((i / par.wd : Nat) : Int) b) ((i / par.wd : Nat) : Int) (i % par.wd) n) (bs.set i n) (ts ++ [(("write" : Str), ((i : Nat) : Int))]) := by
  have hl := M.r.len
  have hline := line_in (par := par) (s := s) M.g (i := i) (by omega)
  obtain ⟨G1, ef1⟩ := M.g.touch (b := b) hline.1 hline.2
  refine ⟨N, G1.put touch_key, (M.r.touch M.g hline.1).put G1 hi touch_key, ?_, M.hr, by rw [List.length_set]; exact M.l1, by rw [List.length_set]; exact M.l2, M.w2, M.r2⟩
  rw [walkW_snoc]
  have := cnt_put (L := ((i / par.wd : Nat) : Int)) (i := i % par.wd) (n := n) (cnt_touch (L := ((i / par.wd : Nat) : Int)) (b := b) M.g M.hr M.c)
  rw [show ((i / par.wd : Nat) : Int) = ((i : Nat) : Int) / ((par.wd : Nat) : Int) from Int.natCast_ediv _ _] at this ⊢
  exact this
/-- what is no object of a Near's own kinds -/
theorem NearAt.notup {C : Addr} {H : Hp} {a : Na} {par : Np} {s : Ns} (N : NearAt C H a par s) {q : Addr} {o : HO} (e : H q = .some o) (h1 : ∀ c d f, o ≠ .ins c d f) (h2 : ∀ u, o ≠ .lst u) (h3 : ∀ u, o ≠ .dK u) : ¬ Own a s q := fun w => by
  rcases w with rfl | rfl | rfl | rfl | ⟨x, hx, rfl⟩
  · obtain ⟨dx, g⟩ := N.ins
    rw [g] at e
    cases e
    exact h1 _ _ _ rfl
  · rw [N.far] at e
    cases e
    exact h2 _ rfl
  · rw [N.dl] at e
    cases e
    exact h3 _ rfl
  · rw [N.dw] at e
    cases e
    exact h3 _ rfl
  · rw [(N.lns x hx).1] at e
    cases e
    exact h2 _ rfl
theorem MetX.imp {C : Addr} {m : Str} {k : Nat} {sp sp2 : Sp} (c : MetX P w K mg base k C m sp) (h : ∀ vs H Q E, sp2 vs H Q E → sp vs H Q E) : MetX P w K mg base k C m sp2 := by
  obtain ⟨f, fd, ps, hc, hm, F, b⟩ := c.ex
  exact ⟨f, fd, ps, hc, hm, F.imp h, b⟩
def spLookM (C : Addr) : Sp := fun vs H Q _ => ∃ (a : Na) (par : Np) (z : Ns) (bs : List Int) (ts : List (Str × Int)) (b : Int), vs = [.ref a.p, .int b] ∧ MemN C H a par z bs ts ∧ 0 ≤ b ∧ b < (bs.length : Nat) ∧
  ∀ H' z', Step H a z H' z' → MemN C H' a par z' bs (ts ++ [(("read" : Str), b)]) → Q (.int (at0 bs b)) H'
def spPutM (C : Addr) : Sp := fun vs H Q _ => ∃ (a : Na) (par : Np) (z : Ns) (bs : List Int) (ts : List (Str × Int)) (b n : Int), vs = [.ref a.p, .int b, .int n] ∧ MemN C H a par z bs ts ∧ 0 ≤ b ∧ b < (bs.length : Nat) ∧
  ∀ H' z', Step H a z H' z' → MemN C H' a par z' (bs.set b.toNat n) (ts ++ [(("write" : Str), b)]) → Q .non H'
theorem m_lookM {C C3 : Addr} (M_look : MetX P w K mg base 5 C "look" (spLookN K C C3)) : MetX P w K mg base 5 C "look" (spLookM C) := M_look.imp fun vs H Q E h => by
  obtain ⟨a, par, z, bs, ts, b, rfl, M, h0, h1, q⟩ := h
  obtain ⟨i, rfl⟩ : ∃ i : Nat, b = (i : Nat) := ⟨b.toNat, (Int.toNat_of_nonneg h0).symm⟩
  have hl := M.r.len
  have l1 := M.l1
  have l2 := M.l2
  refine ⟨a, par, z, .int (i : Nat), rfl, any_int _, M.na, M.g, by omega, by omega, M.w2, M.r2, fun k' ev hil H1 bb N1 st1 => ?_, fun hbad => (no_bad (by omega) hbad).elim⟩
  obtain rfl : i = k' := by have := V.int.inj ev; omega
  have M1 := M.look (by omega) N1
  have e : lookV par (touchS par z ((i / par.wd : Nat) : Int) bb) i = at0 bs ((i : Nat) : Int) := M1.r.look M1.g (by omega) touch_key
  rw [e]
  exact q H1 _ st1 M1
theorem m_putM {C C3 : Addr} (M_put : MetX P w K mg base 5 C "put" (spPutN K C C3)) : MetX P w K mg base 5 C "put" (spPutM C) := M_put.imp fun vs H Q E h => by
  obtain ⟨a, par, z, bs, ts, b, n, rfl, M, h0, h1, q⟩ := h
  obtain ⟨i, rfl⟩ : ∃ i : Nat, b = (i : Nat) := ⟨b.toNat, (Int.toNat_of_nonneg h0).symm⟩
  have hl := M.r.len
  have l1 := M.l1
  have l2 := M.l2
  refine ⟨a, par, z, .int (i : Nat), n, rfl, any_int _, M.na, M.g, by omega, by omega, M.w2, M.r2, fun k' ev hil H1 bb N1 st1 => ?_, fun hbad => (no_bad (by omega) hbad).elim⟩
  obtain rfl : i = k' := by have := V.int.inj ev; omega
  exact q H1 _ st1 (M.put (by omega) N1)

-- SPLIT
/-- all but a Near's own and the list at tl stays -/
def StepT (H : Hp) (a : Na) (z : Ns) (tl : Addr) (H' : Hp) (z' : Ns) : Prop := ∀ q o, H q = some o → ¬ Own a z q → q ≠ tl → H' q = some o ∧ ¬ Own a z' q
theorem Step.tl {H H' : Hp} {a : Na} {z z' : Ns} (st : Step H a z H' z') (tl : Addr) : StepT H a z tl H' z' := fun q o e n _ => st q o e n
def spActM (K : PySem.W.Frag) (C : Addr) : Sp := fun vs H Q _ => ∃ (r tl : Addr) (a : Na) (par : Np) (z : Ns) (wd : Str) (ns : List Int) (bs tv : List Int) (ts : List (Str × Int)) (count : Int), vs = [.ref r, .ref a.p, .int (bs.length : Nat), .ref tl] ∧ SqT K H r (.str wd :: ns.map V.int) ∧ MemN C H a par z bs ts ∧ H tl = some (.lst (tv.map V.int)) ∧
  ¬ Own a z tl ∧ RowOk (bs.length : Nat) count wd ns ∧ tv.length ≤ 9000 ∧ ∀ H' z', StepT H a z tl H' z' → MemN C H' a par z' (boxesOf wd ns bs) (ts ++ touchesOf wd ns bs) → H' tl = some (.lst ((tv ++ toldOf wd ns bs).map V.int)) → ¬ Own a z' tl → Q .non H'
theorem c_actM {C : Addr} (T : Txt K w mg) (D : DefAt K "_act" s__act) (gRound : ∃ t, mg "ROUND" = some (.int 1000000 t)) (M_look : MetX P w K mg base 5 C "look" (spLookM C)) (M_put : MetX P w K mg base 5 C "put" (spPutM C)) : Cal P w K mg base CX0 6 "_act" (spActM K C) := by
  have S := S__act
  obtain ⟨tR, gRound⟩ := gRound
  refine cal_of T.toTop D S (fun _ _ _ _ _ _ us hl => match us, hl with | [_, _, _, _], _ => rfl) (fun vs H Q E h => ?_) (fun f cdv A outer s H vs Q E hr h => ?_)
  · obtain ⟨r, tl, a, par, z, wd, ns, bs, tv, ts, count, rfl, _⟩ := h
    rfl
  · obtain ⟨r, tl, a, par, z, wd, ns, bs, tv, ts, count, rfl, hS, M, hT, ntl, hrow, htv, q⟩ := h
    refine ⟨_, (pss_one (ps_match (pv 0) (pm_seq rfl S.nd (.cons (i := 4) rfl (Or.inl rfl) (by first | exact .inl rfl | exact .inr rfl) (.cons (i := 5) rfl (Or.inl rfl) (by first | exact .inl rfl | exact .inr rfl) .nil)) (pss_one (ps_expr (pe_mxq M_put hr (by decide) (pv 1) (pa_cons (pv 4) (pa_cons (pv 5) pa_nil)))))
  (pm_seq rfl S.nd (.cons (i := 4) rfl (Or.inl rfl) (by first | exact .inl rfl | exact .inr rfl) (.cons (i := 6) rfl (Or.inl rfl) (by first | exact .inl rfl | exact .inr rfl) .nil)) (pss_one (ps_expr (pe_mxq M_put hr (by decide) (pv 1) (pa_cons (pv 4) (pa_cons (pe_mxq M_look hr (by decide) (pv 1) (pa_cons (pv 6) pa_nil)) pa_nil)))))
  (pm_seq rfl S.nd (.cons (i := 4) rfl (Or.inl rfl) (by first | exact .inl rfl | exact .inr rfl) (.cons (i := 7) rfl (Or.inl rfl) (by first | exact .inl rfl | exact .inr rfl) (.cons (i := 6) rfl (Or.inl rfl) (by first | exact .inl rfl | exact .inr rfl) .nil))) (pss_cons (ps_set (i := 8) S.nd rfl (Or.inl rfl) (pe_mxq M_look hr (by decide) (pv 1) (pa_cons (pv 7) pa_nil)))
  (pss_one (ps_expr (pe_mxq M_put hr (by decide) (pv 1) (pa_cons (pv 4) (pa_cons (pe_op op_mod (pe_op op_add (pv 8) (pe_mxq M_look hr (by decide) (pv 1) (pa_cons (pv 6) pa_nil))) ((pe_glob (v := .int 1000000) rfl gRound ⟨_, rfl⟩))) pa_nil))))))
  (pm_seq rfl S.nd (.cons (i := 4) rfl (Or.inl rfl) (by first | exact .inl rfl | exact .inr rfl) (.cons (i := 7) rfl (Or.inl rfl) (by first | exact .inl rfl | exact .inr rfl) (.cons (i := 6) rfl (Or.inl rfl) (by first | exact .inl rfl | exact .inr rfl) .nil))) (pss_cons (ps_set (i := 8) S.nd rfl (Or.inl rfl) (pe_mxq M_look hr (by decide) (pv 1) (pa_cons (pv 7) pa_nil)))
  (pss_one (ps_expr (pe_mxq M_put hr (by decide) (pv 1) (pa_cons (pv 4) (pa_cons (pe_op op_mod (pe_op op_sub (pv 8) (pe_mxq M_look hr (by decide) (pv 1) (pa_cons (pv 6) pa_nil))) ((pe_glob (v := .int 1000000) rfl gRound ⟨_, rfl⟩))) pa_nil))))))
  (pm_seq rfl S.nd (.cons (i := 4) rfl (Or.inl rfl) (by first | exact .inl rfl | exact .inr rfl) (.cons (i := 9) rfl (Or.inl rfl) (by first | exact .inl rfl | exact .inr rfl) .nil)) (pss_cons (ps_set (i := 10) S.nd rfl (Or.inl rfl) (pe_op op_mod (pe_mxq M_look hr (by decide) (pv 1) (pa_cons (pv 9) pa_nil)) (pv 2)))
  (pss_one (ps_expr (pe_mxq M_put hr (by decide) (pv 1) (pa_cons (pv 4) (pa_cons (pe_mxq M_look hr (by decide) (pv 1) (pa_cons (pv 10) pa_nil)) pa_nil))))))
  (pm_seq rfl S.nd (.cons (i := 9) rfl (Or.inl rfl) (by first | exact .inl rfl | exact .inr rfl) (.cons (i := 4) rfl (Or.inl rfl) (by first | exact .inl rfl | exact .inr rfl) .nil)) (pss_cons (ps_set (i := 10) S.nd rfl (Or.inl rfl) (pe_op op_mod (pe_mxq M_look hr (by decide) (pv 1) (pa_cons (pv 9) pa_nil)) (pv 2)))
  (pss_one (ps_expr (pe_mxq M_put hr (by decide) (pv 1) (pa_cons (pv 10) (pa_cons (pe_mxq M_look hr (by decide) (pv 1) (pa_cons (pv 4) pa_nil)) pa_nil))))))
  (pm_seq rfl S.nd (.cons (i := 4) rfl (Or.inl rfl) (by first | exact .inl rfl | exact .inr rfl) .nil) (pss_one (ps_expr (pe_bm PySem.F.plainAttrs_list PySem.F.slot_list_append PySem.F.type_list_append mt_append (pv 3) (pa_cons (pe_mxq M_look hr (by decide) (pv 1) (pa_cons (pv 4) pa_nil)) pa_nil))))
  pm_nil))))))))), ?_⟩
    obtain ⟨dx, h1⟩ := M.na.ins
    have end0 : ∀ H' z', Step H a z H' z' → MemN C H' a par z' (boxesOf wd ns bs) (ts ++ touchesOf wd ns bs) → toldOf wd ns bs = [] → Q .non H' := fun H' z' st M' h0 => q H' z' (st.tl tl) M' (by rw [h0, List.append_nil]; exact (st _ _ hT ntl).1) (st _ _ hT ntl).2
    have end1 : MemN C H a par z (boxesOf wd ns bs) (ts ++ touchesOf wd ns bs) → toldOf wd ns bs = [] → Q .non H := fun M' h0 => end0 H z (Step.of_same (Same.refl _)) M' h0
    have hpos : ∀ o : Int, 0 ≤ o → o < (bs.length : Nat) → (0 : Int) < (bs.length : Nat) := fun o h0 h1 => by omega
    cases hrow with
    | @set b n b0 b1 m0 m1 =>
      refine ⟨_, rfl, r, _, _, rfl, hS, fun _ => ?_, fun h => absurd ⟨rfl, rfl⟩ h⟩
      refine ⟨_, rfl, a.p, dx, _, rfl, h1, rfl, _, rfl, _, rfl, a, par, _, bs, _, _, _, rfl, M, b0, b1, fun H' z' st M' => ?_⟩
      exact end0 H' z' st M' rfl
    | @copy b o b0 b1 o0 o1 =>
      refine ⟨_, rfl, r, _, _, rfl, hS, fun h => absurd h.2 (by decide), fun _ => ?_⟩
      refine ⟨r, _, _, rfl, hS, fun _ => ?_, fun h => absurd ⟨rfl, rfl⟩ h⟩
      refine ⟨_, rfl, a.p, dx, _, rfl, h1, rfl, _, rfl, _, rfl, a.p, dx, _, rfl, h1, rfl, _, rfl, a, par, _, bs, _, _, rfl, M, o0, o1, fun H2 z2 st2 M2 => ?_⟩
      refine ⟨a, par, _, bs, _, _, _, rfl, M2, b0, b1, fun H3 z3 st3 M3 => ?_⟩
      rw [List.append_assoc] at M3
      exact end0 H3 z3 (st2.trans st3) M3 rfl
    | @add b o t b0 b1 o0 o1 t0 t1 =>
      refine ⟨_, rfl, r, _, _, rfl, hS, fun h => absurd h.2 (by decide), fun _ => ?_⟩
      refine ⟨r, _, _, rfl, hS, fun h => absurd h.2 (by decide), fun _ => ?_⟩
      refine ⟨r, _, _, rfl, hS, fun _ => ?_, fun h => absurd ⟨rfl, rfl⟩ h⟩
      refine ⟨_, rfl, a.p, dx, _, rfl, h1, rfl, _, rfl, a, par, _, bs, _, _, rfl, M, o0, o1, fun H2 z2 st2 M2 => ?_⟩
      obtain ⟨dx2, g1⟩ := M2.na.ins
      refine ⟨_, rfl, a.p, dx2, _, rfl, g1, rfl, _, rfl, _, rfl, _, rfl, a.p, dx2, _, rfl, g1, rfl, _, rfl, a, par, _, bs, _, _, rfl, M2, t0, t1, fun H3 z3 st3 M3 => ?_⟩
      refine ⟨_, _, rfl, rfl, _, _, rfl, rfl, (by show (0 : Int) < 1000000; decide), a, par, _, bs, _, _, _, rfl, M3, b0, b1, fun H4 z4 st4 M4 => ?_⟩
      rw [List.append_assoc, List.append_assoc] at M4
      exact end0 H4 z4 (st2.trans (st3.trans st4)) M4 rfl
    | @sub b o t b0 b1 o0 o1 t0 t1 =>
      refine ⟨_, rfl, r, _, _, rfl, hS, fun h => absurd h.2 (by decide), fun _ => ?_⟩
      refine ⟨r, _, _, rfl, hS, fun h => absurd h.2 (by decide), fun _ => ?_⟩
      refine ⟨r, _, _, rfl, hS, fun h => absurd h.2 (by decide), fun _ => ?_⟩
      refine ⟨r, _, _, rfl, hS, fun _ => ?_, fun h => absurd ⟨rfl, rfl⟩ h⟩
      refine ⟨_, rfl, a.p, dx, _, rfl, h1, rfl, _, rfl, a, par, _, bs, _, _, rfl, M, o0, o1, fun H2 z2 st2 M2 => ?_⟩
      obtain ⟨dx2, g1⟩ := M2.na.ins
      refine ⟨_, rfl, a.p, dx2, _, rfl, g1, rfl, _, rfl, _, rfl, _, rfl, a.p, dx2, _, rfl, g1, rfl, _, rfl, a, par, _, bs, _, _, rfl, M2, t0, t1, fun H3 z3 st3 M3 => ?_⟩
      refine ⟨_, _, rfl, rfl, _, _, rfl, rfl, (by show (0 : Int) < 1000000; decide), a, par, _, bs, _, _, _, rfl, M3, b0, b1, fun H4 z4 st4 M4 => ?_⟩
      rw [List.append_assoc, List.append_assoc] at M4
      exact end0 H4 z4 (st2.trans (st3.trans st4)) M4 rfl
    | @fetch b e b0 b1 a0 a1 =>
      refine ⟨_, rfl, r, _, _, rfl, hS, fun h => absurd h.2 (by decide), fun _ => ?_⟩
      refine ⟨r, _, _, rfl, hS, fun h => absurd h.2 (by decide), fun _ => ?_⟩
      refine ⟨r, _, _, rfl, hS, fun h => absurd h.2 (by decide), fun _ => ?_⟩
      refine ⟨r, _, _, rfl, hS, fun h => absurd h.2 (by decide), fun _ => ?_⟩
      refine ⟨r, _, _, rfl, hS, fun _ => ?_, fun h => absurd ⟨rfl, rfl⟩ h⟩
      have hp := hpos _ a0 a1
      have m0 := mod_nn (at0 bs e) hp
      have m1 := mod_lt (at0 bs e) hp
      refine ⟨_, rfl, a.p, dx, _, rfl, h1, rfl, _, rfl, a, par, _, bs, _, _, rfl, M, a0, a1, fun H2 z2 st2 M2 => ?_⟩
      obtain ⟨dx2, g1⟩ := M2.na.ins
      refine ⟨_, rfl, _, _, rfl, rfl, hp, ?_⟩
      refine ⟨_, rfl, a.p, dx2, _, rfl, g1, rfl, _, rfl, _, rfl, a.p, dx2, _, rfl, g1, rfl, _, rfl, a, par, _, bs, _, _, rfl, M2, m0, m1, fun H3 z3 st3 M3 => ?_⟩
      refine ⟨a, par, _, bs, _, _, _, rfl, M3, b0, b1, fun H4 z4 st4 M4 => ?_⟩
      rw [List.append_assoc, List.append_assoc] at M4
      exact end0 H4 z4 (st2.trans (st3.trans st4)) M4 rfl
    | @store e b a0 a1 b0 b1 =>
      refine ⟨_, rfl, r, _, _, rfl, hS, fun h => absurd h.2 (by decide), fun _ => ?_⟩
      refine ⟨r, _, _, rfl, hS, fun h => absurd h.2 (by decide), fun _ => ?_⟩
      refine ⟨r, _, _, rfl, hS, fun h => absurd h.2 (by decide), fun _ => ?_⟩
      refine ⟨r, _, _, rfl, hS, fun h => absurd h.2 (by decide), fun _ => ?_⟩
      refine ⟨r, _, _, rfl, hS, fun h => absurd h.2 (by decide), fun _ => ?_⟩
      refine ⟨r, _, _, rfl, hS, fun _ => ?_, fun h => absurd ⟨rfl, rfl⟩ h⟩
      have hp := hpos _ a0 a1
      have m0 := mod_nn (at0 bs e) hp
      have m1 := mod_lt (at0 bs e) hp
      refine ⟨_, rfl, a.p, dx, _, rfl, h1, rfl, _, rfl, a, par, _, bs, _, _, rfl, M, a0, a1, fun H2 z2 st2 M2 => ?_⟩
      obtain ⟨dx2, g1⟩ := M2.na.ins
      refine ⟨_, rfl, _, _, rfl, rfl, hp, ?_⟩
      refine ⟨_, rfl, a.p, dx2, _, rfl, g1, rfl, _, rfl, _, rfl, a.p, dx2, _, rfl, g1, rfl, _, rfl, a, par, _, bs, _, _, rfl, M2, b0, b1, fun H3 z3 st3 M3 => ?_⟩
      refine ⟨a, par, _, bs, _, _, _, rfl, M3, m0, m1, fun H4 z4 st4 M4 => ?_⟩
      rw [List.append_assoc, List.append_assoc] at M4
      exact end0 H4 z4 (st2.trans (st3.trans st4)) M4 rfl
    | @tell b b0 b1 =>
      refine ⟨_, rfl, r, _, _, rfl, hS, fun h => absurd h.2 (by decide), fun _ => ?_⟩
      refine ⟨r, _, _, rfl, hS, fun h => absurd h.2 (by decide), fun _ => ?_⟩
      refine ⟨r, _, _, rfl, hS, fun h => absurd h.2 (by decide), fun _ => ?_⟩
      refine ⟨r, _, _, rfl, hS, fun h => absurd h.2 (by decide), fun _ => ?_⟩
      refine ⟨r, _, _, rfl, hS, fun h => absurd h.2 (by decide), fun _ => ?_⟩
      refine ⟨r, _, _, rfl, hS, fun h => absurd h.2 (by decide), fun _ => ?_⟩
      refine ⟨r, _, _, rfl, hS, fun _ => ?_, fun h => absurd ⟨rfl, rfl⟩ h⟩
      refine ⟨_, rfl, .inl ⟨rfl, _, SqL.of hT⟩, _, rfl, a.p, dx, _, rfl, h1, rfl, _, rfl, a, par, _, bs, _, _, rfl, M, b0, b1, fun H2 z2 st2 M2 => ?_⟩
      obtain ⟨hT2, n2⟩ := st2 _ _ hT ntl
      refine ⟨tl, _, _, rfl, rfl, hT2, by rw [List.length_map]; exact Nat.lt_of_le_of_lt htv (by decide), ?_⟩
      refine q _ z2 (fun q' o e n nt => ?_) (M2.keep (M2.na.upd n2)) ?_ n2
      · rw [upd_ne nt]
        exact st2 q' o e n
      rw [upd_same, List.map_append]
      rfl
    | @less o t g o0 o1 t0 t1 g0 g1 =>
      refine ⟨_, rfl, r, _, _, rfl, hS, fun h => absurd h.2 (by decide), fun _ => ?_⟩
      refine ⟨r, _, _, rfl, hS, fun h => absurd h.2 (by decide), fun _ => ?_⟩
      refine ⟨r, _, _, rfl, hS, fun h => absurd h.2 (by decide), fun _ => ?_⟩
      refine ⟨r, _, _, rfl, hS, fun h => absurd h.2 (by decide), fun _ => ?_⟩
      refine ⟨r, _, _, rfl, hS, fun h => absurd h.2 (by decide), fun _ => ?_⟩
      refine ⟨r, _, _, rfl, hS, fun h => absurd h.2 (by decide), fun _ => ?_⟩
      refine ⟨r, _, _, rfl, hS, fun h => absurd h.2 (by decide), fun _ => ?_⟩
      exact end1 (by rw [show touchesOf "less" [o, t, g] bs = [] from rfl, List.append_nil]; exact M) rfl
    | @jump g g0 g1 =>
      refine ⟨_, rfl, r, _, _, rfl, hS, fun h => absurd h.2 (by decide), fun _ => ?_⟩
      refine ⟨r, _, _, rfl, hS, fun h => absurd h.2 (by decide), fun _ => ?_⟩
      refine ⟨r, _, _, rfl, hS, fun h => absurd h.2 (by decide), fun _ => ?_⟩
      refine ⟨r, _, _, rfl, hS, fun h => absurd h.2 (by decide), fun _ => ?_⟩
      refine ⟨r, _, _, rfl, hS, fun h => absurd h.2 (by decide), fun _ => ?_⟩
      refine ⟨r, _, _, rfl, hS, fun h => absurd h.2 (by decide), fun _ => ?_⟩
      refine ⟨r, _, _, rfl, hS, fun h => absurd h.2 (by decide), fun _ => ?_⟩
      exact end1 (by rw [show touchesOf "jump" [g] bs = [] from rfl, List.append_nil]; exact M) rfl

def spNextM (K : PySem.W.Frag) (C : Addr) : Sp := fun vs H Q _ => ∃ (r : Addr) (a : Na) (par : Np) (z : Ns) (wd : Str) (ns : List Int) (bs : List Int) (ts : List (Str × Int)) (count place : Int), vs = [.ref r, .int place, .ref a.p] ∧ SqT K H r (.str wd :: ns.map V.int) ∧ MemN C H a par z bs ts ∧
  RowOk (bs.length : Nat) count wd ns ∧ ∀ H' z', Step H a z H' z' → MemN C H' a par z' bs (ts ++ nextT wd ns) → Q (.int (nextOf wd ns bs place)) H'
theorem c_next_placeM {C : Addr} (T : Txt K w mg) (D : DefAt K "_next_place" s__next_place) (M_look : MetX P w K mg base 5 C "look" (spLookM C)) : Cal P w K mg base CX0 6 "_next_place" (spNextM K C) := by
  have S := S__next_place
  refine cal_of T.toTop D S (fun _ _ _ _ _ _ us hl => match us, hl with | [_, _, _], _ => rfl) (fun vs H Q E h => ?_) (fun f cdv A outer s H vs Q E hr h => ?_)
  · obtain ⟨r, a, par, z, wd, ns, bs, ts, count, place, rfl, _⟩ := h
    rfl
  · obtain ⟨r, a, par, z, wd, ns, bs, ts, count, place, rfl, hS, M, hrow, q⟩ := h
    refine ⟨_, (pss_cons (ps_match (pv 0) (pm_seq rfl S.nd (.cons (i := 3) rfl (Or.inl rfl) (by first | exact .inl rfl | exact .inr rfl) (.cons (i := 4) rfl (Or.inl rfl) (by first | exact .inl rfl | exact .inr rfl) (.cons (i := 5) rfl (Or.inl rfl) (by first | exact .inl rfl | exact .inr rfl) .nil))) (pss_cons (ps_set (i := 6) S.nd rfl (Or.inl rfl) (pe_mxq M_look hr (by decide) (pv 2) (pa_cons (pv 3) pa_nil)))
  (pss_one (ps_if (pt_cmpR op_lt (pv 6) (pe_mxq M_look hr (by decide) (pv 2) (pa_cons (pv 4) pa_nil)) (nomark _)) (pss_one (ps_ret (pv 5))) pss_nil)))
  (pm_seq rfl S.nd (.cons (i := 5) rfl (Or.inl rfl) (by first | exact .inl rfl | exact .inr rfl) .nil) (pss_one (ps_ret (pv 5)))
  pm_nil)))
  (pss_one (ps_ret (pe_op op_add (pv 1) pe_int)))), ?_⟩
    obtain ⟨dx, h1⟩ := M.na.ins
    have end0 : nextT wd ns = [] → Q (.int (nextOf wd ns bs place)) H := fun e => q H z (Step.of_same (Same.refl _)) (by rw [e, List.append_nil]; exact M)
    cases hrow with
    | @less o t g o0 o1 t0 t1 g0 g1 =>
      refine ⟨_, rfl, r, _, _, rfl, hS, fun _ => ?_, fun h => absurd ⟨rfl, rfl⟩ h⟩
      refine ⟨_, rfl, a.p, dx, _, rfl, h1, rfl, _, rfl, a, par, _, bs, _, _, rfl, M, o0, o1, fun H2 z2 st2 M2 => ?_⟩
      obtain ⟨dx2, g2⟩ := M2.na.ins
      refine ⟨_, rfl, _, rfl, a.p, dx2, _, rfl, g2, rfl, _, rfl, a, par, _, bs, _, _, rfl, M2, t0, t1, fun H3 z3 st3 M3 => ?_⟩
      rw [List.append_assoc] at M3
      have q3 := q H3 z3 (st2.trans st3) M3
      by_cases hlt : at0 bs o < at0 bs t
      · refine ⟨_, _, rfl, rfl, true, bl_of (decide_eq_true hlt), ?_⟩
        rw [show nextOf "less" [o, t, g] bs place = g from if_pos hlt] at q3
        exact ⟨_, rfl, q3⟩
      · refine ⟨_, _, rfl, rfl, false, bl_of (decide_eq_false hlt), ?_⟩
        rw [show nextOf "less" [o, t, g] bs place = place + 1 from if_neg hlt] at q3
        exact ⟨_, rfl, _, _, rfl, rfl, q3⟩
    | @jump g g0 g1 =>
      refine ⟨_, rfl, r, _, _, rfl, hS, fun h => absurd h.2 (by decide), fun _ => ?_⟩
      refine ⟨r, _, _, rfl, hS, fun _ => ?_, fun h => absurd ⟨rfl, rfl⟩ h⟩
      exact ⟨_, rfl, end0 rfl⟩
    | _ =>
      refine ⟨_, rfl, r, _, _, rfl, hS, fun h => absurd h.2 (by decide), fun _ => ?_⟩
      refine ⟨r, _, _, rfl, hS, fun h => absurd h.2 (by decide), fun _ => ?_⟩
      exact ⟨_, rfl, _, _, rfl, rfl, end0 rfl⟩

/-- a tuple is none of a Near's own -/
theorem sqt_step {H H' : Hp} {a : Na} {z z' : Ns} {C : Addr} {par : Np} {r tl : Addr} {xs ut : List V} (N : NearAt C H a par z) (hT : H tl = some (.lst ut)) (h : SqT K H r xs) (f : StepT H a z tl H' z') : SqT K H' r xs := by
  have go : ∀ o, H r = some o → (∀ c d f, o ≠ .ins c d f) → (∀ u, o ≠ .lst u) → (∀ u, o ≠ .dK u) → H' r = some o := fun o e n1 n2 n3 => (f _ _ e (N.notup e n1 n2 n3) fun w => by rw [w, hT] at e; cases e; exact n2 _ rfl).1
  rcases h with (h | ⟨o, h⟩) | h
  · exact .inl (.inl (go _ h (fun _ _ _ w => nomatch w) (fun _ w => nomatch w) fun _ w => nomatch w))
  · exact .inl (.inr ⟨o, go _ h (fun _ _ _ w => nomatch w) (fun _ w => nomatch w) fun _ w => nomatch w⟩)
  · exact .inr h
theorem Prg.step {H H' : Hp} {a : Na} {z z' : Ns} {C : Addr} {par : Np} {pg tl : Addr} {rows : List Rw} {ut : List V} (h : Prg K H pg rows) (N : NearAt C H a par z) (hT : H tl = some (.lst ut)) (n1 : pg ≠ tl) (n2 : ¬ Own a z pg) (f : StepT H a z tl H' z') : Prg K H' pg rows ∧ ¬ Own a z' pg := by
  obtain ⟨xs, h1, h2, h3⟩ := h
  obtain ⟨f1, f2⟩ := f _ _ h1 n2 n1
  refine ⟨⟨xs, f1, h2, fun j r e => ?_⟩, f2⟩
  obtain ⟨q, e1, e2⟩ := h3 j r e
  exact ⟨q, e1, sqt_step N hT e2 f⟩
def spWalkM (K : PySem.W.Frag) (C : Addr) : Sp := fun vs H Q _ => ∃ (pg : Addr) (a : Na) (par : Np) (y : Ns) (rows : List Rw) (bs : List Int) (n : Nat), vs = [.ref pg, .ref a.p, .int (bs.length : Nat), .int (n : Nat)] ∧ Prg K H pg rows ∧ (∀ r ∈ rows, RowOk (bs.length : Nat) (rows.length : Nat) r.1 r.2) ∧ MemN C H a par y bs [] ∧ ¬ Own a y pg ∧ n ≤ 1000 ∧
  ∀ H' q tl y', Step H a y H' y' → H tl = none → MemN C H' a par y' (runM rows n ⟨0, bs, [], []⟩).bs (runM rows n ⟨0, bs, [], []⟩).ts → H' tl = some (.lst ((runM rows n ⟨0, bs, [], []⟩).tv.map V.int)) → ¬ Own a y' tl → H' q = some (.tup [.ref tl, .str (endOf rows (runM rows n ⟨0, bs, [], []⟩))]) → Q (.ref q) H'
theorem c_walkM {C : Addr} (T : Txt K w mg) (D : DefAt K "walk" s_walk) (C__act : Cal P w K mg base CX0 6 "_act" (spActM K C)) (C__next_place : Cal P w K mg base CX0 6 "_next_place" (spNextM K C)) : Cal P w K mg base CX0 7 "walk" (spWalkM K C) := by
  have S := S_walk
  refine cal_of T.toTop D S (fun _ _ _ _ _ _ us hl => match us, hl with | [_, _, _, _], _ => rfl) (fun vs H Q E h => ?_) (fun f cdv A outer s H vs Q E hr h => ?_)
  · obtain ⟨pg, a, par, y, rows, bs, n, rfl, _⟩ := h
    rfl
  · obtain ⟨pg, a, par, y, rows, bs, n, rfl, hP, hR, M, np, hn, q⟩ := h
    refine ⟨_, (pss_cons (ps_set (i := 4) S.nd rfl (Or.inl rfl) (pe_lst pa_nil))
  (pss_cons (ps_set (i := 5) S.nd rfl (Or.inl rfl) pe_int)
  (pss_cons (ps_set (i := 6) S.nd rfl (Or.inl rfl) pe_int)
  (pss_cons (ps_while PassesOwn.never (PW.pt (pw_and (pt_cmpR op_lt (pv 5) (pe_callB call_len_seq (by rfl) T.len PySem.boot_len (pa_cons (pv 0) pa_nil)) (nomark _)) (pw_and1 (pt_cmpR op_lt (pv 6) (pv 3) (nomark _)))))
  (pss_cons (ps_set (i := 7) S.nd rfl (Or.inl rfl) (pe_ix ix_list (pv 0) (pv 5) (fun _ _ => rfl)))
  (pss_cons (ps_expr (pe_c C__act hr (by decide) rfl (pa_cons (pv 7) (pa_cons (pv 1) (pa_cons (pv 2) (pa_cons (pv 4) pa_nil))))))
  (pss_cons (ps_set (i := 5) S.nd rfl (Or.inl rfl) (pe_c C__next_place hr (by decide) rfl (pa_cons (pv 7) (pa_cons (pv 5) (pa_cons (pv 1) pa_nil)))))
  (pss_one (ps_aug (i := 6) S.nd rfl (Or.inl rfl) pe_int ip_add))))))
  (pss_cons (ps_if (pt_cmpR op_lt (pv 5) (pe_callB call_len_seq (by rfl) T.len PySem.boot_len (pa_cons (pv 0) pa_nil)) (nomark _)) (pss_one (ps_ret (pe_tup (pa_cons (pv 4) (pa_cons pe_str pa_nil))))) pss_nil)
  (pss_one (ps_ret (pe_tup (pa_cons (pv 4) (pa_cons pe_str pa_nil)))))))))), ?_⟩
    refine ⟨sz_ok rfl, fun tl nt => ?_⟩
    have t0 : Same H (upd H tl (.lst [])) := Same.new nt
    have gt : upd H tl (.lst []) tl = some (.lst (([] : List Int).map V.int)) := upd_same
    have nl3 : pg ≠ tl := by
      obtain ⟨xs, h1, _⟩ := hP
      exact ne_of_none h1 nt
    have nlt : ¬ Own a y tl := M.na.new nt
    refine ⟨fun m σ H' => ∃ (k : Nat) (z : Ms) (v7 : Option V) (y1 : Ns), m = n - k ∧ k ≤ n ∧ σ = [some (.ref pg), some (.ref a.p), some (.int (bs.length : Nat)), some (.int (n : Nat)), some (.ref tl), some (.int z.place), some (.int (k : Nat)), v7] ∧
      runM rows (n - k) z = runM rows n ⟨0, bs, [], []⟩ ∧ 0 ≤ z.place ∧ z.place ≤ (rows.length : Nat) ∧ z.bs.length = bs.length ∧ z.tv.length ≤ k ∧ MemN C H' a par y1 z.bs z.ts ∧ H' tl = some (.lst (z.tv.map V.int)) ∧ ¬ Own a y1 tl ∧ Prg K H' pg rows ∧ ¬ Own a y1 pg ∧ Step H a y H' y1, ⟨n, 0, ⟨0, bs, [], []⟩, none, y, by omega, by omega, rfl, rfl, Int.le_refl _, Int.natCast_nonneg _, rfl, Nat.zero_le _, M.keep (M.na.same t0), gt, nlt, ?_, np, Step.of_same t0⟩, fun m σ H1 hW => ?_⟩
    · obtain ⟨xs, h1, h2, h3⟩ := hP
      refine ⟨xs, t0 _ _ h1, h2, fun j r e => ?_⟩
      obtain ⟨a, e1, e2⟩ := h3 j r e
      exact ⟨a, e1, t0.sqt e2⟩
    · obtain ⟨k, z, v7, y1, rfl, hk, rfl, hrun, hz0, hz1, hbl, htv, M1, gt1, nlt1, hP1, np1, st1⟩ := hW
      obtain ⟨xs, hx1, hx2, hx3⟩ := id hP1
      have fin : runM rows n ⟨0, bs, [], []⟩ = z → ∀ e : Str, endOf rows z = e → ∀ q0, H1 q0 = none → Q (.ref q0) (upd H1 q0 (.tup [.ref tl, .str e])) := fun hf e he q0 nq => by
        have s1 : Same H1 (upd H1 q0 (.tup [.ref tl, .str e])) := Same.new nq
        refine q _ q0 tl y1 (st1.trans (Step.of_same s1)) nt ?_ ?_ nlt1 ?_
        · rw [hf]
          exact M1.keep (M1.na.same s1)
        · rw [hf]
          exact s1 _ _ gt1
        · rw [hf, he]
          exact upd_same
      refine ⟨_, rfl, _, rfl, pg, xs, rfl, .inl (SqL.of hx1), _, _, rfl, rfl, ?_⟩
      by_cases hp : z.place < (rows.length : Nat)
      case neg =>
        refine ⟨false, bl_of (decide_eq_false (by rw [hx2]; exact hp)), ?_⟩
        refine ⟨_, rfl, _, rfl, pg, xs, rfl, .inl (SqL.of hx1), _, _, rfl, rfl, false, bl_of (decide_eq_false (by rw [hx2]; exact hp)), ?_⟩
        exact ⟨_, rfl, sz_ok rfl, fun q0 nq => fin (hrun.symm.trans (runM_end hp _)) "over" (if_neg hp) q0 nq⟩
      refine ⟨true, bl_of (decide_eq_true (by rw [hx2]; exact hp)), ?_⟩
      by_cases hk2 : k < n
      case neg =>
        refine ⟨_, rfl, _, rfl, _, _, rfl, rfl, false, bl_of (decide_eq_false (by omega)), ?_⟩
        refine ⟨_, rfl, _, rfl, pg, xs, rfl, .inl (SqL.of hx1), _, _, rfl, rfl, true, bl_of (decide_eq_true (by rw [hx2]; exact hp)), ?_⟩
        exact ⟨_, rfl, sz_ok rfl, fun q0 nq => fin (hrun.symm.trans (by rw [show n - k = 0 by omega]; rfl)) "steps" (if_pos hp) q0 nq⟩
      refine ⟨_, rfl, _, rfl, _, _, rfl, rfl, true, bl_of (decide_eq_true (by omega)), ?_⟩
      refine ⟨_, fun _ _ h => h, ?_⟩
      have hj : z.place.toNat < rows.length := by omega
      obtain ⟨⟨wd, ns⟩, erow⟩ : ∃ r, rows[z.place.toNat]? = some r := ⟨_, List.getElem?_eq_getElem hj⟩
      obtain ⟨ra, ea, hS⟩ := hx3 _ _ erow
      have hro := hR _ (List.mem_of_getElem? erow)
      have hl3 := told_len wd ns z.bs
      refine ⟨_, rfl, _, rfl, pg, xs, _, .ref ra, rfl, rfl, SqL.of hx1, at_in hz0 ea, ?_⟩
      refine ⟨_, rfl, _, rfl, _, rfl, _, rfl, ra, tl, a, par, y1, wd, ns, z.bs, z.tv, z.ts, (rows.length : Nat), by rw [hbl]; rfl, hS, M1, gt1, nlt1, by rw [hbl]; exact hro, by omega, fun H2 y2 st2 M2 gt2 nlt2 => ?_⟩
      have hS2 := sqt_step M1.na gt1 hS st2
      obtain ⟨hP2, np2⟩ := hP1.step M1.na gt1 nl3 np1 st2
      have hbl2 : (boxesOf wd ns z.bs).length = bs.length := (boxes_len _ _ _).trans hbl
      refine ⟨_, rfl, _, rfl, _, rfl, ra, a, par, y2, wd, ns, boxesOf wd ns z.bs, z.ts ++ touchesOf wd ns z.bs, (rows.length : Nat), z.place, rfl, hS2, M2, by rw [hbl2]; exact hro, fun H3 y3 st3 M3 => ?_⟩
      obtain ⟨hP3, np3⟩ := hP2.step M2.na gt2 nl3 np2 (st3.tl tl)
      obtain ⟨gt3, nlt3⟩ := st3 _ _ gt2 nlt2
      refine ⟨_, rfl, _, _, rfl, rfl, ?_⟩
      have hst : stepM rows z = ⟨nextOf wd ns (boxesOf wd ns z.bs) z.place, boxesOf wd ns z.bs, z.ts ++ touchesOf wd ns z.bs ++ nextT wd ns, z.tv ++ toldOf wd ns z.bs⟩ := by
        unfold stepM
        rw [erow]
      have hni := next_in (bs := boxesOf wd ns z.bs) hro hz0 hp
      refine ⟨n - (k + 1), by omega, k + 1, ⟨nextOf wd ns (boxesOf wd ns z.bs) z.place, boxesOf wd ns z.bs, z.ts ++ touchesOf wd ns z.bs ++ nextT wd ns, z.tv ++ toldOf wd ns z.bs⟩, _, y3, rfl, by omega, rfl, ?_, hni.1, hni.2, hbl2, ?_, M3, gt3, nlt3, hP3, np3, fun x o e nx => ?_⟩
      · rw [← hst, ← hrun, show n - k = (n - (k + 1)) + 1 by omega]
        exact (if_pos hp).symm
      · simp only [List.length_append]
        omega
      · obtain ⟨e1, n1⟩ := st1 _ _ e nx
        obtain ⟨e2, n2⟩ := st2 _ _ e1 n1 fun w => by rw [w, nt] at e; cases e
        exact st3 _ _ e2 n2

theorem shape_of {vr vw : V} {du : PyData} {room wd : Nat} {rule : Str} (h : shapeOk vr vw du = true) (er : vr = .int (room : Nat)) (ew : vw = .int (wd : Nat)) (ed : du = .str rule) : 1 ≤ room ∧ room ≤ 200 ∧ 1 ≤ wd ∧ wd ≤ 200 ∧ (rule = "least" ∨ rule = "first") := by
  subst er ew ed
  unfold shapeOk at h
  rw [Bool.and_eq_true, Bool.and_eq_true] at h
  obtain ⟨h1, h2, h3⟩ := h
  have h1 : (decide ((1 : Int) ≤ (room : Nat)) && decide (((room : Nat) : Int) ≤ 200)) = true := h1
  have h2 : (decide ((1 : Int) ≤ (wd : Nat)) && decide (((wd : Nat) : Int) ≤ 200)) = true := h2
  rw [Bool.and_eq_true, decide_eq_true_eq, decide_eq_true_eq] at h1 h2
  refine ⟨by omega, by omega, by omega, by omega, ?_⟩
  unfold ruleOk at h3
  simpa using h3
def cntV (w : Ws) : List V := [.int (w.f : Nat), .int (w.m : Nat), .int ((w.b + w.dirty.length : Nat) : Int)]
/-- run_near: the first that is wrong is refused; what comes of it when all is good -/
def spRunNear (K : PySem.W.Frag) (C CB CR CS : Addr) : Sp := fun vs H Q E => ∃ (rw_ gb : Addr) (xs ys : List V) (ds dr : List PyData) (n : Nat) (vr vw vu : V) (du : PyData), vs = [.ref rw_, .ref gb, .int (n : Nat), vr, vw, vu] ∧ SqL K H gb xs ∧ DpAll K H xs ds ∧ xs.length ≤ 1000 ∧ SqL K H rw_ ys ∧ DpAll K H ys dr ∧ ys.length ≤ 1000 ∧
  (∀ H', Same H H' → AnyT K H' vr ∧ AnyT K H' vw) ∧ Dp K H vu du ∧ n ≤ 1000 ∧
  (goodB ds = false → ∀ H', Same H H' → E (.ref CB) none H') ∧ (goodB ds = true → goodR dr (xs.length : Nat) = false → ∀ H', Same H H' → E (.ref CR) none H') ∧ (goodB ds = true → goodR dr (xs.length : Nat) = true → shapeOk vr vw du = false → ∀ H', Same H H' → E (.ref CS) none H') ∧
  (goodB ds = true → goodR dr (xs.length : Nat) = true → shapeOk vr vw du = true → ∃ (rows : List Rw) (bs : List Int) (room wd : Nat) (rule : Str), RowsAt K H ys rows ∧ (∀ r ∈ rows, RowOk (bs.length : Nat) (rows.length : Nat) r.1 r.2) ∧ xs = bs.map V.int ∧ vr = .int (room : Nat) ∧ vw = .int (wd : Nat) ∧ vu = .str rule ∧ du = .str rule ∧
    ∀ H' q tl lb pc, Same H H' → H tl = none → H lb = none → H' tl = some (.lst ((runM rows n ⟨0, bs, [], []⟩).tv.map V.int)) → H' lb = some (.lst ((runM rows n ⟨0, bs, [], []⟩).bs.map V.int)) → H' pc = some (.tup (cntV (walkW ⟨room, wd, rule⟩ (runM rows n ⟨0, bs, [], []⟩).ts))) →
      H' q = some (.tup [.ref tl, .str (endOf rows (runM rows n ⟨0, bs, [], []⟩)), .ref lb, .ref pc]) → Q (.ref q) H')
abbrev s_run_near : Stmt := top 33
abbrev N_run_near : List Str := ["rows", "boxes", "steps", "room", "width", "rule", "numbers", "program", "near", "told", "end"]
theorem S_run_near : FnScope N_run_near ["rows", "boxes", "steps", "room", "width", "rule"] (defScope s_run_near) := ⟨rfl, rfl, rfl, by decide +kernel, rfl, by decide +kernel, by decide +kernel⟩

theorem c_run_near {C CB CR CS : Addr} (T : Txt K w mg) (W : NCls K C) (D : DefAt K "run_near" s_run_near) (C_checked_boxes : Cal P w K mg base (L2.CX P w) 3 "checked_boxes" (spCheckedB K CB)) (C_checked : Cal P w K mg base (L2.CX P w) 4 "checked" (spChecked K CR)) (M_Near : MakX P w K mg base 4 "Near" C (spInitN K C CB CS)) (C_walk : Cal P w K mg base CX0 7 "walk" (spWalkM K C))
    (M_settle : C8.Met P w K mg base 2 C "settle" (spSettle C) []) : Cal P w K mg base (L2.CX P w) 8 "run_near" (spRunNear K C CB CR CS) := by
  have S := S_run_near
  refine cal_ofX T.toTop D S (fun _ _ _ _ _ _ us hl => match us, hl with | [_, _, _, _, _, _], _ => rfl) (fun vs H Q E h => ?_) (fun f cdv A outer s H vs Q E hr h => ?_)
  · obtain ⟨rw_, gb, xs, ys, ds, dr, n, vr, vw, vu, du, rfl, _⟩ := h
    rfl
  · obtain ⟨rw_, gb, xs, ys, ds, dr, n, vr, vw, vu, du, rfl, hX, hD, hxl, hY, hDr, hyl, hany, hdu, hn, he1, he2, he3, hq⟩ := h
    refine ⟨_, (pss_cons (ps_set (i := 6) S.nd rfl (Or.inl rfl) (pe_cx C_checked_boxes (takes_of rfl rfl rfl rfl) hr (by decide) rfl (pa_cons (pv 1) pa_nil)))
  (pss_cons (ps_set (i := 7) S.nd rfl (Or.inl rfl) (pe_cx C_checked (takes_of rfl rfl rfl rfl) hr (by decide) rfl (pa_cons (pv 0) (pa_cons (pe_callB call_len_seq (by rfl) T.len PySem.boot_len (pa_cons (pv 6) pa_nil)) pa_nil))))
  (pss_cons (ps_set (i := 8) S.nd rfl (Or.inl rfl) (pe_mkx M_Near (takes_of rfl rfl rfl rfl) hr (by decide) rfl (pa_cons (pv 6) (pa_cons (pv 3) (pa_cons (pv 4) (pa_cons (pv 5) pa_nil))))))
  (pss_cons (ps_asg (g := gTup K 2 (gCons (gName 9) (gCons (gName 10) gNil))) (pe_c C_walk hr (by decide) rfl (pa_cons (pv 7) (pa_cons (pv 8) (pa_cons (pe_callB call_len_seq (by rfl) T.len PySem.boot_len (pa_cons (pv 6) pa_nil)) (pa_cons (pv 2) pa_nil))))) (by exact (pg_tup rfl (pgs_cons (pg_name (i := 9) S.nd rfl (Or.inl rfl)) (pgs_cons (pg_name (i := 10) S.nd rfl (Or.inl rfl)) pgs_nil)))))
  (pss_cons (ps_expr (C8.pe_mt0 M_settle hr (by decide) (pv 8)))
  (pss_one (ps_ret (pe_tup (pa_cons (pv 9) (pa_cons (pv 10) (pa_cons (pe_fld (pv 8) rfl) (pa_cons (pe_tup (pa_cons (pe_fld (pv 8) rfl) (pa_cons (pe_fld (pv 8) rfl) (pa_cons (pe_fld (pv 8) rfl) pa_nil)))) pa_nil)))))))))))), ?_⟩
    refine ⟨_, rfl, gb, xs, ds, rfl, hX, hD, hxl, fun hgB H1 lb t1 nlb glb => ?_, fun hb H1 t1 => he1 hb H1 t1⟩
    refine ⟨_, rfl, _, rfl, lb, _, rfl, .inl (SqL.of glb), rw_, ys, dr, _, rfl, t1.seq hY, dpAll_same t1 _ _ hDr, hyl, fun hgR H2 pg t2 npg gpg => ?_, fun hb H2 t2 => he2 hgB hb H2 (t1.trans t2)⟩
    have t12 := t1.trans t2
    refine ⟨_, rfl, _, rfl, _, rfl, _, rfl, fun x dx nx ndx nex => ?_⟩
    have s0 : Same H2 (upd (upd H2 dx (.own x)) x (.ins C dx [])) := fun b o e => by
      rw [upd_ne (ne_of_none e nx), upd_ne (ne_of_none e ndx)]
      exact e
    refine ⟨H2, x, dx, lb, xs, ds, vr, vw, vu, du, rfl, s0, nx, upd_same, SqL.of (t2 _ _ glb), dpAll_same t12 _ _ hD, hxl, (hany H2 t12).1, (hany H2 t12).2, fun H' t' => hany H' (t12.trans t'), dp_same t12 _ _ hdu, fun bs room wd rule hg hs exs er ew eu H3 a ea N3 t3 fresh => ⟨rfl, ?_⟩, (fun hb => by rw [hgB] at hb; cases hb), fun _ hb H3 t3 => he3 hgB hgR hb H3 (t12.trans t3)⟩
    obtain ⟨rows, bs', room', wd', rule', hRA, hRO, exs', er', ew', eu', ed', q⟩ := hq hgB hgR hs
    obtain rfl : bs = bs' := map_int_inj (exs.symm.trans exs')
    obtain rfl : room = room' := by have := V.int.inj (er.symm.trans er'); omega
    obtain rfl : wd = wd' := by have := V.int.inj (ew.symm.trans ew'); omega
    obtain rfl : rule = rule' := V.str.inj (eu.symm.trans eu')
    obtain ⟨r0, r1, w0, w1, hr2⟩ := shape_of hs er ew ed'
    obtain ⟨bs', exs2, hbb, hb1, hb2⟩ := good_ints hD hgB
    obtain rfl : bs = bs' := map_int_inj (exs.symm.trans exs2)
    subst exs ea
    have hsz : (((bs.map V.int).length : Nat) : Int) = (bs.length : Nat) := by rw [List.length_map]
    have hP3 : Prg K H3 pg rows := ⟨ys, t3 _ _ gpg, hRA.1, fun j r e => by
      obtain ⟨a, e1, e2⟩ := hRA.2 j r e
      exact ⟨a, e1, (t12.trans t3).sqt e2⟩⟩
    have npg3 : ¬ Own a (initS bs) pg := fun o => by
      have := fresh pg o
      rw [gpg] at this
      cases this
    have M3 : MemN C H3 a ⟨room, wd, rule⟩ (initS bs) bs [] := ⟨N3, good0 r0 w0, ⟨rfl, (fun x hx => by cases hx), (fun k hk h => rfl)⟩, cnt0 bs, hr2, hb1, by omega, (by show wd ≤ 300; omega), (by show room ≤ 300; omega)⟩
    refine ⟨_, rfl, _, rfl, _, rfl, lb, _, rfl, .inl (SqL.of (t3 _ _ (t2 _ _ glb))), _, rfl, pg, a, ⟨room, wd, rule⟩, initS bs, rows, bs, n, by rw [hsz]; rfl, hP3, hRO, M3, npg3, hn, fun H4 qq tl y st4 ntl M4 gtl nly gq => ?_⟩
    refine ⟨qq, _, rfl, SqT.of gq, rfl, _, _, rfl, _, _, rfl, rfl, ?_⟩
    generalize hz : runM rows n ⟨0, bs, [], []⟩ = z at M4 gtl gq q
    obtain ⟨dx4, hi4⟩ := M4.na.ins
    have hlen4 := M4.r.len
    refine ⟨_, rfl, a.p, dx4, _, rfl, hi4, rfl, a, ⟨room, wd, rule⟩, y, z.bs, rfl, M4.na, M4.g, M4.r, by have := M4.l2; omega, M4.w2, M4.r2, fun H5 N5 st5 => ?_⟩
    obtain ⟨_, _, _, b5, f5, m5, _, far5⟩ := settle_done M4.g M4.r
    obtain ⟨dx5, hi5⟩ := N5.ins
    obtain ⟨c1, c2, c3, c4, c5⟩ := M4.c
    refine ⟨_, rfl, _, rfl, _, rfl, a.p, C, dx5, _, _, rfl, hi5, W.cl, W.nFar, rfl, ?_⟩
    refine ⟨_, rfl, a.p, C, dx5, _, _, rfl, hi5, W.cl, W.nFound, rfl, ?_⟩
    refine ⟨_, rfl, a.p, C, dx5, _, _, rfl, hi5, W.cl, W.nMissed, rfl, ?_⟩
    refine ⟨_, rfl, a.p, C, dx5, _, _, rfl, hi5, W.cl, W.nBack, rfl, sz_ok rfl, fun pc npc => ?_⟩
    generalize e6 : upd H5 pc _ = H6 at *
    have s6 : Same H5 H6 := e6 ▸ Same.new npc
    have g6 := (congrFun e6 pc).symm.trans upd_same
    clear e6
    refine ⟨sz_ok rfl, fun r nr => ?_⟩
    have s7 : Same H6 (upd H6 r (.tup [.ref tl, .str (endOf rows z), .ref a.af, .ref pc])) := Same.new nr
    have ecnt : ([.int ((settleS ⟨room, wd, rule⟩ y).found : Nat), .int ((settleS ⟨room, wd, rule⟩ y).missed : Nat), .int ((settleS ⟨room, wd, rule⟩ y).back : Nat)] : List V) = cntV (walkW ⟨room, wd, rule⟩ z.ts) := by
      unfold cntV
      rw [f5, m5, b5, c3, c4, c5, c2]
    refine q _ r tl a.af pc (fun q' o e => ?_) ((t12.trans t3).free ntl) (t12.free (fresh a.af (.inr (.inl rfl)))) (s7 _ _ (s6 _ _ (st5 _ _ gtl nly).1)) ?_ ?_ upd_same
    · have e2 := t12 _ _ e
      have nw : ¬ Own a (initS bs) q' := fun w => by
        rw [fresh q' w] at e2
        cases e2
      obtain ⟨e4, nw4⟩ := st4 _ _ (t3 _ _ e2) nw
      exact s7 _ _ (s6 _ _ (st5 _ _ e4 nw4).1)
    · have := s7 _ _ (s6 _ _ N5.far)
      rw [far5] at this
      exact this
    · rw [← ecnt]
      exact s7 _ _ g6

-- SPLIT
abbrev s__law_cell_at : Stmt := top 35
abbrev N__law_cell_at : List Str := ["_law_script", "_law_k"]
theorem S__law_cell_at : FnScope N__law_cell_at ["_law_script", "_law_k"] (defScope s__law_cell_at) := ⟨rfl, rfl, rfl, by decide +kernel, rfl, by decide +kernel, by decide +kernel⟩

theorem c_cell_at (T : Txt K w mg) (D : DefAt K "_law_cell_at" s__law_cell_at) : Cal P w K mg base CX0 1 "_law_cell_at" (spCellAt K) := by
  have S := S__law_cell_at
  refine cal_of T.toTop D S (fun _ _ _ _ _ _ us hl => match us, hl with | [_, _], _ => rfl) (fun vs H Q E h => ?_) (fun f cdv A outer s H vs Q E hr h => ?_)
  · obtain ⟨a, ns, k, rfl, _⟩ := h
    rfl
  · obtain ⟨a, ns, k, rfl, hS, hk, q⟩ := h
    refine ⟨_, (pss_cons (ps_if (pt_cmpR op_lt (pv 1) (pe_callB call_len_seq (by rfl) T.len PySem.boot_len (pa_cons (pv 0) pa_nil)) (nomark _)) (pss_one (ps_ret (pe_ix ix_list (pv 0) (pv 1) (fun _ _ => rfl)))) pss_nil)
  (pss_one (ps_ret pe_int))), ?_⟩
    refine ⟨_, rfl, _, rfl, a, _, rfl, .inl hS, _, _, rfl, rfl, _, rfl, ?_⟩
    rw [List.length_map]
    refine ite2 (fun h => ?_) (fun h => ?_)
    · have h := of_decide_eq_true h
      exact ⟨_, rfl, _, rfl, a, _, _, _, rfl, rfl, hS, at_ints hk h, q⟩
    · have h : ¬ k < (ns.length : Int) := fun z => h (decide_eq_true z)
      have e : cellAt ns k = 0 := by
        unfold cellAt
        rw [List.getD_eq_getElem?_getD, List.getElem?_eq_none (by omega)]; rfl
      rw [e] at q
      exact q

abbrev s__law_mixed : Stmt := top 38
abbrev N__law_mixed : List Str := ["_law_cell"]
theorem S__law_mixed : FnScope N__law_mixed ["_law_cell"] (defScope s__law_mixed) := ⟨rfl, rfl, rfl, by decide +kernel, rfl, by decide +kernel, by decide +kernel⟩

theorem c_mixed (T : Txt K w mg) (D : DefAt K "_law_mixed" s__law_mixed) : Cal P w K mg base CX0 1 "_law_mixed" spMixed := by
  have S := S__law_mixed
  refine cal_of T.toTop D S (fun _ _ _ _ _ _ us hl => match us, hl with | [_], _ => rfl) (fun vs H Q E h => ?_) (fun f cdv A outer s H vs Q E hr h => ?_)
  · obtain ⟨c, rfl, _⟩ := h
    rfl
  · obtain ⟨c, rfl, q⟩ := h
    refine ⟨_, (pss_one (ps_ret (pe_op op_mod (pe_op op_mul (pv 0) pe_int) pe_int))), ?_⟩
    repeat walk_at "rd"
    exact q

abbrev s__law_whole : Stmt := top 36
abbrev N__law_whole : List Str := ["_law_found"]
theorem S__law_whole : FnScope N__law_whole ["_law_found"] (defScope s__law_whole) := ⟨rfl, rfl, rfl, by decide +kernel, rfl, by decide +kernel, by decide +kernel⟩

theorem c_whole (T : Txt K w mg) (D : DefAt K "_law_whole" s__law_whole) : Cal P w K mg base CX0 1 "_law_whole" (spWhole K) := by
  have S := S__law_whole
  refine cal_of T.toTop D S (fun _ _ _ _ _ _ us hl => match us, hl with | [_], _ => rfl) (fun vs H Q E h => ?_) (fun f cdv A outer s H vs Q E hr h => ?_)
  · obtain ⟨v, n, rfl, _⟩ := h
    rfl
  · obtain ⟨v, n, rfl, ty, k1, k2, q⟩ := h
    refine ⟨_, (pss_one (ps_ret (pe_and (pe_callB call_isi (by rfl) T.isinstance (by decide +kernel) (pa_cons (pv 0) (pa_cons ((pe_bltn (v := .ty "int") (u := .type "int") rfl T.int (by decide +kernel) rfl)) pa_nil))) (pe_one (pe_not (pe_callB call_isi (by rfl) T.isinstance (by decide +kernel) (pa_cons (pv 0) (pa_cons ((pe_bltn (v := .ty "bool") (u := .type "bool") rfl T.bool (by decide +kernel) rfl)) pa_nil)))))))), ?_⟩
    refine ⟨_, rfl, _, _, _, _, _, rfl, .ty _, ty, kit_ty k1, _, rfl, ?_⟩
    refine ite2 (fun h => ?_) (fun h => ?_)
    · refine ⟨_, rfl, _, _, _, _, _, rfl, .ty _, ty, kit_ty k2, _, rfl, ?_⟩
      have h := of_decide_eq_true h
      have e : (!decide (n = "bool")) = decide (n = "int") := by
        rcases h with h | h <;> subst h <;> rfl
      show Q (V.bl (!decide (n = "bool"))) H
      rw [e]
      exact q
    · have e : decide (n = "int") = false := decide_eq_false fun z => h (decide_eq_true (.inl z))
      rw [e] at q
      exact q

abbrev s__law_alone : Stmt := top 48
abbrev N__law_alone : List Str := ["_law_e", "_law_own", "_law_some"]
theorem S__law_alone : FnScope N__law_alone ["_law_e", "_law_own"] (defScope s__law_alone) := ⟨rfl, rfl, rfl, by decide +kernel, rfl, by decide +kernel, by decide +kernel⟩

theorem c_alone {cs : List Addr} {C0 C1 C2 C3 C4 cL : Addr} (ecs : cs = [C0, C1, C2, C3, C4]) (T : Txt K w mg) (D : DefAt K "_law_alone" s__law_alone) (g0 : mg "BadRow" = some (.ref C0)) (g1 : mg "BadBoxes" = some (.ref C1)) (g2 : mg "BadShape" = some (.ref C2)) (g3 : mg "NoBox" = some (.ref C3)) (g4 : mg "BadPlan" = some (.ref C4)) (gL : mg "LineError" = some (.ref cL)) (nV : mg "ValueError" = none) :
    CalS P w K mg base 1 "_law_alone" (spAlone K cs cL) := by
  have S := S__law_alone
  refine calS_of T.toTop D S (fun _ _ _ _ _ _ us hl => match us, hl with | [_, _], _ => rfl) (fun D a vs H Q E h => ?_) (fun f cdv A outer s H vs Q E p D hz hf hr h => ?_)
  · obtain ⟨own, rfl, _⟩ := h
    rfl
  · obtain ⟨own, rfl, ho, hA, q⟩ := h
    subst ecs
    refine ⟨_, (pss_cons (ps_set (i := 2) S.nd rfl (Or.inl rfl) (pe_lst (pa_cons (pe_callB (call_isP (q := p) List.mem_cons_self hA.ex hz hf) (by rfl) T.isinstance (by decide +kernel) (pa_cons (pv 0) (pa_cons ((pe_glob (v := .ref C0) rfl g0 rfl)) pa_nil))) (pa_cons (pe_callB (call_isP (q := p) List.mem_cons_self hA.ex hz hf) (by rfl) T.isinstance (by decide +kernel) (pa_cons (pv 0) (pa_cons ((pe_glob (v := .ref C1) rfl g1 rfl)) pa_nil))) (pa_cons (pe_callB (call_isP (q := p) List.mem_cons_self hA.ex hz hf) (by rfl) T.isinstance (by decide +kernel) (pa_cons (pv 0) (pa_cons ((pe_glob (v := .ref C2) rfl g2 rfl)) pa_nil))) (pa_cons (pe_callB (call_isP (q := p) List.mem_cons_self hA.ex hz hf) (by rfl) T.isinstance (by decide +kernel) (pa_cons (pv 0) (pa_cons ((pe_glob (v := .ref C3) rfl g3 rfl)) pa_nil))) pa_nil))))))
  (pss_cons (ps_expr (pe_bm PySem.F.plainAttrs_list PySem.F.slot_list_append PySem.F.type_list_append mt_append (pv 2) (pa_cons (pe_callB (call_isP (q := p) List.mem_cons_self hA.ex hz hf) (by rfl) T.isinstance (by decide +kernel) (pa_cons (pv 0) (pa_cons ((pe_glob (v := .ref C4) rfl g4 rfl)) pa_nil))) pa_nil)))
  (pss_one (ps_ret (pe_and (pe_cmpR op_eq (pe_bm PySem.F.plainAttrs_list PySem.F.slot_list_count PySem.F.type_list_count mt_countV (pv 2) (pa_cons pe_bl pa_nil)) pe_int (nomark _)) (pe_and (pe_ix ix_list (pv 2) (pv 1) (fun _ _ => rfl)) (pe_and (pe_callB (call_isP (q := p) List.mem_cons_self hA.ex hz hf) (by rfl) T.isinstance (by decide +kernel) (pa_cons (pv 0) (pa_cons ((pe_glob (v := .ref cL) rfl gL rfl)) pa_nil))) (pe_one (pe_callB (call_isP (q := p) List.mem_cons_self hA.ex hz hf) (by rfl) T.isinstance (by decide +kernel) (pa_cons (pv 0) (pa_cons ((pe_bltn (v := .ty "ValueError") (u := .type "ValueError") rfl nV (by decide +kernel) rfl)) pa_nil))))))))))), ?_⟩
    have ref1 : ∀ c : Addr, ∀ u, RelV (.ref c) u → u = .ref c := fun _ _ h => h
    refine ⟨_, rfl, _, _, _, rfl, ref1 _, hA.k 0 _ rfl, ?_⟩
    refine ⟨_, rfl, _, _, _, rfl, ref1 _, hA.k 1 _ rfl, ?_⟩
    refine ⟨_, rfl, _, _, _, rfl, ref1 _, hA.k 2 _ rfl, ?_⟩
    refine ⟨_, rfl, _, _, _, rfl, ref1 _, hA.k 3 _ rfl, ?_⟩
    refine ⟨sz_ok rfl, fun p1 n1 => ?_⟩
    refine ⟨_, rfl, .inl ⟨rfl, _, SqL.of upd_same⟩, _, rfl, _, _, _, rfl, ref1 _, hA.k 4 _ rfl, p1, _, _, rfl, rfl, upd_same, Nat.lt_of_lt_of_le (by simp : _ < 10) (by decide), ?_⟩
    have s1 := (Same.new (o := .lst [.bl (decide (0 = own)), .bl (decide (1 = own)), .bl (decide (2 = own)), .bl (decide (3 = own))]) n1).mut (o := .lst ([.bl (decide (0 = own)), .bl (decide (1 = own)), .bl (decide (2 = own)), .bl (decide (3 = own))] ++ [.bl (decide (4 = own))])) n1
    refine ⟨_, rfl, .inl ⟨rfl, _, SqL.of upd_same⟩, p1, _, .bl true, rfl, rfl, SqL.of upd_same, rfl, rfl, rfl, _, rfl, ?_⟩
    have h5 : own = 0 ∨ own = 1 ∨ own = 2 ∨ own = 3 ∨ own = 4 := by omega
    rcases h5 with rfl | rfl | rfl | rfl | rfl <;> exact ⟨_, rfl, _, rfl, p1, _, _, .bl true, rfl, rfl, SqL.of upd_same, rfl, _, rfl, _, rfl, _, _, _, rfl, ref1 _, hA.line, _, rfl, _, rfl, _, _, _, rfl, fun _ h => h, hA.val, q _ s1⟩

def spEdge : Sp := fun vs H Q _ => ∃ c l : Int, vs = [.int c, .int l] ∧ 0 ≤ l ∧ ∀ z H', Same H H' → Q (.int z) H'
abbrev s__law_edge : Stmt := top 39
abbrev N__law_edge : List Str := ["_law_cell", "_law_last"]
theorem S__law_edge : FnScope N__law_edge ["_law_cell", "_law_last"] (defScope s__law_edge) := ⟨rfl, rfl, rfl, by decide +kernel, rfl, by decide +kernel, by decide +kernel⟩

theorem c_edge (T : Txt K w mg) (D : DefAt K "_law_edge" s__law_edge) (C__law_mixed : Cal P w K mg base CX0 1 "_law_mixed" spMixed) : Cal P w K mg base CX0 2 "_law_edge" spEdge := by
  have S := S__law_edge
  refine cal_of T.toTop D S (fun _ _ _ _ _ _ us hl => match us, hl with | [_, _], _ => rfl) (fun vs H Q E h => ?_) (fun f cdv A outer s H vs Q E hr h => ?_)
  · obtain ⟨c, l, rfl, _⟩ := h
    rfl
  · obtain ⟨c, l, rfl, h0, q⟩ := h
    refine ⟨_, (pss_one (ps_ret (pe_ix ix_list (pe_lst (pa_cons (pe_op op_sub pe_int pe_int) (pa_cons pe_int (pa_cons (pv 1) (pa_cons (pe_op op_add (pv 1) pe_int) (pa_cons (pe_op op_mod (pe_c C__law_mixed hr (by decide) rfl (pa_cons (pv 0) pa_nil)) (pe_op op_add (pv 1) pe_int)) (pa_cons (pe_op op_mod (pe_c C__law_mixed hr (by decide) rfl (pa_cons (pv 0) pa_nil)) (pe_op op_add (pv 1) pe_int)) pa_nil))))))) (pe_op op_mod (pv 0) pe_int) (fun _ _ => rfl)))), ?_⟩
    have hp : (0 : Int) < l + 1 := by omega
    refine ⟨_, _, rfl, rfl, _, rfl, _, rfl, _, _, rfl, rfl, ?_⟩
    refine ⟨_, rfl, _, rfl, _, rfl, _, _, rfl, rfl, _, _, rfl, rfl, hp, ?_⟩
    refine ⟨_, rfl, _, rfl, _, rfl, _, _, rfl, rfl, _, _, rfl, rfl, hp, ?_⟩
    refine ⟨sz_ok rfl, fun p1 n1 => ?_⟩
    refine ⟨_, rfl, _, _, rfl, rfl, (by show (0 : Int) < 6; decide), p1, _, _, _, rfl, rfl, SqL.of upd_same, at_ints_mod (ns := [_, _, _, _, _, _]) c (by decide) rfl, q _ _ (Same.new n1)⟩
def wordsL : List Str := ["set", "copy", "add", "sub", "fetch", "store", "less", "jump", "tell"]
theorem inV_strs (z : Str) : ∀ l : List Str, inV (.str z) (l.map V.str) = decide (z ∈ l)
  | [] => rfl
  | a :: l => by
    have ih := inV_strs z l
    unfold inV at ih ⊢
    rw [List.map_cons, List.any_cons, ih]
    have e : eqV (.str a) (.str z) = (a == z) := rfl
    rw [e, Bool.eq_iff_iff, Bool.or_eq_true, beq_iff_eq, decide_eq_true_eq, decide_eq_true_eq, List.mem_cons]
    exact ⟨fun h => h.elim (fun h => .inl h.symm) .inr, fun h => h.elim (fun h => .inl h.symm) .inr⟩
theorem all_flat_strs (l : List Str) : (l.map V.str).all flatV = true := by
  rw [List.all_map]
  exact List.all_eq_true.mpr fun _ _ => rfl
def mTab : List (Str × Str) := [("set", "bn"), ("copy", "bb"), ("add", "bbb"), ("sub", "bbb"), ("fetch", "bb"), ("store", "bb"), ("less", "bbp"), ("jump", "p"), ("tell", "b")]
def marksOf (z : Str) : Str := (mTab.lookup z).getD Str.empty
def marksL : List Str := ["bn", "bb", "bbb", "bbb", "bb", "bb", "bbp", "p", "b"]
theorem marks_idx {wd : Str} {sh : List Str} (e : shapeOf wd = some sh) : ∃ j, j < 9 ∧ wordsL.getD j Str.empty = wd ∧ (∀ k, k < j → wordsL.getD k Str.empty ≠ wd) ∧ marksL.getD j Str.empty = marksOf wd :=
  sTab_cases (P := fun wd sh => ∃ j, j < 9 ∧ wordsL.getD j Str.empty = wd ∧ (∀ k, k < j → wordsL.getD k Str.empty ≠ wd) ∧ marksL.getD j Str.empty = marksOf wd) (by decide +kernel) e
def spMarks : Sp := fun vs H Q _ => ∃ z : Str, vs = [.str z] ∧ ∀ H', Same H H' → Q (.str (marksOf z)) H'
abbrev s__law_marks : Stmt := top 40
abbrev N__law_marks : List Str := ["_law_word", "_law_names"]
theorem S__law_marks : FnScope N__law_marks ["_law_word"] (defScope s__law_marks) := ⟨rfl, rfl, rfl, by decide +kernel, rfl, by decide +kernel, by decide +kernel⟩

theorem c_marks (T : Txt K w mg) (D : DefAt K "_law_marks" s__law_marks) : Cal P w K mg base CX0 1 "_law_marks" spMarks := by
  have S := S__law_marks
  refine cal_of T.toTop D S (fun _ _ _ _ _ _ us hl => match us, hl with | [_], _ => rfl) (fun vs H Q E h => ?_) (fun f cdv A outer s H vs Q E hr h => ?_)
  · obtain ⟨z, rfl, _⟩ := h
    rfl
  · obtain ⟨z, rfl, q⟩ := h
    refine ⟨_, (pss_cons (ps_set (i := 1) S.nd rfl (Or.inl rfl) (pe_lst (pa_cons pe_str (pa_cons pe_str (pa_cons pe_str (pa_cons pe_str (pa_cons pe_str (pa_cons pe_str (pa_cons pe_str (pa_cons pe_str (pa_cons pe_str pa_nil)))))))))))
  (pss_cons (ps_if (pt_cmpR op_notIn_seq (pv 0) (pv 1) (by with_unfolding_all rfl)) (pss_one (ps_ret pe_str)) pss_nil)
  (pss_one (ps_ret (pe_ix ix_list (pe_lst (pa_cons pe_str (pa_cons pe_str (pa_cons pe_str (pa_cons pe_str (pa_cons pe_str (pa_cons pe_str (pa_cons pe_str (pa_cons pe_str (pa_cons pe_str pa_nil)))))))))) (pe_bm PySem.F.plainAttrs_list PySem.F.slot_list_index PySem.F.type_list_index mt_index (pv 1) (pa_cons (pv 0) pa_nil)) (fun _ _ => rfl)))))), ?_⟩
    refine ⟨sz_ok rfl, fun p1 n1 => ?_⟩
    generalize e1 : upd H p1 _ = H1
    have h1 : H1 p1 = some (.lst (wordsL.map V.str)) := e1 ▸ upd_same
    have s1 : Same H H1 := e1 ▸ Same.new n1
    refine ⟨_, rfl, _, rfl, p1, wordsL.map V.str, rfl, .inl (SqL.of h1), rfl, all_flat_strs _, ?_⟩
    cases eS : shapeOf z with
    | none =>
      have hn : z ∉ wordsL := fun hm => by
        have h : ∀ z ∈ wordsL, (shapeOf z).isSome = true := by decide +kernel
        have := h z hm
        rw [eS] at this
        cases this
      have e : marksOf z = Str.empty := by
        unfold marksOf
        have h : mTab.lookup z = none := by
          rw [List.lookup_eq_none_iff]
          intro x hx
          have h : ∀ x ∈ mTab, x.1 ∈ wordsL := by decide +kernel
          have hne : z ≠ x.1 := fun e => hn (e ▸ h x hx)
          simpa using hne
        rw [h]
        rfl
      have := q _ s1
      rw [e] at this
      exact ⟨true, bl_of (by simp only [inV_strs, decide_eq_false hn]; rfl), this⟩
    | some sh =>
      obtain ⟨j, hj, hjw, hjn, hjm⟩ := marks_idx eS
      have hget : ∀ k, k < 9 → wordsL[k]? = some (wordsL.getD k Str.empty) := fun k hk => by
        rw [List.getD_eq_getElem?_getD, List.getElem?_eq_getElem (show k < wordsL.length from hk)]; rfl
      have hm : z ∈ wordsL := List.mem_of_getElem? (by rw [hget j hj, hjw])
      refine ⟨false, bl_of (by simp only [inV_strs, decide_eq_true hm]; rfl), ?_⟩
      refine ⟨sz_ok rfl, fun p3 n3 => ?_⟩
      generalize e3 : upd H1 p3 _ = H3
      have h3 : H3 p3 = some (.lst (marksL.map V.str)) := e3 ▸ upd_same
      have t3 : Same H1 H3 := e3 ▸ Same.new n3
      refine ⟨_, rfl, .inl ⟨rfl, _, SqL.of (t3 _ _ h1)⟩, _, rfl, ?_⟩
      refine ⟨p1, wordsL.map V.str, .str z, j, .str z, rfl, rfl, SqL.of (t3 _ _ h1), rfl, all_flat_strs _, ?_, ?_, fun m z' hmj hz' => ?_, ?_⟩
      · rw [List.getElem?_map, hget j hj, hjw]; rfl
      · exact beq_self_eq_true z
      · rw [List.getElem?_map, hget m (by omega)] at hz'
        cases hz'
        exact beq_eq_false_iff_ne.mpr (hjn m hmj)
      refine ⟨p3, _, _, _, rfl, rfl, SqL.of h3, at_strs (ns := marksL) (by omega) (by show (j : Int) < 9; omega), ?_⟩
      rw [show (((j : Nat) : Int)).toNat = j from rfl, hjm]
      exact q _ (s1.trans t3)

/-- what H' has and B has not -/
def nw (B H' : Hp) : Hp := fun q => match B q with | none => H' q | some _ => none
theorem nw_at {B H' : Hp} {q : Addr} {o : HO} (h : B q = none) (e : H' q = some o) : nw B H' q = some o := by
  unfold nw
  rw [h]
  exact e
theorem nw_of {B H' : Hp} {q : Addr} {o : HO} (e : nw B H' q = some o) : B q = none ∧ H' q = some o := by
  unfold nw at e
  cases h : B q with
  | none =>
    rw [h] at e
    exact ⟨rfl, e⟩
  | some u =>
    rw [h] at e
    cases e
theorem nw_sub {B H' : Hp} : Same (nw B H') H' := fun q o e => (nw_of e).2
theorem nw_same {B H1 H2 : Hp} (s : Same H1 H2) : Same (nw B H1) (nw B H2) := fun q o e => nw_at (nw_of e).1 (s _ _ (nw_of e).2)
def okM (z : Str) : Bool := decide (z.length ≤ 4) && z.cps.toList.all fun c => c == 98 || c == 110 || c == 112
def names10 : List Str := ["set", "copy", "add", "sub", "fetch", "store", "less", "jump", "tell", "halt"]
theorem mark_idx {z : Str} (h : okM z = true) {k : Nat} (hk : k < z.length) : ∃ (c j : Nat) (r : List Nat), atI z.cps.toList (k : Int) = some c ∧ Builtin.Str.occurrences "bnp" ⟨#[c]⟩ 0 (Str.length "bnp") 1 = j :: r ∧ j < 3 ∧ (j = 0 ↔ c = 98) ∧ (j = 1 ↔ c = 110) := by
  unfold okM at h
  rw [Bool.and_eq_true, List.all_eq_true] at h
  have hl : k < z.cps.toList.length := by simpa [Str.length] using hk
  have hc := h.2 _ (List.getElem_mem hl)
  refine ⟨z.cps.toList[k], ?_⟩
  have e : atI z.cps.toList (k : Int) = some z.cps.toList[k] := at_in (by omega) (by rw [Int.toNat_natCast]; exact List.getElem?_eq_getElem hl)
  rw [e]
  generalize z.cps.toList[k] = c at hc
  rw [Bool.or_eq_true, Bool.or_eq_true, beq_iff_eq, beq_iff_eq, beq_iff_eq] at hc
  rcases hc with (rfl | rfl) | rfl
  · exact ⟨0, [], rfl, by decide +kernel, by decide, by decide, by decide⟩
  · exact ⟨1, [], rfl, by decide +kernel, by decide, by decide, by decide⟩
  · exact ⟨2, [], rfl, by decide +kernel, by decide, by decide, by decide⟩
def spThingBy (K : PySem.W.Frag) : Sp := fun vs H Q _ => ∃ (a : Addr) (ns : List Int) (size count : Int), vs = [.ref a, .int size, .int count] ∧ SqL K H a (ns.map V.int) ∧ 1 ≤ size ∧ 0 ≤ count ∧ ∀ v d H', Same H H' → Dp K (nw H H') v d → okD 2 d → Q v H'
abbrev s__law_thing_by : Stmt := top 41
abbrev N__law_thing_by : List Str := ["_law_script", "_law_size", "_law_count", "_law_first", "_law_word", "_law_marks_here", "_law_parts", "_law_k", "_law_last", "_law_odd"]
theorem S__law_thing_by : FnScope N__law_thing_by ["_law_script", "_law_size", "_law_count"] (defScope s__law_thing_by) := ⟨rfl, rfl, rfl, by decide +kernel, rfl, by decide +kernel, by decide +kernel⟩

theorem c_thing_by (T : Txt K w mg) (D : DefAt K "_law_thing_by" s__law_thing_by) (C__law_cell_at : Cal P w K mg base CX0 1 "_law_cell_at" (spCellAt K)) (C__law_marks : Cal P w K mg base CX0 1 "_law_marks" spMarks) (C__law_edge : Cal P w K mg base CX0 2 "_law_edge" spEdge) : Cal P w K mg base CX0 3 "_law_thing_by" (spThingBy K) := by
  have S := S__law_thing_by
  refine cal_of T.toTop D S (fun _ _ _ _ _ _ us hl => match us, hl with | [_, _, _], _ => rfl) (fun vs H Q E h => ?_) (fun f cdv A outer s H vs Q E hr h => ?_)
  · obtain ⟨a, ns, size, count, rfl, _⟩ := h
    rfl
  · obtain ⟨a, ns, size, count, rfl, hS, hs1, hc0, q⟩ := h
    refine ⟨_, (pss_cons (ps_set (i := 3) S.nd rfl (Or.inl rfl) (pe_c C__law_cell_at hr (by decide) rfl (pa_cons (pv 0) (pa_cons pe_int pa_nil))))
  (pss_cons (ps_set (i := 4) S.nd rfl (Or.inl rfl) (pe_ix ix_list (pe_lst (pa_cons pe_str (pa_cons pe_str (pa_cons pe_str (pa_cons pe_str (pa_cons pe_str (pa_cons pe_str (pa_cons pe_str (pa_cons pe_str (pa_cons pe_str (pa_cons pe_str pa_nil))))))))))) (pe_op op_mod (pv 3) pe_int) (fun _ _ => rfl)))
  (pss_cons (ps_set (i := 5) S.nd rfl (Or.inl rfl) (pe_c C__law_marks hr (by decide) rfl (pa_cons (pv 4) pa_nil)))
  (pss_cons (ps_if (pt_cmpR op_eq (pe_op op_mod (pe_op op_fdiv (pv 3) pe_int) pe_int) pe_int (nomark _)) (pss_one (ps_set (i := 5) S.nd rfl (Or.inl rfl) (pe_slice sl_str (pv 5) po_none (po_some (pe_un un_neg pe_int))))) pss_nil)
  (pss_cons (ps_if (pt_cmpR op_eq (pe_op op_mod (pe_op op_fdiv (pv 3) pe_int) pe_int) pe_int (nomark _)) (pss_one (ps_set (i := 5) S.nd rfl (Or.inl rfl) (pe_op op_add_str (pv 5) pe_str))) pss_nil)
  (pss_cut (D := { nx := fun _ H' => Q .non H', rt := Q }) (P := fun σ H' => ∃ (c : Int) (wd z : Str), σ = [some (.ref a), some (.int size), some (.int count), some (.int c), some (.str wd), some (.str z), none, none, none, none] ∧ PyData.strOk wd = true ∧ okM z = true ∧ Same H H') ?tail)))))), ?_⟩
    case tail =>
      refine ⟨_, (pss_cons (ps_set (i := 6) S.nd rfl (Or.inl rfl) (pe_lst (pa_cons (pv 4) pa_nil)))
  (pss_cons (ps_for PassesOwn.never rfl (pi_range1 rfl T.range (pa_cons (pe_callB call_len_str (by rfl) T.len PySem.boot_len (pa_cons (pv 5) pa_nil)) pa_nil)) (pg_name (i := 7) S.nd rfl (Or.inl rfl))
  (pss_cons (ps_set (i := 8) S.nd rfl (Or.inl rfl) (pe_ix ix_list (pe_lst (pa_cons (pe_op op_sub (pv 1) pe_int) (pa_cons pe_int (pa_cons (pv 2) pa_nil)))) (pe_bm PySem.F.plainAttrs_str PySem.F.slot_str_index PySem.F.type_str_index mt_sindex pe_str (pa_cons (pe_ix ix_str (pv 5) (pv 7) (fun _ _ => rfl)) pa_nil)) (fun _ _ => rfl)))
  (pss_one (ps_expr (pe_bm PySem.F.plainAttrs_list PySem.F.slot_list_append PySem.F.type_list_append mt_append (pv 6) (pa_cons (pe_c C__law_edge hr (by decide) rfl (pa_cons (pe_c C__law_cell_at hr (by decide) rfl (pa_cons (pv 0) (pa_cons (pe_op op_add pe_int (pv 7)) pa_nil))) (pa_cons (pv 8) pa_nil))) pa_nil))))))
  (pss_cons (ps_set (i := 9) S.nd rfl (Or.inl rfl) (pe_op op_mod (pe_op op_fdiv (pv 3) pe_int) pe_int))
  (pss_cons (ps_if (PW.pt (pw_and (pt_cmpR op_in_seq (pv 9) (pe_tup (pa_cons pe_int (pa_cons pe_int pa_nil))) (by with_unfolding_all rfl)) (pw_and1 (pt_cmpR op_gt (pe_callB call_len_seq (by rfl) T.len PySem.boot_len (pa_cons (pv 6) pa_nil)) pe_int (nomark _))))) (pss_one (ps_asg (pe_ix ix_list (pe_lst (pa_cons pe_bl (pa_cons pe_str (pa_cons (pe_lst (pa_cons pe_int pa_nil)) (pa_cons pe_non pa_nil))))) (pe_op op_mod (pe_c C__law_cell_at hr (by decide) rfl (pa_cons (pv 0) (pa_cons pe_int pa_nil))) pe_int) (fun _ _ => rfl)) (pg_sub (pv 6) (pe_op op_add pe_int (pe_op op_mod (pe_op op_fdiv (pv 3) pe_int) (pe_op op_sub (pe_callB call_len_seq (by rfl) T.len PySem.boot_len (pa_cons (pv 6) pa_nil)) pe_int))) set_list))) pss_nil)
  (pss_cut (D := { nx := fun _ H' => Q .non H', rt := Q }) (P := fun σ H' => ∃ (c od : Int) (wd : Str) (v5 v7 v8 : Option V) (p : Addr) (xs : List V) (ds : List PyData), σ = [some (.ref a), some (.int size), some (.int count), some (.int c), some (.str wd), v5, some (.ref p), v7, v8, some (.int od)] ∧ PyData.strOk wd = true ∧ H p = none ∧ H' p = some (.lst xs) ∧ DpAll K (nw H H') xs ds ∧ (∀ d ∈ ds, okD 1 d) ∧ xs.length ≤ 10 ∧ Same H H') ?tail2))))), ?rest⟩
      case tail2 =>
        refine ⟨_, (pss_cons (ps_if (pt_cmpR op_eq (pv 9) pe_int (nomark _)) (pss_one (ps_ret (pe_ix ix_list (pe_lst (pa_cons (pv 6) (pa_cons (pe_tup (pa_cons pe_int (pa_cons pe_int pa_nil))) (pa_cons (pe_tup pa_nil) (pa_cons pe_non (pa_cons (pv 4) (pa_cons (pe_tup (pa_cons pe_non (pa_cons pe_int pa_nil))) pa_nil))))))) (pe_op op_mod (pe_op op_fdiv (pv 3) pe_int) pe_int) (fun _ _ => rfl)))) pss_nil)
  (pss_one (ps_ret (pe_tupleOf (by rfl) T.tuple (pv 6))))), fun σ H1 h => ?_⟩
        obtain ⟨c, od, wd, v5, v7, v8, p, xs, ds, rfl, hw, np0, hp, hd, hok, hxl, s1⟩ := h
        refine ⟨_, rfl, rfl, ?_⟩
        by_cases ho : od = 3
        · refine ⟨true, bl_of (decide_eq_true (congrArg V.int ho)), ?_⟩
          refine ⟨_, rfl, sz_ok rfl, fun p1 n1 => ?_⟩
          have s2 := s1.more (o := .tup [.int 1, .int 0]) n1
          have a1 : upd H1 p1 (.tup [.int 1, .int 0]) p1 = some (.tup [.int 1, .int 0]) := upd_same
          have t2 : Same H1 (upd H1 p1 (.tup [.int 1, .int 0])) := Same.new n1
          generalize upd H1 p1 (.tup [.int 1, .int 0]) = H2 at s2 a1 t2
          refine ⟨sz_ok rfl, fun p2 n2 => ?_⟩
          have s3 := s2.more (o := .tup []) n2
          have a2 : upd H2 p2 (.tup []) p2 = some (.tup []) := upd_same
          have t3 : Same H2 (upd H2 p2 (.tup [])) := Same.new n2
          generalize upd H2 p2 (.tup []) = H3 at s3 a2 t3
          refine ⟨_, rfl, sz_ok rfl, fun p3 n3 => ?_⟩
          have s4 := s3.more (o := .tup [.non, .int 0]) n3
          have a3 : upd H3 p3 (.tup [.non, .int 0]) p3 = some (.tup [.non, .int 0]) := upd_same
          have t4 : Same H3 (upd H3 p3 (.tup [.non, .int 0])) := Same.new n3
          generalize upd H3 p3 (.tup [.non, .int 0]) = H4 at s4 a3 t4
          refine ⟨sz_ok rfl, fun p4 n4 => ?_⟩
          have s5 := s4.more (o := .lst [.ref p, .ref p1, .ref p2, .non, .str wd, .ref p3]) n4
          have a4 : upd H4 p4 (.lst [.ref p, .ref p1, .ref p2, .non, .str wd, .ref p3]) p4 = some (.lst [.ref p, .ref p1, .ref p2, .non, .str wd, .ref p3]) := upd_same
          have t5 : Same H4 (upd H4 p4 (.lst [.ref p, .ref p1, .ref p2, .non, .str wd, .ref p3])) := Same.new n4
          generalize upd H4 p4 (.lst [.ref p, .ref p1, .ref p2, .non, .str wd, .ref p3]) = H5 at s5 a4 t5
          refine ⟨_, rfl, _, _, rfl, rfl, ⟨by decide, by decide⟩, _, _, rfl, rfl, (by show (0 : Int) < 6; decide), p4, _, _, _, rfl, rfl, SqL.of a4, at_getD (d := .non) (mod_nn _ (by decide)) (mod_lt _ (by decide)), ?_⟩
          have hi : (c / 960 % 6).toNat = 0 ∨ (c / 960 % 6).toNat = 1 ∨ (c / 960 % 6).toNat = 2 ∨ (c / 960 % 6).toNat = 3 ∨ (c / 960 % 6).toNat = 4 ∨ (c / 960 % 6).toNat = 5 := by omega
          have q1 := fun v d => q v d _ s5
          rcases hi with e | e | e | e | e | e <;> rw [e]
          · exact q1 _ _ (.lst (SqL.of (nw_at np0 (t5 _ _ (t4 _ _ (t3 _ _ (t2 _ _ hp)))))) (dpAll_same (nw_same (t2.trans (t3.trans (t4.trans t5)))) _ _ hd)) (okD.lst hok)
          · exact q1 _ _ (.tup (SqT.of (nw_at (s1.free n1) (t5 _ _ (t4 _ _ (t3 _ _ a1))))) (dpAll_flat2 rfl)) ⟨rfl, by decide +kernel⟩
          · exact q1 _ _ (.tup (SqT.of (nw_at (s2.free n2) (t5 _ _ (t4 _ _ a2)))) .nil) ⟨rfl, by decide +kernel⟩
          · exact q1 _ _ .non (okD.non _)
          · exact q1 _ _ (.str wd) (okD.str _ hw)
          · exact q1 _ _ (.tup (SqT.of (nw_at (s3.free n3) (t5 _ _ a3))) (dpAll_flat2 rfl)) ⟨rfl, by decide +kernel⟩
        · refine ⟨false, bl_of (decide_eq_false fun e => ho (V.int.inj e)), ?_⟩
          refine ⟨_, rfl, .inl ⟨p, _, rfl, SqL.of hp, fun l nl => ?_⟩⟩
          exact q _ _ _ (s1.more nl) (.tup (SqT.of (nw_at (s1.free nl) upd_same)) (dpAll_same (nw_same (Same.new nl)) _ _ hd)) (okD.tup hok)
      case rest =>
      refine fun σ H1 h => ?_
      obtain ⟨c, wd, z, rfl, hw, hm, s1⟩ := h
      have hz : z.length ≤ 4 := by
        unfold okM at hm
        rw [Bool.and_eq_true] at hm
        exact of_decide_eq_true hm.1
      have hzs : z.length ≤ sizeLine := Nat.le_trans hz (by decide)
      refine ⟨_, rfl, sz_ok rfl, fun p np => ?_⟩
      refine ⟨_, rfl, z, rfl, hzs, _, rfl, by omega, by omega, for_range (n := z.length) (fun k σ H' => ∃ (v7 v8 : Option V) (zs : List Int), σ = [some (.ref a), some (.int size), some (.int count), some (.int c), some (.str wd), some (.str z), some (.ref p), v7, v8, none] ∧ H' p = some (.lst (.str wd :: zs.map V.int)) ∧ zs.length = k ∧ Same H1 H') ⟨none, none, [], rfl, upd_same, rfl, Same.new np⟩ (fun k σ H' hk ⟨v7, v8, zs, eσ, h1, hl, t1⟩ => ?_) (fun σ H' ⟨v7, v8, zs, eσ, h1, hl, t1⟩ => ?_)⟩
      · subst eσ
        have s2 := s1.trans t1
        obtain ⟨cc, j, r, ha, ho, hj, j0, j1⟩ := mark_idx hm hk
        refine ⟨_, rfl, _, _, rfl, rfl, _, rfl, sz_ok rfl, fun p2 n2 => ?_⟩
        have t2 := t1.more (o := .lst [.int (size - 1), .int 999999, .int count]) n2
        have h1' : upd H' p2 (.lst [.int (size - 1), .int 999999, .int count]) p = some (.lst (.str wd :: zs.map V.int)) := Same.new n2 _ _ h1
        have h2 : upd H' p2 (.lst [.int (size - 1), .int 999999, .int count]) p2 = some (.lst ([size - 1, 999999, count].map V.int)) := upd_same
        generalize upd H' p2 (.lst [.int (size - 1), .int 999999, .int count]) = H2 at t2 h1' h2
        have hlast : 0 ≤ ([size - 1, 999999, count] : List Int).getD j 0 := by
          have : j = 0 ∨ j = 1 ∨ j = 2 := by omega
          rcases this with rfl | rfl | rfl
          · show 0 ≤ size - 1
            omega
          · show (0 : Int) ≤ 999999
            omega
          · exact hc0
        refine ⟨rfl, _, rfl, _, rfl, z, _, cc, rfl, rfl, hzs, by rw [Int.zero_add]; exact ha, _, _, j, r, rfl, rfl, ho, ?_⟩
        refine ⟨p2, _, _, _, rfl, rfl, SqL.of h2, at_ints (ns := [size - 1, 999999, count]) (by omega) (by show (j : Int) < 3; omega), ?_⟩
        refine ⟨_, rfl, .inl ⟨rfl, _, SqL.of h1'⟩, _, rfl, _, rfl, _, _, rfl, rfl, a, ns, _, rfl, (s1.trans t2).seq hS, by omega, _, rfl, _, _, rfl, hlast, fun e H3 t3 => ?_⟩
        refine ⟨p, _, _, rfl, rfl, t3 _ _ h1', ?_, _, _, zs ++ [e], rfl, ?_, ?_, (t2.trans t3).mut np⟩
        · simp only [List.length_cons, List.length_map]
          exact Nat.lt_of_le_of_lt (by omega : _ ≤ 1001) (by decide)
        · rw [upd_same, List.map_append]
          rfl
        · rw [List.length_append, hl]
          rfl
      · subst eσ
        have s2 := s1.trans t1
        have np0 : H p = none := s1.free np
        have hd : DpAll K (nw H H') (.str wd :: zs.map V.int) ((V.str wd :: zs.map V.int).map dOf) := dpAll_flat2 (by
          rw [List.all_cons, List.all_map]
          exact List.all_eq_true.mpr fun _ _ => rfl)
        have hok : ∀ d ∈ (V.str wd :: zs.map V.int).map dOf, okD 0 d := fun d hd => by
          rw [List.map_cons, List.map_map] at hd
          rcases List.mem_cons.mp hd with rfl | hd
          · exact okD.str _ hw
          · obtain ⟨n, _, rfl⟩ := List.mem_map.mp hd
            exact okD.int _ _
        have hlen : (V.str wd :: zs.map V.int).length = zs.length + 1 := by rw [List.length_cons, List.length_map]
        refine ⟨_, rfl, _, _, rfl, rfl, ⟨by decide, by decide⟩, _, _, rfl, rfl, (by show (0 : Int) < 16; decide), ?_⟩
        have hp := h1
        refine ⟨_, rfl, sz_ok rfl, fun p2 n2 => ?_⟩
        have t2 : Same H' (upd H' p2 (.tup [.int 1, .int 2])) := Same.new n2
        have g2 : upd H' p2 (.tup [.int 1, .int 2]) p2 = some (.tup [.int 1, .int 2]) := upd_same
        generalize upd H' p2 (.tup [.int 1, .int 2]) = H2 at t2 g2
        have hp2 := t2 _ _ hp
        have hd2 := dpAll_same (nw_same (B := H) t2) _ _ hd
        have n2p : H1 p = none := np
        refine ⟨p2, _, rfl, .inr (SqT.of g2), rfl, rfl, _, rfl, ?_⟩
        have fin : ∀ (od : Int) (v7 v8 : Option V), ∃ (c' od' : Int) (wd' : Str) (v5 v7' v8' : Option V) (p' : Addr) (xs : List V) (ds : List PyData), [some (V.ref a), some (.int size), some (.int count), some (.int c), some (.str wd), some (.str z), some (.ref p), v7, v8, some (.int od)] = [some (V.ref a), some (.int size), some (.int count), some (.int c'), some (.str wd'), v5, some (.ref p'), v7', v8', some (.int od')] ∧ PyData.strOk wd' = true ∧ H p' = none ∧ H2 p' = some (.lst xs) ∧ DpAll K (nw H H2) xs ds ∧ (∀ d ∈ ds, okD 1 d) ∧ xs.length ≤ 10 ∧ Same H H2 :=
          fun od v7 v8 => ⟨c, od, wd, _, _, _, p, _, _, rfl, hw, np0, hp2, hd2, fun d h => (hok d h).mono (by decide), by rw [hlen]; omega, s2.trans t2⟩
        generalize (if false = true then !inV _ _ else inV _ _) = k
        cases k with
        | false => exact ⟨rfl, fin _ _ _⟩
        | true =>
          by_cases h0 : zs = []
          · subst h0
            refine ⟨_, rfl, p, _, rfl, .inl (SqL.of hp2), _, _, rfl, rfl, false, bl_of (decide_eq_false (by simp)), ?_⟩
            exact ⟨rfl, fin _ _ _⟩
          · have hz1 : 0 < zs.length := List.length_pos_iff.mpr h0
            refine ⟨_, rfl, p, _, rfl, .inl (SqL.of hp2), _, _, rfl, rfl, true, bl_of (decide_eq_true (by rw [hlen]; omega)), ?_⟩
            refine ⟨sz_ok rfl, fun p3 n3 => ?_⟩
            have t3 : Same H2 (upd H2 p3 (.lst [.int 0])) := Same.new n3
            have g3 : upd H2 p3 (.lst [.int 0]) p3 = some (.lst [.int 0]) := upd_same
            generalize upd H2 p3 (.lst [.int 0]) = H3 at t3 g3
            refine ⟨sz_ok rfl, fun p4 n4 => ?_⟩
            have t4 : Same H3 (upd H3 p4 (.lst [.bl true, .str "0", .ref p3, .non])) := Same.new n4
            have g4 : upd H3 p4 (.lst [.bl true, .str "0", .ref p3, .non]) p4 = some (.lst [.bl true, .str "0", .ref p3, .non]) := upd_same
            generalize upd H3 p4 (.lst [.bl true, .str "0", .ref p3, .non]) = H4 at t4 g4
            have t24 := t3.trans t4
            have hp4 := t24 _ _ hp2
            refine ⟨_, rfl, a, ns, 8, rfl, ((s2.trans t2).trans t24).seq hS, by decide, _, _, rfl, rfl, (by show (0 : Int) < 4; decide), p4, _, _, _, rfl, rfl, SqL.of g4, at_getD (d := .non) (mod_nn _ (by decide)) (mod_lt _ (by decide)), ?_⟩
            have hv : ∃ d, okD 1 d ∧ ∀ H5, (∀ q o, q ≠ p → H4 q = some o → H5 q = some o) → Dp K (nw H H5) (([V.bl true, .str "0", .ref p3, .non] : List V).getD (cellAt ns 8 % 4).toNat .non) d := by
              have hi : (cellAt ns 8 % 4).toNat = 0 ∨ (cellAt ns 8 % 4).toNat = 1 ∨ (cellAt ns 8 % 4).toNat = 2 ∨ (cellAt ns 8 % 4).toNat = 3 := by omega
              rcases hi with e | e | e | e <;> rw [e]
              · exact ⟨_, okD.bl _ _, fun _ _ => .bl true⟩
              · exact ⟨_, okD.str _ (by decide +kernel), fun _ _ => .str "0"⟩
              · exact ⟨_, ⟨rfl, by decide +kernel⟩, fun H5 h5 => .lst (SqL.of (nw_at ((s2.trans t2).free n3) (h5 _ _ (ne_of_none hp2 n3).symm (t4 _ _ g3)))) (dpAll_flat2 rfl)⟩
              · exact ⟨_, okD.non _, fun _ _ => .non⟩
            obtain ⟨dv, okv, hv⟩ := hv
            generalize ([V.bl true, .str "0", .ref p3, .non] : List V).getD (cellAt ns 8 % 4).toNat .non = vv at hv
            have hm : 0 ≤ c / 960 % (((V.str wd :: zs.map V.int).length : Nat) - 1 : Int) ∧ c / 960 % (((V.str wd :: zs.map V.int).length : Nat) - 1 : Int) < (((V.str wd :: zs.map V.int).length : Nat) - 1 : Int) := by
              have : (0 : Int) < (((V.str wd :: zs.map V.int).length : Nat) - 1 : Int) := by rw [hlen]; omega
              exact ⟨mod_nn _ this, mod_lt _ this⟩
            refine ⟨_, rfl, _, rfl, _, _, rfl, rfl, ⟨by decide, by decide⟩, _, rfl, p, _, rfl, .inl (SqL.of hp4), _, _, rfl, rfl, _, _, rfl, rfl, (by rw [hlen]; omega), _, _, rfl, rfl, ?_⟩
            refine ⟨p, _, _, (1 + c / 960 % (((V.str wd :: zs.map V.int).length : Nat) - 1 : Int)).toNat, rfl, rfl, hp4, ?_, ?_⟩
            · unfold ixN
              rw [if_pos (by omega), if_pos (by omega)]
            have hset : DpAll K (nw H (upd H4 p (.lst ((V.str wd :: zs.map V.int).set (1 + c / 960 % (((V.str wd :: zs.map V.int).length : Nat) - 1 : Int)).toNat vv)))) ((V.str wd :: zs.map V.int).set (1 + c / 960 % (((V.str wd :: zs.map V.int).length : Nat) - 1 : Int)).toNat vv) (((V.str wd :: zs.map V.int).map dOf).set (1 + c / 960 % (((V.str wd :: zs.map V.int).length : Nat) - 1 : Int)).toNat dv) :=
              dpA_set (hv _ fun q o hq e => by rw [upd_ne hq]; exact e) (dpAll_flat2 (by
                rw [List.all_cons, List.all_map]
                exact List.all_eq_true.mpr fun _ _ => rfl))
            refine ⟨rfl, c, _, wd, _, _, _, p, _, _, rfl, hw, np0, upd_same, hset, fun d h => ?_, ?_, ?_⟩
            · rcases List.mem_or_eq_of_mem_set h with h | h
              · exact (hok d h).mono (by decide)
              · rw [h]; exact okv
            · rw [List.length_set, hlen]; omega
            · exact s1.trans (((t1.trans t2).trans t24).mut np)
    refine ⟨_, rfl, a, ns, 2, rfl, hS, by decide, ?_⟩
    generalize cellAt ns 2 = c
    refine ⟨sz_ok rfl, fun p1 n1 => ?_⟩
    generalize e1 : upd H p1 _ = H1
    have h1 : H1 p1 = some (.lst (names10.map V.str)) := e1 ▸ upd_same
    have s1 : Same H H1 := e1 ▸ Same.new n1
    refine ⟨_, rfl, _, _, rfl, rfl, (by show (0 : Int) < 10; decide), p1, _, _, _, rfl, rfl, SqL.of h1, at_strs_mod (ns := names10) c (by decide) rfl, ?_⟩
    have hi : (c % 10).toNat < 10 := by omega
    generalize (c % 10).toNat = i at hi
    refine ⟨_, rfl, _, rfl, fun H2 t2 => ?_⟩
    have s2 := s1.trans t2
    have mk : ∀ i, i < 10 → okM (marksOf (names10.getD i Str.empty)) = true ∧ okM (cutS (marksOf (names10.getD i Str.empty)) none (some (-1))) = true ∧ okM (marksOf (names10.getD i Str.empty) ++ "b") = true ∧ PyData.strOk (names10.getD i Str.empty) = true ∧ (marksOf (names10.getD i Str.empty)).length ≤ 3 := by decide +kernel
    obtain ⟨m1, m2, m3, m4, m5⟩ := mk i hi
    have hzs : (marksOf (names10.getD i Str.empty)).length ≤ sizeLine := Nat.le_trans m5 (by decide)
    have d10 : CDiv c 10 := ⟨by decide, by decide⟩
    have m6 : (0 : Int) < 6 := by decide
    by_cases hA : c / 10 % 6 = 1
    · refine ⟨_, rfl, _, _, rfl, rfl, d10, _, _, rfl, rfl, m6, rfl, true, bl_of (decide_eq_true (congrArg V.int hA)), ?_⟩
      refine ⟨_, rfl, _, rfl, _, rfl, _, rfl, hzs, ?_⟩
      refine ⟨_, rfl, _, _, rfl, rfl, d10, _, _, rfl, rfl, m6, rfl, false, bl_of (decide_eq_false fun e => by have := V.int.inj e; omega), ?_⟩
      exact ⟨rfl, c, _, _, rfl, m4, m2, s2⟩
    · refine ⟨_, rfl, _, _, rfl, rfl, d10, _, _, rfl, rfl, m6, rfl, false, bl_of (decide_eq_false fun e => hA (V.int.inj e)), ?_⟩
      by_cases hB : c / 10 % 6 = 2
      · refine ⟨_, rfl, _, _, rfl, rfl, d10, _, _, rfl, rfl, m6, rfl, true, bl_of (decide_eq_true (congrArg V.int hB)), ?_⟩
        refine ⟨_, rfl, _, _, rfl, rfl, Nat.le_trans (Nat.add_le_add m5 (by decide +kernel : Str.length "b" ≤ 1)) (by decide), ?_⟩
        exact ⟨rfl, c, _, _, rfl, m4, m3, s2⟩
      · refine ⟨_, rfl, _, _, rfl, rfl, d10, _, _, rfl, rfl, m6, rfl, false, bl_of (decide_eq_false fun e => hB (V.int.inj e)), ?_⟩
        exact ⟨rfl, c, _, _, rfl, m4, m1, s2⟩

theorem marks_none {z : Str} (e : shapeOf z = none) : marksOf z = Str.empty := by
  have hn : z ∉ wordsL := fun hm => by
    have h : ∀ z ∈ wordsL, (shapeOf z).isSome = true := by decide +kernel
    have := h z hm
    rw [e] at this
    cases this
  unfold marksOf
  have h : mTab.lookup z = none := by
    rw [List.lookup_eq_none_iff]
    intro x hx
    have h : ∀ x ∈ mTab, x.1 ∈ wordsL := by decide +kernel
    have hne : z ≠ x.1 := fun e => hn (e ▸ h x hx)
    simpa using hne
  rw [h]
  rfl
theorem marks_kinds {z : Str} {l : List Str} (e : shapeOf z = some l) : (marksOf z).length = l.length ∧ okM (marksOf z) = true ∧ marksOf z ≠ Str.empty ∧ ∀ k, k < l.length → ((marksOf z).cps.toList.getD k 0 = 98 ↔ l.getD k Str.empty = "box") ∧ ((marksOf z).cps.toList.getD k 0 = 110 ↔ l.getD k Str.empty = "number") :=
  sTab_cases (P := fun z l => (marksOf z).length = l.length ∧ okM (marksOf z) = true ∧ marksOf z ≠ Str.empty ∧ ∀ k, k < l.length → ((marksOf z).cps.toList.getD k 0 = 98 ↔ l.getD k Str.empty = "box") ∧ ((marksOf z).cps.toList.getD k 0 = 110 ↔ l.getD k Str.empty = "number")) (by decide +kernel) e
theorem fitK_bad {size count : Int} {l : List Str} {ps : List PyData} {k : Nat} (hk : k < l.length) (h : wholeIn (ps.getD k .none) 0 (lastOf size count (l.getD k Str.empty)) = false) : fitK size count l ps = false := by
  unfold fitK
  rw [Bool.eq_false_iff]
  intro z
  have := List.all_eq_true.mp z k (List.mem_range.mpr hk)
  rw [h] at this
  cases this
abbrev s__law_fits : Stmt := top 42
abbrev N__law_fits : List Str := ["_law_row", "_law_size", "_law_count", "_law_marks_here", "_law_k", "_law_last"]
theorem S__law_fits : FnScope N__law_fits ["_law_row", "_law_size", "_law_count"] (defScope s__law_fits) := ⟨rfl, rfl, rfl, by decide +kernel, rfl, by decide +kernel, by decide +kernel⟩

theorem c_law_fits (T : Txt K w mg) (D : DefAt K "_law_fits" s__law_fits) (C__law_whole : Cal P w K mg base CX0 1 "_law_whole" (spWhole K)) (C__law_marks : Cal P w K mg base CX0 1 "_law_marks" spMarks) : Cal P w K mg base CX0 2 "_law_fits" (spFits K) := by
  have S := S__law_fits
  refine cal_of T.toTop D S (fun _ _ _ _ _ _ us hl => match us, hl with | [_, _, _], _ => rfl) (fun vs H Q E h => ?_) (fun f cdv A outer s H vs Q E hr h => ?_)
  · obtain ⟨v, d, size, count, rfl, _⟩ := h
    rfl
  · obtain ⟨v, d, size, count, rfl, hd, q⟩ := h
    refine ⟨_, (pss_cons (ps_if (PW.pt (pw_or (pt_not (pt_val (pe_callB call_isi (by rfl) T.isinstance (by decide +kernel) (pa_cons (pv 0) (pa_cons ((pe_bltn (v := .ty "tuple") (u := .type "tuple") rfl T.tuple (by decide +kernel) rfl)) pa_nil))))) (pw_or (pt_cmpR op_eq (pe_callB call_len_seq (by rfl) T.len PySem.boot_len (pa_cons (pv 0) pa_nil)) pe_int (nomark _)) (pw_or1 (pt_not (pt_val (pe_callB call_isi (by rfl) T.isinstance (by decide +kernel) (pa_cons (pe_ix ix_tup (pv 0) pe_int (fun _ _ => rfl)) (pa_cons ((pe_bltn (v := .ty "str") (u := .type "str") rfl T.str (by decide +kernel) rfl)) pa_nil))))))))) (pss_one (ps_ret pe_bl)) pss_nil)
  (pss_cons (ps_set (i := 3) S.nd rfl (Or.inl rfl) (pe_c C__law_marks hr (by decide) rfl (pa_cons (pe_ix ix_tup (pv 0) pe_int (fun _ _ => rfl)) pa_nil)))
  (pss_cons (ps_if (PW.pt (pw_or (pt_cmpR op_eq (pv 3) pe_str (nomark _)) (pw_or1 (pt_cmpR op_ne (pe_callB call_len_seq (by rfl) T.len PySem.boot_len (pa_cons (pv 0) pa_nil)) (pe_op op_add pe_int (pe_callB call_len_str (by rfl) T.len PySem.boot_len (pa_cons (pv 3) pa_nil))) (nomark _))))) (pss_one (ps_ret pe_bl)) pss_nil)
  (pss_cons (ps_for PassesOwn.never rfl (pi_range1 rfl T.range (pa_cons (pe_callB call_len_str (by rfl) T.len PySem.boot_len (pa_cons (pv 3) pa_nil)) pa_nil)) (pg_name (i := 4) S.nd rfl (Or.inl rfl))
  (pss_cons (ps_set (i := 5) S.nd rfl (Or.inl rfl) (pe_ix ix_list (pe_lst (pa_cons (pe_op op_sub (pv 1) pe_int) (pa_cons pe_int (pa_cons (pv 2) pa_nil)))) (pe_bm PySem.F.plainAttrs_str PySem.F.slot_str_index PySem.F.type_str_index mt_sindex pe_str (pa_cons (pe_ix ix_str (pv 3) (pv 4) (fun _ _ => rfl)) pa_nil)) (fun _ _ => rfl)))
  (pss_one (ps_if (PW.pt (pw_or (pt_not (pt_val (pe_c C__law_whole hr (by decide) rfl (pa_cons (pe_ix ix_tup (pv 0) (pe_op op_add pe_int (pv 4)) (fun _ _ => rfl)) pa_nil)))) (pw_or1 (pt_not (pt_chain op_le op_le pe_int (pe_ix ix_tup (pv 0) (pe_op op_add pe_int (pv 4)) (fun _ _ => rfl)) (pv 5)))))) (pss_one (ps_ret pe_bl)) pss_nil))))
  (pss_one (ps_ret pe_bl)))))), ?_⟩
    have ty := dp_ty hd
    have q0 := q H (Same.refl H)
    refine ⟨_, rfl, _, _, _, _, _, rfl, .ty _, ty, kit_ty (kit_tup d), _, rfl, ?_⟩
    cases hd with
    | tup hq a =>
      cases a with
      | nil => exact ⟨_, rfl, _, _, rfl, .inr hq, rfl, true, rfl, q0⟩
      | @cons v1 vs1 d1 ds1 a1 a2 =>
        refine ⟨_, rfl, _, _, rfl, .inr hq, rfl, false, bl_of (decide_eq_false fun z => by have := V.int.inj z; simp only [List.length_cons] at this; omega), ?_⟩
        refine ⟨_, rfl, _, _, _, _, rfl, rfl, hq, at_in (by decide) rfl, _, _, _, _, _, rfl, .ty _, dp_ty a1, kit_ty (kit_str _), _, rfl, ?_⟩
        cases a1 with
        | str wd =>
          refine ⟨_, rfl, _, _, _, _, rfl, rfl, hq, at_in (v := .str wd) (by decide) rfl, wd, rfl, fun H1 s1 => ?_⟩
          cases eS : shapeOf wd with
          | none =>
            have q1 := q _ s1
            simp only [fitsD, eS] at q1
            refine ⟨_, rfl, rfl, true, bl_of (decide_eq_true (congrArg V.str (marks_none eS))), q1⟩
          | some l =>
            obtain ⟨hml, hmo, hme, hmk⟩ := marks_kinds eS
            have hl3 := (shape_len eS).2
            have hms : (marksOf wd).length ≤ sizeLine := Nat.le_trans (by omega : _ ≤ 3) (by decide)
            refine ⟨_, rfl, rfl, false, bl_of (decide_eq_false fun e => hme (V.str.inj e)), ?_⟩
            refine ⟨_, rfl, _, _, rfl, .inr (s1.sqt hq), _, rfl, _, rfl, hms, _, _, rfl, rfl, rfl, ?_⟩
            have hvl := dpA_len a2
            simp only [fitsD, eS] at q
            by_cases hc : ds1.length = l.length
            case neg =>
              have q1 := q _ s1
              rw [decide_eq_false hc, Bool.false_and] at q1
              refine ⟨true, bl_of (by simp only [List.length_cons, hml]; simp; omega), q1⟩
            rw [decide_eq_true hc, Bool.true_and] at q
            refine ⟨false, bl_of (by simp only [List.length_cons, hml]; simp; omega), ?_⟩
            refine ⟨_, rfl, _, rfl, hms, _, rfl, by omega, by omega, for_range (n := (marksOf wd).length) (fun k σ H' => ∃ v4 v5 : Option V, σ = [some (.ref _), some (.int size), some (.int count), some (.str (marksOf wd)), v4, v5] ∧ Same H1 H' ∧ ∀ j, j < k → wholeIn (ds1.getD j .none) 0 (lastOf size count (l.getD j Str.empty)) = true) ⟨none, none, rfl, Same.refl _, fun j h => absurd h (Nat.not_lt_zero _)⟩ (fun k σ H' hk ⟨v4, v5, eσ, t1, hall⟩ => ?_) (fun σ H' ⟨v4, v5, eσ, t1, hall⟩ => ?_)⟩
            · subst eσ
              obtain ⟨cc, j, r, ha, ho, hj, j0, j1⟩ := mark_idx hmo hk
              refine ⟨_, rfl, _, _, rfl, rfl, _, rfl, sz_ok rfl, fun p2 n2 => ?_⟩
              have t2 := t1.more (o := .lst [.int (size - 1), .int 999999, .int count]) n2
              have h2 : upd H' p2 (.lst [.int (size - 1), .int 999999, .int count]) p2 = some (.lst ([size - 1, 999999, count].map V.int)) := upd_same
              generalize upd H' p2 (.lst [.int (size - 1), .int 999999, .int count]) = H2 at t2 h2
              refine ⟨rfl, _, rfl, _, rfl, marksOf wd, _, cc, rfl, rfl, hms, by rw [Int.zero_add]; exact ha, _, _, j, r, rfl, rfl, ho, ?_⟩
              refine ⟨p2, _, _, _, rfl, rfl, SqL.of h2, at_ints (ns := [size - 1, 999999, count]) (by omega) (by show (j : Int) < 3; omega), ?_⟩
              have hlast : ([size - 1, 999999, count] : List Int).getD j 0 = lastOf size count (l.getD k Str.empty) := by
                have hkl : k < l.length := by omega
                obtain ⟨kb, kn⟩ := hmk k hkl
                have hcl : k < (marksOf wd).cps.toList.length := by simpa [Str.length] using hk
                have ecc : (marksOf wd).cps.toList.getD k 0 = cc := by
                  have h5 : atI (marksOf wd).cps.toList (k : Int) = some (marksOf wd).cps.toList[k] := at_in (by omega) (by rw [Int.toNat_natCast]; exact List.getElem?_eq_getElem hcl)
                  rw [h5] at ha
                  rw [List.getD_eq_getElem?_getD, List.getElem?_eq_getElem hcl]
                  exact Option.some.inj ha
                rw [ecc] at kb kn
                have : j = 0 ∨ j = 1 ∨ j = 2 := by omega
                unfold lastOf
                rcases this with rfl | rfl | rfl
                · rw [if_pos (kb.mp (j0.mp rfl))]; rfl
                · rw [if_neg (fun e => by have := j0.mpr (kb.mpr e); omega), if_pos (kn.mp (j1.mp rfl))]; rfl
                · rw [if_neg (fun e => by have := j0.mpr (kb.mpr e); omega), if_neg (fun e => by have := j1.mpr (kn.mpr e); omega)]; rfl
              rw [show (((j : Nat) : Int)).toNat = j from rfl, hlast]
              have hkv : k < vs1.length := by omega
              obtain ⟨dk, edk, hdk⟩ := dpA_get a2 (List.getElem?_eq_getElem hkv)
              have hdk2 := dp_same (s1.trans t2) _ _ hdk
              have hat : atI (V.str wd :: vs1) (1 + (0 + (k : Int))) = some vs1[k] := by
                refine at_in (by omega) ?_
                rw [show (1 + (0 + (k : Int))).toNat = k + 1 by omega, List.getElem?_cons_succ]
                exact List.getElem?_eq_getElem hkv
              have egd : ds1.getD k .none = dk := by rw [List.getD_eq_getElem?_getD, edk]; rfl
              have hbad : wholeIn dk 0 (lastOf size count (l.getD k Str.empty)) = false → Q (.bl false) H2 := fun e => by
                have q2 := q _ (s1.trans t2)
                rw [fitK_bad (k := k) (by omega) (by rw [egd]; exact e)] at q2
                exact q2
              have hgood : wholeIn dk 0 (lastOf size count (l.getD k Str.empty)) = true → ∀ i, i < k + 1 → wholeIn (ds1.getD i .none) 0 (lastOf size count (l.getD i Str.empty)) = true := fun e i hi => by
                by_cases h : i < k
                · exact hall i h
                · have : i = k := by omega
                  rw [this, egd]
                  exact e
              refine ⟨_, rfl, _, rfl, _, _, rfl, rfl, _, _, _, _, rfl, rfl, (s1.trans t2).sqt hq, hat, _, _, rfl, dp_ty hdk2, kit_int _, kit_bool _, _, rfl, ?_⟩
              generalize vs1[k] = vk at hat hdk2
              cases hdk2 with
              | int n =>
                refine ⟨_, rfl, _, rfl, _, _, rfl, rfl, _, _, _, _, rfl, rfl, (s1.trans t2).sqt hq, hat, _, _, rfl, rfl, ?_⟩
                have hw : wholeIn (.int n) 0 (lastOf size count (l.getD k Str.empty)) = (decide (0 ≤ n) && decide (n ≤ lastOf size count (l.getD k Str.empty))) := rfl
                by_cases h0 : 0 ≤ n
                case neg =>
                  rw [decide_eq_false h0, Bool.false_and] at hw
                  exact ⟨false, bl_of (decide_eq_false h0), _, rfl, hbad hw⟩
                refine ⟨true, bl_of (decide_eq_true h0), _, rfl, _, _, rfl, rfl, ?_⟩
                by_cases h1 : n ≤ lastOf size count (l.getD k Str.empty)
                case neg =>
                  rw [decide_eq_false h1, Bool.and_false] at hw
                  exact ⟨false, bl_of (decide_eq_false h1), hbad hw⟩
                rw [decide_eq_true h0, decide_eq_true h1] at hw
                exact ⟨true, bl_of (decide_eq_true h1), _, _, rfl, t2, hgood hw⟩
              | _ => exact hbad rfl
            · subst eσ
              have hf : fitK size count l ds1 = true := by
                unfold fitK
                exact List.all_eq_true.mpr fun j hj => hall j (by have := List.mem_range.mp hj; omega)
              have q2 := q _ (s1.trans t1)
              rw [hf] at q2
              exact q2
        | _ => exact q0
    | _ => exact q0

-- SPLIT
/-- of data, those that are not good -/
theorem filt_dp {H : Hp} (g : PyData → Bool) : ∀ {xs : List V} {ds : List PyData}, DpAll K H xs ds → DpAll K H ((xs.zip ds).filterMap fun p => if g p.2 = true then none else some p.1) (ds.filter fun d => !g d)
  | _, _, .nil => .nil
  | _, _, .cons (d := d) h t => by
    have ih := filt_dp g t
    rw [List.zip_cons_cons, List.filterMap_cons, List.filter_cons]
    cases e : g d with
    | true =>
      rw [if_pos rfl]
      exact ih
    | false => exact .cons h ih
theorem eqv_filt (g : PyData → Bool) (ds : List PyData) : PyData.eqv (.list (ds.filter fun d => !g d)) (.list []) = ds.all g := by
  cases e : ds.filter (fun d => !g d) with
  | nil =>
    have : ds.all g = true := List.all_eq_true.mpr fun d hd => by
      have := List.filter_eq_nil_iff.mp e d hd
      simpa using this
    rw [this]
    rfl
  | cons d l =>
    have hd : d ∈ ds.filter (fun d => !g d) := by rw [e]; exact List.mem_cons_self
    have hd := List.mem_filter.mp hd
    have : ds.all g = false := Bool.eq_false_iff.mpr fun h => by
      have h1 := List.all_eq_true.mp h d hd.1
      have h2 := hd.2
      rw [h1] at h2
      cases h2
    rw [this]
    rfl
theorem zip_fm (xs : List V) (ds : List PyData) (g : PyData → Bool) (h : xs.length = ds.length) : (List.range xs.length).filterMap (fun i => ((xs.zip ds)[i]?).bind fun p => if g p.2 = true then none else some p.1) = (xs.zip ds).filterMap fun p => if g p.2 = true then none else some p.1 := by
  have hl : xs.length = (xs.zip ds).length := by rw [List.length_zip, ← h, Nat.min_self]
  rw [hl, range_fm]
theorem zip_at {xs : List V} {ds : List PyData} {i : Nat} {x : V} {d : PyData} (g : PyData → Bool) (ex : xs[i]? = some x) (ed : ds[i]? = some d) : (((xs.zip ds)[i]?).bind fun p => if g p.2 = true then none else some p.1) = if g d = true then none else some x := by
  have : (xs.zip ds)[i]? = some (x, d) := by
    rw [List.getElem?_zip_eq_some]
    exact ⟨ex, ed⟩
  rw [this]
  rfl

def spBoxesBy (K : PySem.W.Frag) : Sp := fun vs H Q _ => ∃ (a : Addr) (ns : List Int), vs = [.ref a] ∧ SqL K H a (ns.map V.int) ∧ ∀ H' p xs ds, Same H H' → H p = none → H' p = some (.lst xs) → DpAll K H' xs ds → (∀ d ∈ ds, okD 1 d) → xs.length ≤ 201 → Q (.ref p) H'
abbrev s__law_boxes_by : Stmt := top 37
abbrev N__law_boxes_by : List Str := ["_law_script", "_law_first", "_law_boxes", "_law_k"]
theorem S__law_boxes_by : FnScope N__law_boxes_by ["_law_script"] (defScope s__law_boxes_by) := ⟨rfl, rfl, rfl, by decide +kernel, rfl, by decide +kernel, by decide +kernel⟩

theorem c_boxes_by (T : Txt K w mg) (D : DefAt K "_law_boxes_by" s__law_boxes_by) (C__law_cell_at : Cal P w K mg base CX0 1 "_law_cell_at" (spCellAt K)) : Cal P w K mg base CX0 2 "_law_boxes_by" (spBoxesBy K) := by
  have S := S__law_boxes_by
  refine cal_of T.toTop D S (fun _ _ _ _ _ _ us hl => match us, hl with | [_], _ => rfl) (fun vs H Q E h => ?_) (fun f cdv A outer s H vs Q E hr h => ?_)
  · obtain ⟨a, ns, rfl, _⟩ := h
    rfl
  · obtain ⟨a, ns, rfl, hS, q⟩ := h
    refine ⟨_, (pss_cons (ps_set (i := 1) S.nd rfl (Or.inr rfl) (pe_c C__law_cell_at hr (by decide) rfl (pa_cons (pv 0) (pa_cons pe_int pa_nil))))
  (pss_cons (ps_setLc (i := 2) (own := [("_law_k", 3)]) (g := gName 3) (tt := tYes) rfl S.nd rfl rfl (sw_true rfl rfl rfl (by decide +kernel)) (pi_range1 rfl T.range (pa_cons (pe_ix ix_list (pe_lst (pa_cons (pe_op op_mod (pe_op op_fdiv (pv 1) pe_int) pe_int) (pa_cons (pe_op op_mod (pe_op op_fdiv (pv 1) pe_int) pe_int) (pa_cons pe_int (pa_cons pe_int pa_nil))))) (pe_op op_mod (pv 1) pe_int) (fun _ _ => rfl)) pa_nil)) (blkOk_by (own := [("_law_k", 3)]) (N := N__law_boxes_by) (sc := defScope s__law_boxes_by) (by decide +kernel)) (fun _ _ _ _ _ => pg_name (i := 3) S.nd rfl (Or.inl rfl)) (fun _ _ _ _ _ => pts_nil) (fun _ _ _ _ _ => (pe_op op_add (pe_op op_mul (pv 3) pe_int) (pe_op op_mod (pv 1) pe_int))))
  (pss_cons (ps_if (PW.pt (pw_and (pt_cmpR op_gt (pe_callB call_len_seq (by rfl) T.len PySem.boot_len (pa_cons (pv 2) pa_nil)) pe_int (nomark _)) (pw_and1 (pt_cmpR op_eq (pe_op op_mod (pe_op op_fdiv (pv 1) pe_int) pe_int) pe_int (nomark _))))) (pss_one (ps_asg (pe_ix ix_list (pe_lst (pa_cons (pe_op op_sub pe_int pe_int) (pa_cons pe_int (pa_cons pe_bl (pa_cons pe_str (pa_cons pe_int (pa_cons pe_int (pa_cons pe_non (pa_cons (pe_lst (pa_cons pe_int pa_nil)) pa_nil))))))))) (pe_op op_mod (pe_c C__law_cell_at hr (by decide) rfl (pa_cons (pv 0) (pa_cons pe_int pa_nil))) pe_int) (fun _ _ => rfl)) (pg_sub (pv 2) (pe_op op_mod (pe_op op_fdiv (pv 1) pe_int) (pe_callB call_len_seq (by rfl) T.len PySem.boot_len (pa_cons (pv 2) pa_nil))) set_list))) pss_nil)
  (pss_one (ps_ret (pv 2)))))), ?_⟩
    refine ⟨_, rfl, a, ns, 0, rfl, hS, by decide, ?_⟩
    generalize cellAt ns 0 = c
    refine ⟨_, rfl, _, _, rfl, rfl, ⟨by decide, by decide⟩, _, _, rfl, rfl, (by show (0 : Int) < 4; decide), ?_⟩
    refine ⟨_, rfl, _, _, rfl, rfl, ⟨by decide, by decide⟩, _, _, rfl, rfl, (by show (0 : Int) < 4; decide), sz_ok rfl, fun p1 n1 => ?_⟩
    generalize e1 : upd H p1 _ = H1
    have t1 : Same H H1 := e1 ▸ Same.new n1
    have g1 : H1 p1 = some (.lst (([c / 8 % 4, c / 8 % 4, 200, 201] : List Int).map V.int)) := e1 ▸ upd_same
    clear e1
    obtain ⟨N, hN, hN1⟩ : ∃ m : Nat, ([c / 8 % 4, c / 8 % 4, 200, 201] : List Int).getD (c % 4).toNat 0 = (m : Nat) ∧ m ≤ 201 := by
      have h : (c % 4).toNat = 0 ∨ (c % 4).toNat = 1 ∨ (c % 4).toNat = 2 ∨ (c % 4).toNat = 3 := by omega
      rcases h with h | h | h | h <;> rw [h]
      · exact ⟨(c / 8 % 4).toNat, (Int.toNat_of_nonneg (show (0 : Int) ≤ c / 8 % 4 by omega)).symm, by omega⟩
      · exact ⟨(c / 8 % 4).toNat, (Int.toNat_of_nonneg (show (0 : Int) ≤ c / 8 % 4 by omega)).symm, by omega⟩
      · exact ⟨200, rfl, by decide⟩
      · exact ⟨201, rfl, by decide⟩
    refine ⟨_, rfl, _, _, rfl, rfl, (by show (0 : Int) < 4; decide), p1, _, _, _, rfl, rfl, SqL.of g1, at_ints_mod (ns := [c / 8 % 4, c / 8 % 4, 200, 201]) c (by decide) rfl, ?_⟩
    rw [hN]
    refine ⟨_, rfl, by omega, by omega, fun p np => lc_fr (n := N) (fun i => some (.int ((0 + (i : Int)) * 7 + c % 5))) np (small1000 (by omega)) (fun i H' hi s k1 k0 h1 h0 => ?_) (fun H2 t2 g2 => ?_)⟩
    · refine ⟨rfl, _, rfl, _, _, rfl, rfl, .inl ⟨by omega, by omega⟩, _, rfl, _, _, rfl, rfl, (by show (0 : Int) < 5; decide), _, _, rfl, rfl, h1 _ _ rfl (Same.refl _)⟩
    rw [fm_some, show (fun i : Nat => V.int ((0 + (i : Int)) * 7 + c % 5)) = V.int ∘ (fun i : Nat => (0 + (i : Int)) * 7 + c % 5) from rfl, ← List.map_map] at g2
    have hbl : ((List.range N).map (fun i : Nat => (0 + (i : Int)) * 7 + c % 5)).length = N := by rw [List.length_map, List.length_range]
    generalize (List.range N).map (fun i : Nat => (0 + (i : Int)) * 7 + c % 5) = bs at g2 hbl
    subst hbl
    have t02 := t1.trans t2
    have np0 : H p = none := t1.free np
    refine ⟨_, rfl, p, _, rfl, .inl (SqL.of g2), _, _, rfl, rfl, ?_⟩
    rw [List.length_map]
    have fin : Q (.ref p) H2 := q H2 p _ _ t02 np0 g2 (dpA_int bs) (fun d hd => okD.ints bs d hd) (by rw [List.length_map]; exact hN1)
    by_cases h0 : (0 : Int) < (bs.length : Nat)
    case neg => exact ⟨false, bl_of (decide_eq_false h0), _, rfl, fin⟩
    refine ⟨true, bl_of (decide_eq_true h0), ?_⟩
    refine ⟨_, rfl, _, _, rfl, rfl, ⟨by decide, by decide⟩, _, _, rfl, rfl, (by show (0 : Int) < 2; decide), rfl, ?_⟩
    by_cases h1 : c / 4 % 2 = 1
    case neg => exact ⟨false, bl_of (decide_eq_false fun z => h1 (V.int.inj z)), _, rfl, fin⟩
    refine ⟨true, bl_of (decide_eq_true (congrArg V.int h1)), ?_⟩
    refine ⟨_, _, rfl, rfl, sz_ok rfl, fun p3 n3 => ?_⟩
    generalize e3 : upd H2 p3 _ = H3
    have t3 : Same H2 H3 := e3 ▸ Same.new n3
    have g3 : H3 p3 = some (.lst (([3] : List Int).map V.int)) := e3 ▸ upd_same
    clear e3
    refine ⟨sz_ok rfl, fun p4 n4 => ?_⟩
    generalize e4 : upd H3 p4 _ = H4
    have t4 : Same H3 H4 := e4 ▸ Same.new n4
    have g4 : H4 p4 = some (.lst [.int (-1), .int 1000000, .bl true, .str "1", .int 999999, .int 0, .non, .ref p3]) := e4 ▸ upd_same
    clear e4
    have s4 := (t02.trans t3).trans t4
    have gp4 := (t3.trans t4) _ _ g2
    have g34 := t4 _ _ g3
    have pne : p ≠ p3 := ne_of_none g2 n3
    refine ⟨_, rfl, a, ns, 1, rfl, s4.seq hS, by decide, ?_⟩
    generalize cellAt ns 1 = c2
    obtain ⟨v, d, hv, hdok, hdp⟩ : ∃ (v : V) (d : PyData), atI [V.int (-1), .int 1000000, .bl true, .str "1", .int 999999, .int 0, .non, .ref p3] (c2 % 8) = some v ∧ okD 1 d ∧ ∀ H', H' p3 = some (.lst (([3] : List Int).map V.int)) → Dp K H' v d := by
      have h : c2 % 8 = 0 ∨ c2 % 8 = 1 ∨ c2 % 8 = 2 ∨ c2 % 8 = 3 ∨ c2 % 8 = 4 ∨ c2 % 8 = 5 ∨ c2 % 8 = 6 ∨ c2 % 8 = 7 := by omega
      rcases h with h | h | h | h | h | h | h | h <;> rw [h]
      · exact ⟨_, _, rfl, .int _ _, fun _ _ => .int _⟩
      · exact ⟨_, _, rfl, .int _ _, fun _ _ => .int _⟩
      · exact ⟨_, _, rfl, .bl _ _, fun _ _ => .bl _⟩
      · exact ⟨_, _, rfl, .str _ (by decide +kernel), fun _ _ => .str _⟩
      · exact ⟨_, _, rfl, .int _ _, fun _ _ => .int _⟩
      · exact ⟨_, _, rfl, .int _ _, fun _ _ => .int _⟩
      · exact ⟨_, _, rfl, .non _, fun _ _ => .non⟩
      · exact ⟨_, _, rfl, .lst (okD.ints (n := 0) [3]), fun _ e => .lst (SqL.of e) (dpA_int _)⟩
    have hm : 0 ≤ c / 32 % (bs.length : Nat) ∧ c / 32 % (bs.length : Nat) < (bs.length : Nat) := ⟨mod_nn _ h0, mod_lt _ h0⟩
    refine ⟨_, _, rfl, rfl, (by show (0 : Int) < 8; decide), p4, _, _, _, rfl, rfl, SqL.of g4, hv, ?_⟩
    refine ⟨_, rfl, _, rfl, _, _, rfl, rfl, ⟨by decide, by decide⟩, _, rfl, p, _, rfl, .inl (SqL.of gp4), _, _, rfl, rfl, (by rw [List.length_map]; exact h0), ?_⟩
    rw [List.length_map]
    refine ⟨p, _, _, (c / 32 % (bs.length : Nat)).toNat, rfl, rfl, gp4, ?_, ?_⟩
    · unfold ixN
      rw [List.length_map, if_pos hm.1, if_pos (by omega)]
    refine ⟨_, rfl, q _ p _ _ (s4.mut np0) np0 upd_same (dpA_set (hdp _ ((upd_ne pne.symm).trans g34)) (dpA_int bs)) (fun d' hd' => ?_) (by rw [List.length_set, List.length_map]; exact hN1)⟩
    rcases List.mem_or_eq_of_mem_set hd' with h | h
    · exact okD.ints bs d' h
    · rw [h]
      exact hdok
def spGoodBoxes (K : PySem.W.Frag) : Sp := fun vs H Q _ => ∃ (p : Addr) (xs : List V) (ds : List PyData), vs = [.ref p] ∧ H p = some (.lst xs) ∧ DpAll K H xs ds ∧ (∀ d ∈ ds, okD 1 d) ∧ xs.length ≤ 201 ∧ ∀ H', Same H H' → Q (.bl (goodB ds)) H'
abbrev s__law_good_boxes : Stmt := top 44
abbrev N__law_good_boxes : List Str := ["_law_boxes", "_law_number"]
theorem S__law_good_boxes : FnScope N__law_good_boxes ["_law_boxes"] (defScope s__law_good_boxes) := ⟨rfl, rfl, rfl, by decide +kernel, rfl, by decide +kernel, by decide +kernel⟩

theorem c_good_boxes (T : Txt K w mg) (D : DefAt K "_law_good_boxes" s__law_good_boxes) (C__law_whole : Cal P w K mg base CX0 1 "_law_whole" (spWhole K)) : Cal P w K mg base CX0 2 "_law_good_boxes" (spGoodBoxes K) := by
  have S := S__law_good_boxes
  refine cal_of T.toTop D S (fun _ _ _ _ _ _ us hl => match us, hl with | [_], _ => rfl) (fun vs H Q E h => ?_) (fun f cdv A outer s H vs Q E hr h => ?_)
  · obtain ⟨p, xs, ds, rfl, _⟩ := h
    rfl
  · obtain ⟨p, xs, ds, rfl, gp, hd, hok, hl, q⟩ := h
    have hu64 := hu64_of hr
    refine ⟨_, (pss_cons (ps_if (pt_not (pt_chain op_le op_le pe_int (pe_callB call_len_seq (by rfl) T.len PySem.boot_len (pa_cons (pv 0) pa_nil)) pe_int)) (pss_one (ps_ret pe_bl)) pss_nil)
  (pss_one (ps_ret (pe_cmpR (op_eqD hu64) (pe_lc (own := [("_law_number", 1)]) (g := gName 1)  rfl S.nd (pi_list (pv 0)) (blkOk_by (own := [("_law_number", 1)]) (N := N__law_good_boxes) (sc := defScope s__law_good_boxes) (by decide +kernel)) (fun _ _ _ _ _ => pg_name (i := 1) S.nd rfl (Or.inl rfl)) (fun _ _ _ _ _ => pts_one (PW.pt (pw_or (pt_not (pt_val (pe_c C__law_whole hr (by decide) rfl (pa_cons (pv 1) pa_nil)))) (pw_or1 (pt_not (pt_chain op_le op_le pe_int (pv 1) pe_int)))))) (fun _ _ _ _ _ => (pv 1))) (pe_lst pa_nil) (nomark _))))), ?_⟩
    have hlen := dpA_len hd
    refine ⟨_, rfl, p, xs, rfl, .inl (SqL.of gp), _, _, rfl, rfl, ?_⟩
    by_cases h1 : 1 ≤ xs.length
    case neg =>
      have hb : goodB ds = false := by
        unfold goodB
        rw [decide_eq_false (by omega : ¬ 1 ≤ ds.length), Bool.false_and]
      rw [hb] at q
      exact ⟨false, bl_of (decide_eq_false (by omega)), _, rfl, q _ (Same.refl _)⟩
    refine ⟨true, bl_of (decide_eq_true (by omega)), _, _, rfl, rfl, ?_⟩
    by_cases h2 : xs.length ≤ 200
    case neg =>
      have hb : goodB ds = false := by
        unfold goodB
        rw [decide_eq_false (by omega : ¬ ds.length ≤ 200), Bool.false_and, Bool.and_false]
      rw [hb] at q
      exact ⟨false, bl_of (decide_eq_false (by omega)), q _ (Same.refl _)⟩
    refine ⟨true, bl_of (decide_eq_true (by omega)), ?_⟩
    refine ⟨_, rfl, p, rfl, ⟨_, SqL.of gp⟩, fun pl npl => lc_fi (fun i => ((xs.zip ds)[i]?).bind fun p => if wholeIn p.2 0 999999 = true then none else some p.1) npl (SqL.of gp) (small1000 (by omega)) (fun i x H' ex s k1 k0 g1 g0 => ?_) (fun H2 t2 g2 => ?_)⟩
    · obtain ⟨d, ed, hdd⟩ := dpA_get hd ex
      have hdd := dp_same s _ _ hdd
      rw [zip_at (fun d => wholeIn d 0 999999) ex ed] at g1 g0
      obtain ⟨n, ty, k1', k2', hn, hn2⟩ := any_dp hdd
      refine ⟨rfl, _, rfl, x, n, rfl, ty, k1', k2', _, rfl, ?_⟩
      by_cases e : n = "int"
      · obtain ⟨j, rfl⟩ := hn e
        cases hdd
        refine (if_neg (by rw [decide_eq_true e]; decide)).mpr ?_
        refine ⟨_, rfl, _, _, rfl, rfl, ?_⟩
        by_cases a1 : 0 ≤ j
        · refine ⟨true, bl_of (decide_eq_true a1), _, _, rfl, rfl, ?_⟩
          by_cases a2 : j ≤ 999999
          · have ew : wholeIn (.int j) 0 999999 = true := by
              show (decide (0 ≤ j) && decide (j ≤ 999999)) = true
              rw [decide_eq_true a1, decide_eq_true a2]
              rfl
            exact ⟨true, bl_of (decide_eq_true a2), g0 _ (if_pos ew) (Same.refl _)⟩
          · have ew : ¬ wholeIn (.int j) 0 999999 = true := by
              show ¬ (decide (0 ≤ j) && decide (j ≤ 999999)) = true
              rw [decide_eq_false a2, Bool.and_false]
              decide
            exact ⟨false, bl_of (decide_eq_false a2), _, rfl, g1 _ _ (if_neg ew) (Same.refl _)⟩
        · have ew : ¬ wholeIn (.int j) 0 999999 = true := by
            show ¬ (decide (0 ≤ j) && decide (j ≤ 999999)) = true
            rw [decide_eq_false a1, Bool.false_and]
            decide
          exact ⟨false, bl_of (decide_eq_false a1), _, rfl, _, rfl, g1 _ _ (if_neg ew) (Same.refl _)⟩
      · have ew : ¬ wholeIn d 0 999999 = true := fun z => by
          cases hdd with
          | int j => exact e (hn2 j rfl)
          | _ => cases z
        refine (if_pos (by rw [decide_eq_false e]; rfl)).mpr ?_
        exact ⟨_, rfl, g1 _ _ (if_neg ew) (Same.refl _)⟩
    · rw [zip_fm xs ds (fun d => wholeIn d 0 999999) hlen] at g2
      refine ⟨sz_ok rfl, fun p3 n3 => ?_⟩
      have t3 : Same H2 (upd H2 p3 (.lst [])) := Same.new n3
      have hsh : SeqAt.shaped (.list (ds.filter fun d => !wholeIn d 0 999999)) = true := (okD.lst (n := 1) fun d hd => hok d (List.mem_filter.mp hd).1).shaped (by decide)
      refine ⟨_, _, .lst (SqL.of (t3 _ _ g2)) (filt_dp (fun d => wholeIn d 0 999999) (dpAll_same (t2.trans t3) _ _ hd)), .lst (SqL.of upd_same) .nil, hsh, rfl, ?_⟩
      have hb : goodB ds = PyData.eqv (.list (ds.filter fun d => !wholeIn d 0 999999)) (.list []) := by
        rw [eqv_filt]
        unfold goodB
        rw [decide_eq_true (by omega : 1 ≤ ds.length), decide_eq_true (by omega : ds.length ≤ 200), Bool.true_and, Bool.true_and]
      rw [← hb]
      exact q _ (t2.trans t3)

-- SPLIT
def rowT (c size : Int) (j : Nat) : List V := [.str "tell", .int ((c + (0 + (j : Int))) % size)]
def dsT (c size : Int) (n : Nat) : List PyData := (List.range n).map fun j => .tuple ((rowT c size j).map dOf)
theorem dsT_ok {c size : Int} {n : Nat} : ∀ d ∈ dsT c size n, okD 2 d := fun d hd => by
  obtain ⟨j, _, rfl⟩ := List.mem_map.mp hd
  exact ⟨(by show (PyData.strOk "tell" && (true && true)) = true; decide +kernel), (by show max 0 (max 0 0) + 1 ≤ 2; decide)⟩
theorem dsT_len (c size : Int) (n : Nat) : (dsT c size n).length = n := by
  unfold dsT
  rw [List.length_map, List.length_range]
def spRowsBy (K : PySem.W.Frag) : Sp := fun vs H Q _ => ∃ (a : Addr) (ns : List Int) (size : Int), vs = [.ref a, .int size] ∧ SqL K H a (ns.map V.int) ∧ 1 ≤ size ∧ ∀ H' p xs ds, Same H H' → H p = none → H' p = some (.lst xs) → DpAll K H' xs ds → (∀ d ∈ ds, okD 2 d) → xs.length ≤ 201 → Q (.ref p) H'
abbrev s__law_rows_by : Stmt := top 43
abbrev N__law_rows_by : List Str := ["_law_script", "_law_size", "_law_cell", "_law_count", "_law_rows", "_law_k"]
theorem S__law_rows_by : FnScope N__law_rows_by ["_law_script", "_law_size"] (defScope s__law_rows_by) := ⟨rfl, rfl, rfl, by decide +kernel, rfl, by decide +kernel, by decide +kernel⟩

theorem c_rows_by (T : Txt K w mg) (D : DefAt K "_law_rows_by" s__law_rows_by) (C__law_cell_at : Cal P w K mg base CX0 1 "_law_cell_at" (spCellAt K)) (C__law_thing_by : Cal P w K mg base CX0 3 "_law_thing_by" (spThingBy K)) : Cal P w K mg base CX0 4 "_law_rows_by" (spRowsBy K) := by
  have S := S__law_rows_by
  refine cal_of T.toTop D S (fun _ _ _ _ _ _ us hl => match us, hl with | [_, _], _ => rfl) (fun vs H Q E h => ?_) (fun f cdv A outer s H vs Q E hr h => ?_)
  · obtain ⟨a, ns, size, rfl, _⟩ := h
    rfl
  · obtain ⟨a, ns, size, rfl, hS, hs1, q⟩ := h
    refine ⟨_, (pss_cons (ps_set (i := 2) S.nd rfl (Or.inr rfl) (pe_c C__law_cell_at hr (by decide) rfl (pa_cons (pv 0) (pa_cons pe_int pa_nil))))
  (pss_cons (ps_set (i := 3) S.nd rfl (Or.inl rfl) (pe_ix ix_list (pe_lst (pa_cons (pe_op op_add pe_int (pe_op op_mod (pv 2) pe_int)) (pa_cons pe_int (pa_cons pe_int pa_nil)))) (pe_ix ix_list (pe_lst (pa_cons pe_int (pa_cons pe_int (pa_cons pe_int (pa_cons pe_int (pa_cons pe_int (pa_cons pe_int (pa_cons pe_int (pa_cons pe_int pa_nil))))))))) (pe_op op_mod (pe_op op_fdiv (pv 2) pe_int) pe_int) (fun _ _ => rfl)) (fun _ _ => rfl)))
  (pss_cons (ps_setLc (i := 4) (own := [("_law_k", 5)]) (g := gName 5) (tt := tYes) rfl S.nd rfl rfl (sw_true rfl rfl rfl (by decide +kernel)) (pi_range1 rfl T.range (pa_cons (pv 3) pa_nil)) (blkOk_by (own := [("_law_k", 5)]) (N := N__law_rows_by) (sc := defScope s__law_rows_by) (by decide +kernel)) (fun _ _ _ _ _ => pg_name (i := 5) S.nd rfl (Or.inl rfl)) (fun _ _ _ _ _ => pts_nil) (fun _ _ _ _ _ => (pe_tup (pa_cons pe_str (pa_cons (pe_op op_mod (pe_op op_add (pv 2) (pv 5)) (pv 1)) pa_nil)))))
  (pss_cons (ps_if (pt_cmpR op_gt (pe_op op_mod (pe_op op_fdiv (pv 2) pe_int) pe_int) pe_int (nomark _)) (pss_one (ps_asg (pe_c C__law_thing_by hr (by decide) rfl (pa_cons (pe_slice sl_list (pv 0) (po_some pe_int) po_none) (pa_cons (pv 1) (pa_cons (pv 3) pa_nil)))) (pg_sub (pv 4) (pe_op op_mod (pe_op op_fdiv (pv 2) pe_int) (pv 3)) set_list))) pss_nil)
  (pss_one (ps_ret (pv 4))))))), ?_⟩
    refine ⟨_, rfl, a, ns, 2, rfl, hS, by decide, ?_⟩
    generalize cellAt ns 2 = c
    refine ⟨_, rfl, _, _, rfl, rfl, (by show (0 : Int) < 5; decide), _, _, rfl, rfl, sz_ok rfl, fun p1 n1 => ?_⟩
    generalize e1 : upd H p1 _ = H1
    have t1 : Same H H1 := e1 ▸ Same.new n1
    have g1 : H1 p1 = some (.lst (([1 + c % 5, 200, 201] : List Int).map V.int)) := e1 ▸ upd_same
    clear e1
    refine ⟨sz_ok rfl, fun p2 n2 => ?_⟩
    generalize e2 : upd H1 p2 _ = H2
    have t2 : Same H1 H2 := e2 ▸ Same.new n2
    have g2 : H2 p2 = some (.lst (([0, 0, 0, 0, 0, 0, 1, 2] : List Int).map V.int)) := e2 ▸ upd_same
    clear e2
    have hix : 0 ≤ ([0, 0, 0, 0, 0, 0, 1, 2] : List Int).getD (c / 5 % 8).toNat 0 ∧ ([0, 0, 0, 0, 0, 0, 1, 2] : List Int).getD (c / 5 % 8).toNat 0 < 3 := by
      have h : (c / 5 % 8).toNat < 8 := by omega
      generalize (c / 5 % 8).toNat = m at h
      have : ∀ m : Nat, m < 8 → 0 ≤ ([0, 0, 0, 0, 0, 0, 1, 2] : List Int).getD m 0 ∧ ([0, 0, 0, 0, 0, 0, 1, 2] : List Int).getD m 0 < 3 := by decide
      exact this m h
    refine ⟨_, rfl, _, _, rfl, rfl, ⟨by decide, by decide⟩, _, _, rfl, rfl, (by show (0 : Int) < 8; decide), p2, _, _, _, rfl, rfl, SqL.of g2, at_ints_mod (ns := [0, 0, 0, 0, 0, 0, 1, 2]) (c / 5) (by decide) rfl, ?_⟩
    generalize ([0, 0, 0, 0, 0, 0, 1, 2] : List Int).getD (c / 5 % 8).toNat 0 = ix at hix
    obtain ⟨N, hN, hN0, hN1⟩ : ∃ m : Nat, ([1 + c % 5, 200, 201] : List Int).getD ix.toNat 0 = (m : Nat) ∧ 1 ≤ m ∧ m ≤ 201 := by
      have h : ix.toNat = 0 ∨ ix.toNat = 1 ∨ ix.toNat = 2 := by omega
      rcases h with h | h | h <;> rw [h]
      · exact ⟨(1 + c % 5).toNat, (Int.toNat_of_nonneg (show (0 : Int) ≤ 1 + c % 5 by omega)).symm, by omega, by omega⟩
      · exact ⟨200, rfl, by decide, by decide⟩
      · exact ⟨201, rfl, by decide, by decide⟩
    refine ⟨p1, _, _, _, rfl, rfl, SqL.of (t2 _ _ g1), at_ints (ns := [1 + c % 5, 200, 201]) hix.1 hix.2, ?_⟩
    rw [hN]
    have hpos : 0 < size := by omega
    refine ⟨_, rfl, _, rfl, by omega, by omega, fun p np => lc_tr (n := N) (rowT c size) np (small1000 (by omega)) (fun i H' hi s7 k1 k0 h1 => ?_) (fun H6 acc s7 h6 hl hacc => ?_)⟩
    · refine ⟨rfl, _, rfl, _, rfl, _, _, rfl, rfl, _, rfl, _, _, rfl, rfl, hpos, sz_ok rfl, fun q' nq => h1 q' _ ?_ (Same.new nq)⟩
      rw [upd_same]
      rfl
    have t26 := (t1.trans t2).trans s7
    have np0 : H p = none := (t1.trans t2).free np
    have hda : ∀ H' : Hp, (∀ q u, H6 q = some (.tup u) → H' q = some (.tup u)) → DpAll K H' acc (dsT c size N) := fun H' hh => dpA_by (by rw [hl, dsT_len]) fun j v' e => by
      have hj : j < N := by
        obtain ⟨hj, _⟩ := List.getElem?_eq_some_iff.mp e
        omega
      obtain ⟨q, e1, e2⟩ := hacc j hj
      rw [e1] at e
      cases e
      refine ⟨.tuple ((rowT c size j).map dOf), ?_, .tup (SqT.of (hh _ _ e2)) (dpAll_flat2 rfl)⟩
      unfold dsT
      rw [List.getElem?_map, List.getElem?_range hj]
      rfl
    refine ⟨_, rfl, _, _, rfl, rfl, ⟨by decide, by decide⟩, _, _, rfl, rfl, (by show (0 : Int) < 3; decide), _, _, rfl, rfl, ?_⟩
    by_cases h7 : 0 < c / 40 % 3
    case neg => exact ⟨false, bl_of (decide_eq_false h7), _, rfl, q H6 p _ _ t26 np0 h6 (hda _ fun _ _ h => h) dsT_ok (by omega)⟩
    refine ⟨true, bl_of (decide_eq_true h7), ?_⟩
    obtain ⟨cs, ecs, hcl⟩ := cutV_int ns (some 4) none
    refine ⟨_, rfl, _, rfl, a, _, rfl, t26.seq hS, fun pc npc => ?_⟩
    rw [ecs]
    generalize e8 : upd H6 pc _ = H8
    have t8 : Same H6 H8 := e8 ▸ Same.new npc
    have g8 : H8 pc = some (.lst (cs.map V.int)) := e8 ▸ upd_same
    clear e8
    refine ⟨_, rfl, _, rfl, pc, cs, size, (N : Nat), rfl, SqL.of g8, hs1, by omega, fun v d H9 t9 hd hok => ?_⟩
    have t69 := t8.trans t9
    have gp9 := t69 _ _ h6
    have h0 : (0 : Int) < (N : Nat) := by omega
    have hm : 0 ≤ c / 120 % (N : Nat) ∧ c / 120 % (N : Nat) < (N : Nat) := ⟨mod_nn _ h0, mod_lt _ h0⟩
    have hd2 : Dp K (upd H9 p (.lst (acc.set (c / 120 % (N : Nat)).toNat v))) v d := dp_same (fun q' o e => by
      obtain ⟨e1, e2⟩ := nw_of e
      rw [upd_ne fun z => by rw [z, t8 _ _ h6] at e1; cases e1]
      exact e2) _ _ hd
    refine ⟨_, rfl, _, rfl, _, _, rfl, rfl, ⟨by decide, by decide⟩, _, rfl, _, _, rfl, rfl, h0, p, _, _, (c / 120 % (N : Nat)).toNat, rfl, rfl, gp9, ?_, ?_⟩
    · unfold ixN
      rw [hl, if_pos hm.1, if_pos (by omega)]
    refine ⟨_, rfl, q _ p _ _ ((t26.trans t69).mut np0) np0 upd_same (dpA_set hd2 (hda _ fun q' u e => ?_)) (fun e he => ?_) (by rw [List.length_set]; omega)⟩
    · rw [upd_ne fun z => by rw [z, h6] at e; cases e]
      exact t69 _ _ e
    · rcases List.mem_or_eq_of_mem_set he with h | h
      · exact dsT_ok _ h
      · rw [h]
        exact hok
def spGoodRows (K : PySem.W.Frag) : Sp := fun vs H Q _ => ∃ (p : Addr) (xs : List V) (ds : List PyData) (size : Int), vs = [.ref p, .int size] ∧ H p = some (.lst xs) ∧ DpAll K H xs ds ∧ (∀ d ∈ ds, okD 2 d) ∧ xs.length ≤ 201 ∧ ∀ H', Same H H' → Q (.bl (goodR ds size)) H'
abbrev s__law_good_rows : Stmt := top 45
abbrev N__law_good_rows : List Str := ["_law_rows", "_law_size", "_law_row"]
theorem S__law_good_rows : FnScope N__law_good_rows ["_law_rows", "_law_size"] (defScope s__law_good_rows) := ⟨rfl, rfl, rfl, by decide +kernel, rfl, by decide +kernel, by decide +kernel⟩

theorem c_good_rows (T : Txt K w mg) (D : DefAt K "_law_good_rows" s__law_good_rows) (C__law_fits : Cal P w K mg base CX0 2 "_law_fits" (spFits K)) : Cal P w K mg base CX0 3 "_law_good_rows" (spGoodRows K) := by
  have S := S__law_good_rows
  refine cal_of T.toTop D S (fun _ _ _ _ _ _ us hl => match us, hl with | [_, _], _ => rfl) (fun vs H Q E h => ?_) (fun f cdv A outer s H vs Q E hr h => ?_)
  · obtain ⟨p, xs, ds, size, rfl, _⟩ := h
    rfl
  · obtain ⟨p, xs, ds, size, rfl, gp, hd, hok, hl, q⟩ := h
    have hu64 := hu64_of hr
    refine ⟨_, (pss_one (ps_ret (pe_and (pe_cmpR op_le (pe_callB call_len_seq (by rfl) T.len PySem.boot_len (pa_cons (pv 0) pa_nil)) pe_int (nomark _)) (pe_one (pe_cmpR (op_eqD hu64) (pe_lc (own := [("_law_row", 2)]) (g := gName 2)  rfl S.nd (pi_list (pv 0)) (blkOk_by (own := [("_law_row", 2)]) (N := N__law_good_rows) (sc := defScope s__law_good_rows) (by decide +kernel)) (fun _ _ _ _ _ => pg_name (i := 2) S.nd rfl (Or.inl rfl)) (fun _ _ _ _ _ => pts_one (pt_not (pt_val (pe_c C__law_fits hr (by decide) rfl (pa_cons (pv 2) (pa_cons (pv 1) (pa_cons (pe_callB (r := rLen K) call_len_seq (by rfl) T.len PySem.boot_len (pa_cons (pv 0) pa_nil)) pa_nil))))))) (fun _ _ _ _ _ => (pv 2))) (pe_lst pa_nil) (nomark _)))))), ?_⟩
    have hlen := dpA_len hd
    refine ⟨_, rfl, p, xs, rfl, .inl (SqL.of gp), _, _, rfl, rfl, _, rfl, ?_⟩
    by_cases h2 : xs.length ≤ 200
    case neg =>
      have hb : goodR ds size = false := by
        unfold goodR
        rw [decide_eq_false (by omega : ¬ ds.length ≤ 200), Bool.false_and]
      rw [hb] at q
      exact (if_neg (by rw [decide_eq_true_iff]; omega)).mpr (q H (Same.refl _))
    refine (if_pos (decide_eq_true (by omega))).mpr ?_
    refine ⟨_, rfl, p, rfl, ⟨_, SqL.of gp⟩, fun pl npl => lc_fi (fun i => ((xs.zip ds)[i]?).bind fun p => if fitsD p.2 size (xs.length : Nat) = true then none else some p.1) npl (SqL.of gp) (small1000 (by omega)) (fun i x H' ex s k1 k0 g1 g0 => ?_) (fun H2 t2 g2 => ?_)⟩
    · obtain ⟨d, ed, hdd⟩ := dpA_get hd ex
      have hdd := dp_same s _ _ hdd
      rw [zip_at (fun d => fitsD d size (xs.length : Nat)) ex ed] at g1 g0
      refine ⟨rfl, _, rfl, _, rfl, _, rfl, p, _, rfl, .inl (SqL.of (s _ _ gp)), x, d, size, (xs.length : Nat), rfl, hdd, fun H'' t'' => ⟨_, rfl, ?_⟩⟩
      cases ef : fitsD d size (xs.length : Nat) with
      | true => exact g0 _ (if_pos ef) t''
      | false => exact ⟨_, rfl, g1 _ _ (if_neg (by rw [ef]; decide)) t''⟩
    · rw [zip_fm xs ds (fun d => fitsD d size (xs.length : Nat)) hlen] at g2
      refine ⟨sz_ok rfl, fun p3 n3 => ?_⟩
      have t3 : Same H2 (upd H2 p3 (.lst [])) := Same.new n3
      have hsh : SeqAt.shaped (.list (ds.filter fun d => !fitsD d size (xs.length : Nat))) = true := (okD.lst (n := 2) fun d hd => hok d (List.mem_filter.mp hd).1).shaped (by decide)
      refine ⟨_, _, .lst (SqL.of (t3 _ _ g2)) (filt_dp (fun d => fitsD d size (xs.length : Nat)) (dpAll_same (t2.trans t3) _ _ hd)), .lst (SqL.of upd_same) .nil, hsh, rfl, ?_⟩
      have hb : goodR ds size = PyData.eqv (.list (ds.filter fun d => !fitsD d size (xs.length : Nat))) (.list []) := by
        rw [eqv_filt]
        unfold goodR
        rw [decide_eq_true (by omega : ds.length ≤ 200), Bool.true_and, hlen]
      rw [← hb]
      exact q _ (t2.trans t3)
theorem rule_any (x : Str) : ([PyData.str "least", .str "first"].any fun z => PyData.eqv z (.str x)) = ruleOk (.str x) := by
  show (("least" : Str) == x || (("first" : Str) == x || false)) = (decide (x = "least") || decide (x = "first"))
  rw [Bool.or_false, Bool.eq_iff_iff, Bool.or_eq_true, Bool.or_eq_true, beq_iff_eq, beq_iff_eq, decide_eq_true_eq, decide_eq_true_eq]
  exact ⟨fun h => h.imp Eq.symm Eq.symm, fun h => h.imp Eq.symm Eq.symm⟩
def spGoodShape (K : PySem.W.Frag) : Sp := fun vs H Q _ => ∃ (p : Addr) (vr vw vu : V) (dr dw du : PyData), vs = [.ref p] ∧ H p = some (.tup [vr, vw, vu]) ∧ Dp K H vr dr ∧ Dp K H vw dw ∧ Dp K H vu du ∧ okD 1 du ∧ ∀ H', Same H H' → Q (.bl (shapeOk vr vw du)) H'
abbrev s__law_good_shape : Stmt := top 46
abbrev N__law_good_shape : List Str := ["_law_shape"]
theorem S__law_good_shape : FnScope N__law_good_shape ["_law_shape"] (defScope s__law_good_shape) := ⟨rfl, rfl, rfl, by decide +kernel, rfl, by decide +kernel, by decide +kernel⟩

theorem c_good_shape (T : Txt K w mg) (D : DefAt K "_law_good_shape" s__law_good_shape) (C__law_whole : Cal P w K mg base CX0 1 "_law_whole" (spWhole K)) : Cal P w K mg base CX0 2 "_law_good_shape" (spGoodShape K) := by
  have S := S__law_good_shape
  refine cal_of T.toTop D S (fun _ _ _ _ _ _ us hl => match us, hl with | [_], _ => rfl) (fun vs H Q E h => ?_) (fun f cdv A outer s H vs Q E hr h => ?_)
  · obtain ⟨p, vr, vw, vu, dr, dw, du, rfl, _⟩ := h
    rfl
  · obtain ⟨p, vr, vw, vu, dr, dw, du, rfl, gp, hdr, hdw, hdu, hok, q⟩ := h
    refine ⟨_, (pss_cons (ps_if (PW.pt (pw_or (pt_not (pt_val (pe_c C__law_whole hr (by decide) rfl (pa_cons (pe_ix ix_tup (pv 0) pe_int (fun _ _ => rfl)) pa_nil)))) (pw_or1 (pt_not (pt_val (pe_c C__law_whole hr (by decide) rfl (pa_cons (pe_ix ix_tup (pv 0) pe_int (fun _ _ => rfl)) pa_nil))))))) (pss_one (ps_ret pe_bl)) pss_nil)
  (pss_one (ps_ret (pe_and (pe_chain op_le op_le pe_int (pe_ix ix_tup (pv 0) pe_int (fun _ _ => rfl)) pe_int) (pe_and (pe_chain op_le op_le pe_int (pe_ix ix_tup (pv 0) pe_int (fun _ _ => rfl)) pe_int) (pe_one (pe_cmpR (op_inDT (hu65_of hr)) (pe_ix ix_tup (pv 0) pe_int (fun _ _ => rfl)) (pe_tup (pa_cons pe_str (pa_cons pe_str pa_nil))) (by with_unfolding_all rfl)))))))), ?_⟩
    have no : shapeOk vr vw du = false → Q (.bl false) H := fun e => by
      have := q H (Same.refl _)
      rw [e] at this
      exact this
    obtain ⟨n1, ty1, k1, k1', hn1, hm1⟩ := any_dp hdr
    refine ⟨_, rfl, p, _, _, _, rfl, rfl, SqT.of gp, at_in (by decide) rfl, vr, n1, rfl, ty1, k1, k1', _, rfl, ?_⟩
    by_cases e1 : n1 = "int"
    case neg =>
      refine (if_pos (by rw [decide_eq_false e1]; rfl)).mpr ?_
      refine no ?_
      unfold shapeOk
      cases vr with
      | int j => exact absurd (hm1 j rfl) e1
      | _ => rfl
    obtain ⟨i, rfl⟩ := hn1 e1
    refine (if_neg (by rw [decide_eq_true e1]; decide)).mpr ?_
    obtain ⟨n2, ty2, k2, k2', hn2, hm2⟩ := any_dp hdw
    refine ⟨_, rfl, p, _, _, _, rfl, rfl, SqT.of gp, at_in (by decide) rfl, vw, n2, rfl, ty2, k2, k2', _, rfl, ?_⟩
    by_cases e2 : n2 = "int"
    case neg =>
      rw [decide_eq_false e2]
      refine no ?_
      unfold shapeOk
      have : wholeV vw 1 200 = false := by
        cases vw with
        | int j => exact absurd (hm2 j rfl) e2
        | _ => rfl
      rw [this, Bool.false_and, Bool.and_false]
    obtain ⟨j, rfl⟩ := hn2 e2
    rw [decide_eq_true e2]
    refine (if_neg (by decide)).mpr ?_
    have wr : ∀ z : Int, ¬ (1 ≤ z ∧ z ≤ 200) → wholeV (.int z) 1 200 = false := fun z h => by
      show (decide (1 ≤ z) && decide (z ≤ 200)) = false
      by_cases a : 1 ≤ z
      · rw [decide_eq_false (fun b => h ⟨a, b⟩), Bool.and_false]
      · rw [decide_eq_false a, Bool.false_and]
    have wy : ∀ z : Int, 1 ≤ z → z ≤ 200 → wholeV (.int z) 1 200 = true := fun z a b => by
      show (decide (1 ≤ z) && decide (z ≤ 200)) = true
      rw [decide_eq_true a, decide_eq_true b]
      rfl
    have no1 : ¬ (1 ≤ i ∧ i ≤ 200) → Q (.bl false) H := fun h => no (by unfold shapeOk; rw [wr i h, Bool.false_and])
    have no2 : ¬ (1 ≤ j ∧ j ≤ 200) → Q (.bl false) H := fun h => no (by unfold shapeOk; rw [wr j h, Bool.false_and, Bool.and_false])
    refine ⟨_, rfl, p, _, _, _, rfl, rfl, SqT.of gp, at_in (by decide) rfl, _, _, rfl, rfl, _, rfl, ?_⟩
    by_cases a1 : 1 ≤ i
    case neg =>
      refine (if_neg (fun z => a1 (of_decide_eq_true z))).mpr ?_
      exact ⟨_, rfl, no1 fun z => a1 z.1⟩
    refine (if_pos (decide_eq_true a1)).mpr ?_
    refine ⟨_, _, rfl, rfl, _, rfl, ?_⟩
    by_cases a2 : i ≤ 200
    case neg =>
      refine (if_neg (fun z => a2 (of_decide_eq_true z))).mpr ?_
      exact no1 fun z => a2 z.2
    refine (if_pos (decide_eq_true a2)).mpr ?_
    refine ⟨_, rfl, p, _, _, _, rfl, rfl, SqT.of gp, at_in (by decide) rfl, _, _, rfl, rfl, _, rfl, ?_⟩
    by_cases b1 : 1 ≤ j
    case neg =>
      refine (if_neg (fun z => b1 (of_decide_eq_true z))).mpr ?_
      exact ⟨_, rfl, no2 fun z => b1 z.1⟩
    refine (if_pos (decide_eq_true b1)).mpr ?_
    refine ⟨_, _, rfl, rfl, _, rfl, ?_⟩
    by_cases b2 : j ≤ 200
    case neg =>
      refine (if_neg (fun z => b2 (of_decide_eq_true z))).mpr ?_
      exact no2 fun z => b2 z.2
    refine (if_pos (decide_eq_true b2)).mpr ?_
    refine ⟨_, rfl, p, _, _, _, rfl, rfl, SqT.of gp, at_in (by decide) rfl, sz_ok rfl, fun p2 n2 => ?_⟩
    have t2 : Same H (upd H p2 (.tup [.str "least", .str "first"])) := Same.new n2
    refine ⟨du, [.str "least", .str "first"], dp_same t2 _ _ hdu, .tup (SqT.of upd_same) (.cons (.str _) (.cons (.str _) .nil)), hok.shaped (by decide), by decide +kernel, ?_⟩
    have e : ([PyData.str "least", .str "first"].any fun z => PyData.eqv z du) = shapeOk (.int i) (.int j) du := by
      unfold shapeOk
      rw [wy i a1 a2, wy j b1 b2, Bool.true_and, Bool.true_and]
      cases du with
      | str x => exact rule_any x
      | _ => rfl
    rw [e]
    exact q _ t2
/-- which is refused first: nothing is refused by an empty text -/
def dueS (way : Int) (gb gr gs : Bool) : Str := if gb = false then "boxes" else if way ≠ 1 ∧ gr = false then "rows" else if 0 < way ∧ gs = false then "shape" else ""
def spDue (K : PySem.W.Frag) : Sp := fun vs H Q _ => ∃ (way : Int) (pb pr ps : Addr) (xs ys : List V) (ds dr : List PyData) (vr vw vu : V) (er ew du : PyData), vs = [.int way, .ref pb, .ref pr, .ref ps] ∧ H pb = some (.lst xs) ∧ DpAll K H xs ds ∧ (∀ d ∈ ds, okD 1 d) ∧ xs.length ≤ 201 ∧ H pr = some (.lst ys) ∧ DpAll K H ys dr ∧ (∀ d ∈ dr, okD 2 d) ∧ ys.length ≤ 201 ∧
  H ps = some (.tup [vr, vw, vu]) ∧ Dp K H vr er ∧ Dp K H vw ew ∧ Dp K H vu du ∧ okD 1 du ∧ ∀ H', Same H H' → Q (.str (dueS way (goodB ds) (goodR dr (xs.length : Nat)) (shapeOk vr vw du))) H'
abbrev s__law_due : Stmt := top 47
abbrev N__law_due : List Str := ["_law_way", "_law_boxes", "_law_rows", "_law_shape"]
theorem S__law_due : FnScope N__law_due ["_law_way", "_law_boxes", "_law_rows", "_law_shape"] (defScope s__law_due) := ⟨rfl, rfl, rfl, by decide +kernel, rfl, by decide +kernel, by decide +kernel⟩

theorem c_due (T : Txt K w mg) (D : DefAt K "_law_due" s__law_due) (C__law_good_boxes : Cal P w K mg base CX0 2 "_law_good_boxes" (spGoodBoxes K)) (C__law_good_rows : Cal P w K mg base CX0 3 "_law_good_rows" (spGoodRows K)) (C__law_good_shape : Cal P w K mg base CX0 2 "_law_good_shape" (spGoodShape K)) : Cal P w K mg base CX0 4 "_law_due" (spDue K) := by
  have S := S__law_due
  refine cal_of T.toTop D S (fun _ _ _ _ _ _ us hl => match us, hl with | [_, _, _, _], _ => rfl) (fun vs H Q E h => ?_) (fun f cdv A outer s H vs Q E hr h => ?_)
  · obtain ⟨way, pb, pr, ps, xs, ys, ds, dr, vr, vw, vu, er, ew, du, rfl, _⟩ := h
    rfl
  · obtain ⟨way, pb, pr, ps, xs, ys, ds, dr, vr, vw, vu, er, ew, du, rfl, gb, hb, hbo, hbl, gr, hr1, hro, hrl, gs, hvr, hvw, hvu, hok, q⟩ := h
    refine ⟨_, (pss_cons (ps_if (pt_not (pt_val (pe_c C__law_good_boxes hr (by decide) rfl (pa_cons (pv 1) pa_nil)))) (pss_one (ps_ret pe_str)) pss_nil)
  (pss_cons (ps_if (PW.pt (pw_and (pt_cmpR op_ne (pv 0) pe_int (nomark _)) (pw_and1 (pt_not (pt_val (pe_c C__law_good_rows hr (by decide) rfl (pa_cons (pv 2) (pa_cons (pe_callB call_len_seq (by rfl) T.len PySem.boot_len (pa_cons (pv 1) pa_nil)) pa_nil)))))))) (pss_one (ps_ret pe_str)) pss_nil)
  (pss_cons (ps_if (PW.pt (pw_and (pt_cmpR op_gt (pv 0) pe_int (nomark _)) (pw_and1 (pt_not (pt_val (pe_c C__law_good_shape hr (by decide) rfl (pa_cons (pv 3) pa_nil))))))) (pss_one (ps_ret pe_str)) pss_nil)
  (pss_one (ps_ret pe_str))))), ?_⟩
    refine ⟨_, rfl, pb, xs, ds, rfl, gb, hb, hbo, hbl, fun H1 t1 => ⟨_, rfl, ?_⟩⟩
    generalize goodB ds = b1 at q
    cases b1 with
    | false =>
      have := q _ t1
      rw [show dueS way false (goodR dr (xs.length : Nat)) (shapeOk vr vw du) = "boxes" from if_pos rfl] at this
      exact this
    | true =>
    refine ⟨_, rfl, rfl, ?_⟩
    by_cases hw : way = 1
    · refine ⟨false, bl_of (by rw [decide_eq_true (congrArg V.int hw)]; rfl), ?_⟩
      generalize goodR dr (xs.length : Nat) = b2 at q
      refine ⟨_, rfl, _, _, rfl, rfl, ?_⟩
      by_cases h0 : 0 < way
      case neg =>
        refine ⟨false, bl_of (decide_eq_false h0), ?_⟩
        have := q _ t1
        rw [show dueS way true b2 (shapeOk vr vw du) = "" by unfold dueS; rw [if_neg (by decide), if_neg (by simp [hw]), if_neg (fun z => h0 z.1)]] at this
        exact this
      refine ⟨true, bl_of (decide_eq_true h0), ?_⟩
      refine ⟨_, rfl, ps, vr, vw, vu, er, ew, du, rfl, t1 _ _ gs, dp_same t1 _ _ hvr, dp_same t1 _ _ hvw, dp_same t1 _ _ hvu, hok, fun H3 t3 => ⟨_, rfl, ?_⟩⟩
      have := q _ (t1.trans t3)
      cases hs : shapeOk vr vw du with
      | false =>
        rw [hs, show dueS way true b2 false = "shape" by unfold dueS; rw [if_neg (by decide), if_neg (by simp [hw]), if_pos ⟨h0, rfl⟩]] at this
        exact this
      | true =>
        rw [hs, show dueS way true b2 true = "" by unfold dueS; rw [if_neg (by decide), if_neg (by simp [hw]), if_neg (by simp)]] at this
        exact this
    · refine ⟨true, bl_of (by rw [decide_eq_false (fun z => hw (V.int.inj z))]; rfl), ?_⟩
      refine ⟨_, rfl, _, rfl, pb, _, rfl, .inl (SqL.of (t1 _ _ gb)), pr, ys, dr, (xs.length : Nat), rfl, t1 _ _ gr, dpAll_same t1 _ _ hr1, hro, hrl, fun H2 t2 => ⟨_, rfl, ?_⟩⟩
      generalize goodR dr (xs.length : Nat) = b2 at q
      have t12 := t1.trans t2
      cases b2 with
      | false =>
        have := q _ t12
        rw [show dueS way true false (shapeOk vr vw du) = "rows" by unfold dueS; rw [if_neg (by decide), if_pos ⟨hw, rfl⟩]] at this
        exact this
      | true =>
      refine ⟨_, rfl, _, _, rfl, rfl, ?_⟩
      by_cases h0 : 0 < way
      case neg =>
        refine ⟨false, bl_of (decide_eq_false h0), ?_⟩
        have := q _ t12
        rw [show dueS way true true (shapeOk vr vw du) = "" by unfold dueS; rw [if_neg (by decide), if_neg (by simp), if_neg (fun z => h0 z.1)]] at this
        exact this
      refine ⟨true, bl_of (decide_eq_true h0), ?_⟩
      refine ⟨_, rfl, ps, vr, vw, vu, er, ew, du, rfl, t12 _ _ gs, dp_same t12 _ _ hvr, dp_same t12 _ _ hvw, dp_same t12 _ _ hvu, hok, fun H3 t3 => ⟨_, rfl, ?_⟩⟩
      have := q _ (t12.trans t3)
      cases hs : shapeOk vr vw du with
      | false =>
        rw [hs, show dueS way true true false = "shape" by unfold dueS; rw [if_neg (by decide), if_neg (by simp), if_pos ⟨h0, rfl⟩]] at this
        exact this
      | true =>
        rw [hs, show dueS way true true true = "" by unfold dueS; rw [if_neg (by decide), if_neg (by simp), if_neg (by simp)]] at this
        exact this

theorem ints_of {H : Hp} : ∀ {vs : List V} {ps : List PyData}, DpAll K H vs ps → (∀ k, k < ps.length → ∃ hi, wholeIn (ps.getD k .none) 0 hi = true) → ∃ ns : List Int, vs = ns.map V.int ∧ ps = ns.map PyData.int
  | _, _, .nil, _ => ⟨[], rfl, rfl⟩
  | _, _, .cons (d := d) a t, h => by
    obtain ⟨ns, e1, e2⟩ := ints_of t fun k hk => h (k + 1) (by simp only [List.length_cons]; omega)
    obtain ⟨hi, h0⟩ := h 0 (by simp)
    have h0 : wholeIn d 0 hi = true := h0
    cases a with
    | int i => exact ⟨i :: ns, by rw [e1]; rfl, by rw [e2]; rfl⟩
    | _ => cases h0
theorem row_kinds {size count : Int} {w : Str} {l : List Str} (e : shapeOf w = some l) : ∀ ns : List Int, ns.length = l.length → (∀ k, k < l.length → 0 ≤ ns.getD k 0 ∧ ns.getD k 0 ≤ lastOf size count (l.getD k Str.empty)) → RowOk size count w ns :=
  sTab_cases (P := fun w l => ∀ ns : List Int, ns.length = l.length → (∀ k, k < l.length → 0 ≤ ns.getD k 0 ∧ ns.getD k 0 ≤ lastOf size count (l.getD k Str.empty)) → RowOk size count w ns) (fun q hq => by
    rcases List.mem_cons.mp hq with rfl | hq
    · intro ns hl h
      match ns, hl with
      | [a, b], _ =>
        have h0 : 0 ≤ a ∧ a ≤ size - 1 := h 0 (by decide)
        have h1 : 0 ≤ b ∧ b ≤ 999999 := h 1 (by decide)
        exact .set h0.1 (by omega) h1.1 (by omega)
    rcases List.mem_cons.mp hq with rfl | hq
    · intro ns hl h
      match ns, hl with
      | [a, b], _ =>
        have h0 : 0 ≤ a ∧ a ≤ size - 1 := h 0 (by decide)
        have h1 : 0 ≤ b ∧ b ≤ size - 1 := h 1 (by decide)
        exact .copy h0.1 (by omega) h1.1 (by omega)
    rcases List.mem_cons.mp hq with rfl | hq
    · intro ns hl h
      match ns, hl with
      | [a, b, c], _ =>
        have h0 : 0 ≤ a ∧ a ≤ size - 1 := h 0 (by decide)
        have h1 : 0 ≤ b ∧ b ≤ size - 1 := h 1 (by decide)
        have h2 : 0 ≤ c ∧ c ≤ size - 1 := h 2 (by decide)
        exact .add h0.1 (by omega) h1.1 (by omega) h2.1 (by omega)
    rcases List.mem_cons.mp hq with rfl | hq
    · intro ns hl h
      match ns, hl with
      | [a, b, c], _ =>
        have h0 : 0 ≤ a ∧ a ≤ size - 1 := h 0 (by decide)
        have h1 : 0 ≤ b ∧ b ≤ size - 1 := h 1 (by decide)
        have h2 : 0 ≤ c ∧ c ≤ size - 1 := h 2 (by decide)
        exact .sub h0.1 (by omega) h1.1 (by omega) h2.1 (by omega)
    rcases List.mem_cons.mp hq with rfl | hq
    · intro ns hl h
      match ns, hl with
      | [a, b], _ =>
        have h0 : 0 ≤ a ∧ a ≤ size - 1 := h 0 (by decide)
        have h1 : 0 ≤ b ∧ b ≤ size - 1 := h 1 (by decide)
        exact .fetch h0.1 (by omega) h1.1 (by omega)
    rcases List.mem_cons.mp hq with rfl | hq
    · intro ns hl h
      match ns, hl with
      | [a, b], _ =>
        have h0 : 0 ≤ a ∧ a ≤ size - 1 := h 0 (by decide)
        have h1 : 0 ≤ b ∧ b ≤ size - 1 := h 1 (by decide)
        exact .store h0.1 (by omega) h1.1 (by omega)
    rcases List.mem_cons.mp hq with rfl | hq
    · intro ns hl h
      match ns, hl with
      | [a, b, c], _ =>
        have h0 : 0 ≤ a ∧ a ≤ size - 1 := h 0 (by decide)
        have h1 : 0 ≤ b ∧ b ≤ size - 1 := h 1 (by decide)
        have h2 : 0 ≤ c ∧ c ≤ count := h 2 (by decide)
        exact .less h0.1 (by omega) h1.1 (by omega) h2.1 h2.2
    rcases List.mem_cons.mp hq with rfl | hq
    · intro ns hl h
      match ns, hl with
      | [a], _ =>
        have h0 : 0 ≤ a ∧ a ≤ count := h 0 (by decide)
        exact .jump h0.1 h0.2
    · cases List.mem_singleton.mp hq
      intro ns hl h
      match ns, hl with
      | [a], _ =>
        have h0 : 0 ≤ a ∧ a ≤ size - 1 := h 0 (by decide)
        exact .tell h0.1 (by omega)) e
theorem fitK_at {size count : Int} {l : List Str} {ps : List PyData} (h : fitK size count l ps = true) (k : Nat) (hk : k < l.length) : wholeIn (ps.getD k .none) 0 (lastOf size count (l.getD k Str.empty)) = true := by
  unfold fitK at h
  exact List.all_eq_true.mp h k (List.mem_range.mpr hk)
theorem row_of {H : Hp} {v : V} {d : PyData} {size count : Int} (hd : Dp K H v d) (h : fitsD d size count = true) : ∃ (r : Rw) (p : Addr), v = .ref p ∧ SqT K H p (.str r.1 :: r.2.map V.int) ∧ RowOk size count r.1 r.2 := by
  have hs : shapeD d = true := by
    cases e : shapeD d with
    | true => rfl
    | false =>
      rw [fitsD_no e] at h
      cases h
  obtain ⟨wd, ps, l, p, vs, rfl, eS, hl, rfl, hq, ha⟩ := shapeD_yes hd hs
  rw [fitsD_yes eS hl] at h
  obtain ⟨ns, e1, e2⟩ := ints_of ha fun k hk => ⟨_, fitK_at h k (by omega)⟩
  subst e1 e2
  rw [List.length_map] at hl
  refine ⟨(wd, ns), p, rfl, hq, row_kinds eS ns hl fun k hk => ?_⟩
  have := fitK_at h k hk
  rw [List.getD_eq_getElem?_getD, List.getElem?_map, List.getElem?_eq_getElem (show k < ns.length by omega)] at this
  have this : (decide (0 ≤ ns[k]) && decide (ns[k] ≤ lastOf size count (l.getD k Str.empty))) = true := this
  rw [Bool.and_eq_true, decide_eq_true_eq, decide_eq_true_eq] at this
  rw [List.getD_eq_getElem?_getD, List.getElem?_eq_getElem (show k < ns.length by omega)]
  exact this
theorem rows_of_good {H : Hp} {ys : List V} {dr : List PyData} {size : Int} (hd : DpAll K H ys dr) (h : goodR dr size = true) : ∃ rows : List Rw, RowsAt K H ys rows ∧ (∀ r ∈ rows, RowOk size (rows.length : Nat) r.1 r.2) ∧ rows.length ≤ 200 := by
  unfold goodR at h
  rw [Bool.and_eq_true, decide_eq_true_eq] at h
  have hl := dpA_len hd
  obtain ⟨rows, hrl, hrows⟩ := choose_list (fun j (r : Rw) => ∃ p, ys[j]? = some (V.ref p) ∧ SqT K H p (.str r.1 :: r.2.map V.int) ∧ RowOk size (dr.length : Nat) r.1 r.2) ys.length fun j hj => by
    obtain ⟨d, ed, hdd⟩ := dpA_get hd (List.getElem?_eq_getElem hj)
    obtain ⟨r, p, e1, e2, e3⟩ := row_of hdd (List.all_eq_true.mp h.2 d (List.mem_of_getElem? ed))
    exact ⟨r, p, by rw [List.getElem?_eq_getElem hj, e1], e2, e3⟩
  refine ⟨rows, ⟨hrl.symm, fun j r e => ?_⟩, fun r hr => ?_, by omega⟩
  · obtain ⟨p, e1, e2, _⟩ := hrows j r e
    exact ⟨p, e1, e2⟩
  · obtain ⟨j, e⟩ := List.getElem?_of_mem hr
    obtain ⟨p, _, _, e3⟩ := hrows j r e
    rw [hrl, hl]
    exact e3
/-- run: the first that is wrong is refused -/
def spRunX (K : PySem.W.Frag) (CB CR : Addr) : Sp := fun vs H Q E => ∃ (rw_ gb : Addr) (xs ys : List V) (ds dr : List PyData) (n : Nat), vs = [.ref rw_, .ref gb, .int (n : Nat)] ∧ SqL K H gb xs ∧ DpAll K H xs ds ∧ xs.length ≤ 1000 ∧ SqL K H rw_ ys ∧ DpAll K H ys dr ∧ ys.length ≤ 1000 ∧ n ≤ 1000 ∧
  (goodB ds = false → ∀ H', Same H H' → E (.ref CB) none H') ∧ (goodB ds = true → goodR dr (xs.length : Nat) = false → ∀ H', Same H H' → E (.ref CR) none H') ∧ (goodB ds = true → goodR dr (xs.length : Nat) = true → ∀ H' v, Same H H' → Q v H')
abbrev s_run : Stmt := top 21
abbrev N_run : List Str := ["rows", "boxes", "steps", "numbers", "program", "watched", "told", "end"]
theorem S_run : FnScope N_run ["rows", "boxes", "steps"] (defScope s_run) := ⟨rfl, rfl, rfl, by decide +kernel, rfl, by decide +kernel, by decide +kernel⟩

theorem c_runX {C CR CB : Addr} (T : Txt K w mg) (W : WCls K C) (D : DefAt K "run" s_run) (C_checked_boxes : Cal P w K mg base (L2.CX P w) 3 "checked_boxes" (spCheckedB K CB)) (C_checked : Cal P w K mg base (L2.CX P w) 4 "checked" (spChecked K CR)) (M_Watched : C8.Mak P w K mg base 1 "Watched" C (spInit C) []) (C_walk : Cal P w K mg base CX0 3 "walk" (spWalk K C)) : Cal P w K mg base (L2.CX P w) 5 "run" (spRunX K CB CR) := by
  have S := S_run
  refine cal_ofX T.toTop D S (fun _ _ _ _ _ _ us hl => match us, hl with | [_, _, _], _ => rfl) (fun vs H Q E h => ?_) (fun f cdv A outer s H vs Q E hr h => ?_)
  · obtain ⟨rw_, gb, xs, ys, ds, dr, n, rfl, _⟩ := h
    rfl
  · obtain ⟨rw_, gb, xs, ys, ds, dr, n, rfl, hX, hD, hxl, hY, hDr, hyl, hn, he1, he2, q⟩ := h
    refine ⟨_, (pss_cons (ps_set (i := 3) S.nd rfl (Or.inl rfl) (pe_cx C_checked_boxes (takes_of rfl rfl rfl rfl) hr (by decide) rfl (pa_cons (pv 1) pa_nil)))
  (pss_cons (ps_set (i := 4) S.nd rfl (Or.inl rfl) (pe_cx C_checked (takes_of rfl rfl rfl rfl) hr (by decide) rfl (pa_cons (pv 0) (pa_cons (pe_callB call_len_seq (by rfl) T.len PySem.boot_len (pa_cons (pv 3) pa_nil)) pa_nil))))
  (pss_cons (ps_set (i := 5) S.nd rfl (Or.inl rfl) (C8.pe_mk M_Watched hr (by decide) rfl (pa_cons (pv 3) pa_nil)))
  (pss_cons (ps_asg (g := gTup K 2 (gCons (gName 6) (gCons (gName 7) gNil))) (pe_c C_walk hr (by decide) rfl (pa_cons (pv 4) (pa_cons (pv 5) (pa_cons (pe_callB call_len_seq (by rfl) T.len PySem.boot_len (pa_cons (pv 3) pa_nil)) (pa_cons (pv 2) pa_nil))))) (by exact (pg_tup rfl (pgs_cons (pg_name (i := 6) S.nd rfl (Or.inl rfl)) (pgs_cons (pg_name (i := 7) S.nd rfl (Or.inl rfl)) pgs_nil)))))
  (pss_one (ps_ret (pe_tup (pa_cons (pv 6) (pa_cons (pv 7) (pa_cons (pe_fld (pv 5) rfl) (pa_cons (pe_fld (pv 5) rfl) pa_nil))))))))))), ?_⟩
    refine ⟨_, rfl, gb, xs, ds, rfl, hX, hD, hxl, fun hgB H1 lb t1 nlb glb => ?_, fun hb H1 t1 => he1 hb H1 t1⟩
    refine ⟨_, rfl, _, rfl, lb, _, rfl, .inl (SqL.of glb), rw_, ys, dr, _, rfl, t1.seq hY, dpAll_same t1 _ _ hDr, hyl, fun hgR H2 pg t2 npg gpg => ?_, fun hb H2 t2 => he2 hgB hb H2 (t1.trans t2)⟩
    have glb2 := t2 _ _ glb
    obtain ⟨bs, rfl, hbb, hb1, hb2⟩ := good_ints hD hgB
    have hsz : (((bs.map V.int).length : Nat) : Int) = (bs.length : Nat) := by rw [List.length_map]
    obtain ⟨rows, hRA, hRO, hr2⟩ := rows_of_good hDr hgR
    rw [hsz] at hRO
    have hP2 : Prg K H2 pg rows := ⟨ys, gpg, hRA.1, fun j r e => by
      obtain ⟨a, e1, e2⟩ := hRA.2 j r e
      exact ⟨a, e1, (t1.trans t2).sqt e2⟩⟩
    refine ⟨_, rfl, fun x dx nx ndx nex => ?_⟩
    have s0 : Same H2 (upd (upd H2 dx (.own x)) x (.ins C dx [])) := fun b o e => by
      rw [upd_ne (ne_of_none e nx), upd_ne (ne_of_none e ndx)]
      exact e
    refine ⟨H2, x, dx, lb, bs, rfl, s0, nx, upd_same, glb2, fun H3 lt t3 nlt M3 => ⟨rfl, ?_⟩⟩
    have hP3 : Prg K H3 pg rows := by
      obtain ⟨xs, h1, h2, h3⟩ := hP2
      refine ⟨xs, t3 _ _ h1, h2, fun j r e => ?_⟩
      obtain ⟨a, e1, e2⟩ := h3 j r e
      exact ⟨a, e1, t3.sqt e2⟩
    have n1 : pg ≠ lb := (ne_of_none glb npg).symm
    have n2 : pg ≠ lt := ne_of_none gpg nlt
    refine ⟨_, rfl, _, rfl, _, rfl, lb, _, rfl, .inl (SqL.of (t3 _ _ glb2)), _, rfl, pg, x, lb, lt, rows, bs, n, by rw [hsz]; rfl, hP3, hRO, M3, n1, n2, hn, fun H4 qq tl fr4 ntl nqq M4 gtl n3 n4 gq => ?_⟩
    refine ⟨qq, _, rfl, SqT.of gq, rfl, _, _, rfl, _, _, rfl, rfl, ?_⟩
    obtain ⟨hne, ⟨dx4, g4⟩, glb4, us, glt4, hul, htc⟩ := id M4
    refine ⟨_, rfl, _, rfl, _, rfl, x, C, dx4, _, _, rfl, g4, W.cl, W.nB, wf_b _ _, _, rfl, x, C, dx4, _, _, rfl, g4, W.cl, W.nT, wf_t _ _, sz_ok rfl, fun r nr => ?_⟩
    have s4 : Same H4 (upd H4 r (.tup [.ref tl, .str (endOf rows (runM rows n ⟨0, bs, [], []⟩)), .ref lb, .ref lt])) := Same.new nr
    have t13 := (t1.trans t2).trans t3
    have nlt0 : H lt = none := (t1.trans t2).free nlt
    exact q hgB hgR _ _ (fun a o e => s4 _ _ (fr4 _ _ (t13 _ _ e) (fun z => by rw [z, nlb] at e; cases e) (fun z => by rw [z, nlt0] at e; cases e)))

-- SPLIT
theorem shape_forms {H : Hp} {vr vw vu : V} {du : PyData} (hvu : Dp K H vu du) (hsh : shapeOk vr vw du = true) : ∃ (r wd : Nat) (rule : Str), vr = .int (r : Nat) ∧ vw = .int (wd : Nat) ∧ vu = .str rule ∧ du = .str rule := by
  unfold shapeOk at hsh
  rw [Bool.and_eq_true, Bool.and_eq_true] at hsh
  obtain ⟨k1, k2, k3⟩ := hsh
  have nat : ∀ v : V, wholeV v 1 200 = true → ∃ n : Nat, v = .int (n : Nat) := fun v h => by
    cases v with
    | int z =>
      have h : (decide (1 ≤ z) && decide (z ≤ 200)) = true := h
      rw [Bool.and_eq_true, decide_eq_true_eq, decide_eq_true_eq] at h
      exact ⟨z.toNat, congrArg V.int (Int.toNat_of_nonneg (by omega)).symm⟩
    | _ => cases h
  obtain ⟨r, er⟩ := nat _ k1
  obtain ⟨wd, ew⟩ := nat _ k2
  cases hvu with
  | str x => exact ⟨r, wd, x, er, ew, rfl, rfl⟩
  | _ => cases k3
def spSaid (K : PySem.W.Frag) : Sp := fun vs H Q _ => ∃ (way : Int) (pb pr ps : Addr) (xs ys : List V) (ds dr : List PyData) (vr vw vu : V) (er ew du : PyData), vs = [.int way, .ref pb, .ref pr, .ref ps] ∧ 0 ≤ way ∧ way < 3 ∧ H pb = some (.lst xs) ∧ DpAll K H xs ds ∧ xs.length ≤ 201 ∧ H pr = some (.lst ys) ∧ DpAll K H ys dr ∧ ys.length ≤ 201 ∧
  H ps = some (.tup [vr, vw, vu]) ∧ Dp K H vr er ∧ Dp K H vw ew ∧ Dp K H vu du ∧ ∀ H', Same H H' → Q (.str (dueS way (goodB ds) (goodR dr (xs.length : Nat)) (shapeOk vr vw du))) H'
abbrev s__law_said : Stmt := top 49
abbrev N__law_said : List Str := ["_law_way", "_law_boxes", "_law_rows", "_law_shape", "_law_e"]
theorem S__law_said : FnScope N__law_said ["_law_way", "_law_boxes", "_law_rows", "_law_shape"] (defScope s__law_said) := ⟨rfl, rfl, rfl, by decide +kernel, rfl, by decide +kernel, by decide +kernel⟩

theorem c_said {C C0 C1 C2 cL : Addr} {cs : List Addr} (T : Txt K w mg) (D : DefAt K "_law_said" s__law_said) (X_BadRow : ExcT K mg "BadRow" C0) (X_BadBoxes : ExcT K mg "BadBoxes" C1) (X_BadShape : ExcT K mg "BadShape" C2)
    (e00 : PySem.W.exmOne K (.ref C0) (.ref C0) = some true) (e11 : PySem.W.exmOne K (.ref C1) (.ref C1) = some true) (e22 : PySem.W.exmOne K (.ref C2) (.ref C2) = some true) (e01 : PySem.W.exmOne K (.ref C0) (.ref C1) = some false) (e21 : PySem.W.exmOne K (.ref C2) (.ref C1) = some false) (e20 : PySem.W.exmOne K (.ref C2) (.ref C0) = some false)
    (hA0 : AloneAt K cs cL C0 0) (hA1 : AloneAt K cs cL C1 1) (hA2 : AloneAt K cs cL C2 2)
    (C_run : Cal P w K mg base (L2.CX P w) 5 "run" (spRunX K C1 C0)) (M_Near : MakX P w K mg base 4 "Near" C (spInitN K C C1 C2)) (C_run_near : Cal P w K mg base (L2.CX P w) 8 "run_near" (spRunNear K C C1 C0 C2)) (C__law_alone : CalS P w K mg base 1 "_law_alone" (spAlone K cs cL)) : Cal P w K mg base CX0 9 "_law_said" (spSaid K) := by
  have S := S__law_said
  refine cal_of T.toTop D S (fun _ _ _ _ _ _ us hl => match us, hl with | [_, _, _, _], _ => rfl) (fun vs H Q E h => ?_) (fun f cdv A outer s H vs Q E hr h => ?_)
  · obtain ⟨way, pb, pr, ps, xs, ys, ds, dr, vr, vw, vu, er, ew, du, rfl, _⟩ := h
    rfl
  · obtain ⟨way, pb, pr, ps, xs, ys, ds, dr, vr, vw, vu, er, ew, du, rfl, hw0, hw3, gb, hb, hbl, gr, hr1, hrl, gs, hvr, hvw, hvu, q⟩ := h
    refine ⟨_, (pss_cons (ps_try_manyAs rfl rfl S.nd takes0 (fun W pn xe tk _ => (pss_one (ps_if (pt_cmpR op_eq (pv 0) pe_int (nomark _)) (pss_one (ps_expr (pe_cx C_run tk hr (by decide) rfl (pa_cons (pv 2) (pa_cons (pv 1) (pa_cons pe_int pa_nil)))))) (pss_one (ps_if (pt_cmpR op_eq (pv 0) pe_int (nomark _)) (pss_one (ps_expr (pe_mkx M_Near tk hr (by decide) rfl (pa_cons (pv 1) (pa_cons (pe_ix (r := rIxT K) ix_tup (pv 3) pe_int (fun _ _ => rfl)) (pa_cons (pe_ix (r := rIxT K) ix_tup (pv 3) pe_int (fun _ _ => rfl)) (pa_cons (pe_ix (r := rIxT K) ix_tup (pv 3) pe_int (fun _ _ => rfl)) pa_nil))))))) (pss_one (ps_expr (pe_cx C_run_near tk hr (by decide) rfl (pa_cons (pv 2) (pa_cons (pv 1) (pa_cons pe_int (pa_cons (pe_ix (r := rIxT K) ix_tup (pv 3) pe_int (fun _ _ => rfl)) (pa_cons (pe_ix (r := rIxT K) ix_tup (pv 3) pe_int (fun _ _ => rfl)) (pa_cons (pe_ix (r := rIxT K) ix_tup (pv 3) pe_int (fun _ _ => rfl)) pa_nil)))))))))))))) (.cons (i := 4) rfl rfl ⟨rfl, by decide, .inl X_BadBoxes.g⟩ (fun a oe cls d pn hz hf => (pss_one (ps_ret (pe_ifExp (pt_val (pe_su C__law_alone hz hf hr (by decide) rfl (pa_cons (pv 4) (pa_cons pe_int pa_nil)))) pe_str pe_str))))
  (.cons (i := 4) rfl rfl ⟨rfl, by decide, .inl X_BadRow.g⟩ (fun a oe cls d pn hz hf => (pss_one (ps_ret (pe_ifExp (pt_val (pe_su C__law_alone hz hf hr (by decide) rfl (pa_cons (pv 4) (pa_cons pe_int pa_nil)))) pe_str pe_str))))
  (.cons (i := 4) rfl rfl ⟨rfl, by decide, .inl X_BadShape.g⟩ (fun a oe cls d pn hz hf => (pss_one (ps_ret (pe_ifExp (pt_val (pe_su C__law_alone hz hf hr (by decide) rfl (pa_cons (pv 4) (pa_cons pe_int pa_nil)))) pe_str pe_str))))
  .nil))))
  (pss_one (ps_ret pe_str))), ?_⟩
    have out : ∀ (H' : Hp) (x : Str), Same H H' → dueS way (goodB ds) (goodR dr (xs.length : Nat)) (shapeOk vr vw du) = x → Q (.str x) H' := fun H' x t e => by
      rw [← e]
      exact q H' t
    have b0 : goodB ds = false → dueS way (goodB ds) (goodR dr (xs.length : Nat)) (shapeOk vr vw du) = "boxes" := fun h => if_pos h
    have b1 : goodB ds = true → ¬ way = 1 → goodR dr (xs.length : Nat) = false → dueS way (goodB ds) (goodR dr (xs.length : Nat)) (shapeOk vr vw du) = "rows" := fun h h1 h2 => by
      unfold dueS
      rw [if_neg (by rw [h]; decide), if_pos ⟨h1, h2⟩]
    have b2 : goodB ds = true → (way = 1 ∨ goodR dr (xs.length : Nat) = true) → 0 < way → shapeOk vr vw du = false → dueS way (goodB ds) (goodR dr (xs.length : Nat)) (shapeOk vr vw du) = "shape" := fun h h1 h0 h2 => by
      unfold dueS
      rw [if_neg (by rw [h]; decide), if_neg (fun z => h1.elim z.1 fun e => by rw [e] at z; exact absurd z.2 (by decide)), if_pos ⟨h0, h2⟩]
    have b3 : goodB ds = true → (way = 1 ∨ goodR dr (xs.length : Nat) = true) → (way = 0 ∨ shapeOk vr vw du = true) → dueS way (goodB ds) (goodR dr (xs.length : Nat)) (shapeOk vr vw du) = "" := fun h h1 h2 => by
      unfold dueS
      rw [if_neg (by rw [h]; decide), if_neg (fun z => h1.elim z.1 fun e => by rw [e] at z; exact absurd z.2 (by decide)), if_neg (fun z => h2.elim (fun e => by omega) fun e => by rw [e] at z; exact absurd z.2 (by decide))]
    refine ⟨_, rfl, rfl, ?_⟩
    by_cases w0 : way = 0
    · refine ⟨true, bl_of (decide_eq_true (congrArg V.int w0)), ?_⟩
      refine ⟨_, rfl, _, rfl, pr, pb, xs, ys, ds, dr, 9, rfl, SqL.of gb, hb, by omega, SqL.of gr, hr1, by omega, by omega, fun hgb H1 t1 => ?_, fun hgb hgr H1 t1 => ?_, fun hgb hgr H1 v t1 => ?_⟩
      · refine ⟨true, e11, fun _ px npx => ?_, fun q => nomatch q⟩
        refine ⟨_, rfl, C1, rfl, rfl, 1, rfl, by decide, hA1, fun H4 s4 => ⟨_, rfl, out _ _ (t1.trans s4) (b0 hgb)⟩⟩
      · refine ⟨false, e01, (fun q => nomatch q), fun _ => ⟨true, e00, fun _ px npx => ?_, fun q => nomatch q⟩⟩
        refine ⟨_, rfl, C0, rfl, rfl, 0, rfl, by decide, hA0, fun H4 s4 => ⟨_, rfl, out _ _ (t1.trans s4) (b1 hgb (by omega) hgr)⟩⟩
      · exact out _ _ t1 (b3 hgb (.inr hgr) (.inl w0))
    refine ⟨false, bl_of (decide_eq_false fun z => w0 (V.int.inj z)), ?_⟩
    refine ⟨_, rfl, rfl, ?_⟩
    by_cases w1 : way = 1
    · refine ⟨true, bl_of (decide_eq_true (congrArg V.int w1)), ?_⟩
      refine ⟨_, rfl, _, rfl, ps, _, _, _, rfl, rfl, SqT.of gs, at_in (by decide) rfl, _, rfl, ps, _, _, _, rfl, rfl, SqT.of gs, at_in (by decide) rfl, _, rfl, ps, _, _, _, rfl, rfl, SqT.of gs, at_in (by decide) rfl, fun x dx nx ndx nex => ?_⟩
      have s0 : Same H (upd (upd H dx (.own x)) x (.ins C dx [])) := fun b o e => by
        rw [upd_ne (ne_of_none e nx), upd_ne (ne_of_none e ndx)]
        exact e
      refine ⟨H, x, dx, pb, xs, ds, vr, vw, vu, du, rfl, s0, nx, upd_same, SqL.of gb, hb, by omega, any_dp hvr, any_dp hvw, fun H' t => ⟨any_dp (dp_same t _ _ hvr), any_dp (dp_same t _ _ hvw)⟩, hvu, fun bs r wd rule hgB hgS _ _ _ _ H1 a ea N1 t1 fresh => ⟨rfl, ?_⟩, fun hgB H1 t1 => ?_, fun hgB hgS H1 t1 => ?_⟩
      · exact out _ _ t1 (b3 hgB (.inl w1) (.inr hgS))
      · refine ⟨true, e11, fun _ px npx => ?_, fun q => nomatch q⟩
        refine ⟨_, rfl, C1, rfl, rfl, 1, rfl, by decide, hA1, fun H4 s4 => ⟨_, rfl, out _ _ (t1.trans s4) (b0 hgB)⟩⟩
      · refine ⟨false, e21, (fun q => nomatch q), fun _ => ⟨false, e20, (fun q => nomatch q), fun _ => ⟨true, e22, fun _ px npx => ?_, fun q => nomatch q⟩⟩⟩
        refine ⟨_, rfl, C2, rfl, rfl, 2, rfl, by decide, hA2, fun H4 s4 => ⟨_, rfl, out _ _ (t1.trans s4) (b2 hgB (.inl w1) (by omega) hgS)⟩⟩
    refine ⟨false, bl_of (decide_eq_false fun z => w1 (V.int.inj z)), ?_⟩
    refine ⟨_, rfl, _, rfl, _, rfl, ps, _, _, _, rfl, rfl, SqT.of gs, at_in (by decide) rfl, _, rfl, ps, _, _, _, rfl, rfl, SqT.of gs, at_in (by decide) rfl, _, rfl, ps, _, _, _, rfl, rfl, SqT.of gs, at_in (by decide) rfl, pr, pb, xs, ys, ds, dr, 9, vr, vw, vu, du, rfl, SqL.of gb, hb, by omega, SqL.of gr, hr1, by omega, fun H' t => ⟨any_dp (dp_same t _ _ hvr), any_dp (dp_same t _ _ hvw)⟩, hvu, by omega, fun hgB H1 t1 => ?_, fun hgB hgR H1 t1 => ?_, fun hgB hgR hgS H1 t1 => ?_, fun hgB hgR hgS => ?_⟩
    · refine ⟨true, e11, fun _ px npx => ?_, fun q => nomatch q⟩
      refine ⟨_, rfl, C1, rfl, rfl, 1, rfl, by decide, hA1, fun H4 s4 => ⟨_, rfl, out _ _ (t1.trans s4) (b0 hgB)⟩⟩
    · refine ⟨false, e01, (fun q => nomatch q), fun _ => ⟨true, e00, fun _ px npx => ?_, fun q => nomatch q⟩⟩
      refine ⟨_, rfl, C0, rfl, rfl, 0, rfl, by decide, hA0, fun H4 s4 => ⟨_, rfl, out _ _ (t1.trans s4) (b1 hgB w1 hgR)⟩⟩
    · refine ⟨false, e21, (fun q => nomatch q), fun _ => ⟨false, e20, (fun q => nomatch q), fun _ => ⟨true, e22, fun _ px npx => ?_, fun q => nomatch q⟩⟩⟩
      refine ⟨_, rfl, C2, rfl, rfl, 2, rfl, by decide, hA2, fun H4 s4 => ⟨_, rfl, out _ _ (t1.trans s4) (b2 hgB (.inr hgR) (by omega) hgS)⟩⟩
    · obtain ⟨bs, exs, _, _, _⟩ := good_ints hb hgB
      obtain ⟨rows, hRA, hRO, _⟩ := rows_of_good hr1 hgR
      obtain ⟨room, wd, rule, e1, e2, e3, e4⟩ := shape_forms hvu hgS
      refine ⟨rows, bs, room, wd, rule, hRA, by rw [exs, List.length_map] at hRO; exact hRO, exs, e1, e2, e3, e4, fun H' q' _ _ _ t _ _ _ _ _ _ => out _ _ t (b3 hgB (.inr hgR) (.inr hgS))⟩
abbrev s_law : Stmt := top 50
abbrev N_law : List Str := ["_law_script", "_law_boxes", "_law_rows", "_law_last", "_law_sizes", "_law_rule", "_law_shape", "_law_way", "_law_given", "_law_program", "_law_said_here"]
theorem S_law : FnScope N_law ["_law_script"] (defScope s_law) := ⟨rfl, rfl, rfl, by decide +kernel, rfl, by decide +kernel, by decide +kernel⟩

theorem ok_law (T : Txt K w mg) (D : DefAt K "law" s_law)
    (c_cell : ∀ base, Cal P w K mg base CX0 1 "_law_cell_at" (spCellAt K)) (c_boxes : ∀ base, Cal P w K mg base CX0 2 "_law_boxes_by" (spBoxesBy K)) (c_rows : ∀ base, Cal P w K mg base CX0 4 "_law_rows_by" (spRowsBy K)) (c_du : ∀ base, Cal P w K mg base CX0 4 "_law_due" (spDue K)) (c_sa : ∀ base, Cal P w K mg base CX0 9 "_law_said" (spSaid K)) : LawOk P w K mg 10 := by
  have S := S_law
  refine law_of T.toTop D S (fun _ _ _ _ _ _ _ => rfl) (fun base f cdv A outer s H a ns Q E hr hS hlen q => ?_)
  have C__law_cell_at := c_cell base
  have C__law_boxes_by := c_boxes base
  have C__law_rows_by := c_rows base
  have C__law_due := c_du base
  have C__law_said := c_sa base
  have hu64 := hu64_of hr
  refine ⟨_, (pss_cons (ps_set (i := 1) S.nd rfl (Or.inl rfl) (pe_c C__law_boxes_by hr (by decide) rfl (pa_cons (pv 0) pa_nil)))
  (pss_cons (ps_set (i := 2) S.nd rfl (Or.inl rfl) (pe_c C__law_rows_by hr (by decide) rfl (pa_cons (pv 0) (pa_cons (pe_callB (call_max2 rfl) (by rfl) T.max (by decide +kernel) (pa_cons pe_int (pa_cons (pe_callB call_len_seq (by rfl) T.len PySem.boot_len (pa_cons (pv 1) pa_nil)) pa_nil))) pa_nil))))
  (pss_cons (ps_set (i := 3) S.nd rfl (Or.inl rfl) (pe_c C__law_cell_at hr (by decide) rfl (pa_cons (pv 0) (pa_cons pe_int pa_nil))))
  (pss_cons (ps_set (i := 4) S.nd rfl (Or.inl rfl) (pe_lst (pa_cons pe_int (pa_cons pe_int (pa_cons pe_int (pa_cons pe_int (pa_cons pe_int (pa_cons (pe_op op_sub pe_int pe_int) (pa_cons pe_int (pa_cons pe_int (pa_cons pe_bl (pa_cons pe_str (pa_cons pe_non (pa_cons (pe_lst (pa_cons pe_int pa_nil)) (pa_cons pe_int (pa_cons pe_int pa_nil))))))))))))))))
  (pss_cons (ps_set (i := 5) S.nd rfl (Or.inl rfl) (pe_ix ix_list (pe_lst (pa_cons pe_str (pa_cons pe_str (pa_cons pe_str (pa_cons pe_str (pa_cons pe_non (pa_cons (pe_lst (pa_cons pe_str pa_nil)) (pa_cons pe_str (pa_cons pe_str pa_nil))))))))) (pe_op op_mod (pe_c C__law_cell_at hr (by decide) rfl (pa_cons (pv 0) (pa_cons pe_int pa_nil))) pe_int) (fun _ _ => rfl)))
  (pss_cons (ps_set (i := 6) S.nd rfl (Or.inl rfl) (pe_tup (pa_cons (pe_ix ix_list (pv 4) (pe_op op_mod (pv 3) pe_int) (fun _ _ => rfl)) (pa_cons (pe_ix ix_list (pv 4) (pe_op op_mod (pe_op op_fdiv (pv 3) pe_int) pe_int) (fun _ _ => rfl)) (pa_cons (pv 5) pa_nil)))))
  (pss_cons (ps_set (i := 7) S.nd rfl (Or.inl rfl) (pe_op op_mod (pe_c C__law_cell_at hr (by decide) rfl (pa_cons (pv 0) (pa_cons pe_int pa_nil))) pe_int))
  (pss_cons (ps_set (i := 8) S.nd rfl (Or.inl rfl) (pe_callTy call_list_of (by rfl) T.list (by decide +kernel) (pa_cons (pv 1) pa_nil)))
  (pss_cons (ps_set (i := 9) S.nd rfl (Or.inl rfl) (pe_callTy call_list_of (by rfl) T.list (by decide +kernel) (pa_cons (pv 2) pa_nil)))
  (pss_cons (ps_set (i := 10) S.nd rfl (Or.inl rfl) (pe_c C__law_said hr (by decide) rfl (pa_cons (pv 7) (pa_cons (pv 8) (pa_cons (pv 9) (pa_cons (pv 6) pa_nil))))))
  (pss_one (ps_ret (pe_and (pe_cmpR op_eq (pv 10) (pe_c C__law_due hr (by decide) rfl (pa_cons (pv 7) (pa_cons (pv 1) (pa_cons (pv 2) (pa_cons (pv 6) pa_nil))))) (nomark _)) (pe_and (pe_cmpR (op_eqD hu64) (pv 8) (pv 1) (nomark _)) (pe_one (pe_cmpR (op_eqD hu64) (pv 9) (pv 2) (nomark _))))))))))))))))), ?_⟩
  refine ⟨_, rfl, a, ns, rfl, hS, fun H1 pb xs ds t1 npb gb hb hbo hbl => ?_⟩
  refine ⟨_, rfl, _, rfl, pb, _, rfl, .inl (SqL.of gb), _, _, rfl, a, ns, _, rfl, t1.seq hS, by split <;> omega, fun H2 pr ys dr t2 npr gr hr1 hro hrl => ?_⟩
  have t12 := t1.trans t2
  refine ⟨_, rfl, a, ns, 3, rfl, t12.seq hS, by decide, ?_⟩
  generalize cellAt ns 3 = last
  refine ⟨_, _, rfl, rfl, sz_ok rfl, fun q1 nq1 => ?_⟩
  generalize e3 : upd H2 q1 _ = H3
  have t3 : Same H2 H3 := e3 ▸ Same.new nq1
  have g1 : H3 q1 = some (.lst (([1] : List Int).map V.int)) := e3 ▸ upd_same
  clear e3
  refine ⟨sz_ok rfl, fun q2 nq2 => ?_⟩
  generalize e4 : upd H3 q2 _ = H4
  have t4 : Same H3 H4 := e4 ▸ Same.new nq2
  have g2 : H4 q2 = some (.lst [.int 1, .int 200, .int 3, .int 200, .int 2, .int (-1), .int 0, .int 201, .bl true, .str "2", .non, .ref q1, .int 200, .int 7]) := e4 ▸ upd_same
  clear e4
  refine ⟨sz_ok rfl, fun q3 nq3 => ?_⟩
  generalize e5 : upd H4 q3 _ = H5
  have t5 : Same H4 H5 := e5 ▸ Same.new nq3
  have g3 : H5 q3 = some (.lst [.str "least"]) := e5 ▸ upd_same
  clear e5
  refine ⟨sz_ok rfl, fun q4 nq4 => ?_⟩
  generalize e6 : upd H5 q4 _ = H6
  have t6 : Same H5 H6 := e6 ▸ Same.new nq4
  have g4 : H6 q4 = some (.lst [.str "least", .str "first", .str "last", .str "least", .non, .ref q3, .str "first", .str "least"]) := e6 ▸ upd_same
  clear e6
  have t26 := ((t3.trans t4).trans t5).trans t6
  have s6 := t12.trans t26
  refine ⟨_, rfl, a, ns, 5, rfl, s6.seq hS, by decide, ?_⟩
  generalize cellAt ns 5 = c5
  have g36 := t6 _ _ g3
  have g16 := ((t4.trans t5).trans t6) _ _ g1
  obtain ⟨vu, du, hvu, hdok, hdp⟩ : ∃ (v : V) (d : PyData), atI [V.str "least", .str "first", .str "last", .str "least", .non, .ref q3, .str "first", .str "least"] (c5 % 8) = some v ∧ okD 1 d ∧ Dp K H6 v d := by
    have h : c5 % 8 = 0 ∨ c5 % 8 = 1 ∨ c5 % 8 = 2 ∨ c5 % 8 = 3 ∨ c5 % 8 = 4 ∨ c5 % 8 = 5 ∨ c5 % 8 = 6 ∨ c5 % 8 = 7 := by omega
    rcases h with h | h | h | h | h | h | h | h <;> rw [h]
    · exact ⟨_, _, rfl, .str _ (by decide +kernel), .str _⟩
    · exact ⟨_, _, rfl, .str _ (by decide +kernel), .str _⟩
    · exact ⟨_, _, rfl, .str _ (by decide +kernel), .str _⟩
    · exact ⟨_, _, rfl, .str _ (by decide +kernel), .str _⟩
    · exact ⟨_, _, rfl, .non _, .non⟩
    · exact ⟨_, .list [.str "least"], rfl, okD.lst (fun d hd => by cases List.mem_singleton.mp hd; exact .str _ (by decide +kernel)), .lst (SqL.of g36) (.cons (.str _) .nil)⟩
    · exact ⟨_, _, rfl, .str _ (by decide +kernel), .str _⟩
    · exact ⟨_, _, rfl, .str _ (by decide +kernel), .str _⟩
  have sz : ∀ z : Int, ∃ (v : V) (d : PyData), atI [V.int 1, .int 200, .int 3, .int 200, .int 2, .int (-1), .int 0, .int 201, .bl true, .str "2", .non, .ref q1, .int 200, .int 7] (z % 14) = some v ∧ Dp K H6 v d := fun z => by
    have h : z % 14 = 0 ∨ z % 14 = 1 ∨ z % 14 = 2 ∨ z % 14 = 3 ∨ z % 14 = 4 ∨ z % 14 = 5 ∨ z % 14 = 6 ∨ z % 14 = 7 ∨ z % 14 = 8 ∨ z % 14 = 9 ∨ z % 14 = 10 ∨ z % 14 = 11 ∨ z % 14 = 12 ∨ z % 14 = 13 := by omega
    rcases h with h | h | h | h | h | h | h | h | h | h | h | h | h | h <;> rw [h]
    · exact ⟨_, _, rfl, .int _⟩
    · exact ⟨_, _, rfl, .int _⟩
    · exact ⟨_, _, rfl, .int _⟩
    · exact ⟨_, _, rfl, .int _⟩
    · exact ⟨_, _, rfl, .int _⟩
    · exact ⟨_, _, rfl, .int _⟩
    · exact ⟨_, _, rfl, .int _⟩
    · exact ⟨_, _, rfl, .int _⟩
    · exact ⟨_, _, rfl, .bl _⟩
    · exact ⟨_, _, rfl, .str _⟩
    · exact ⟨_, _, rfl, .non⟩
    · exact ⟨_, _, rfl, .lst (SqL.of g16) (dpA_int [1])⟩
    · exact ⟨_, _, rfl, .int _⟩
    · exact ⟨_, _, rfl, .int _⟩
  refine ⟨_, _, rfl, rfl, (by show (0 : Int) < 8; decide), q4, _, _, _, rfl, rfl, SqL.of g4, hvu, ?_⟩
  obtain ⟨vr, er, hvr, hdr⟩ := sz last
  obtain ⟨vw, ew, hvw, hdw⟩ := sz (last / 14)
  have g26 := (t5.trans t6) _ _ g2
  refine ⟨_, rfl, _, rfl, _, _, rfl, rfl, (by show (0 : Int) < 14; decide), q2, _, _, _, rfl, rfl, SqL.of g26, hvr, ?_⟩
  refine ⟨_, rfl, _, rfl, _, _, rfl, rfl, ⟨by decide, by decide⟩, _, _, rfl, rfl, (by show (0 : Int) < 14; decide), q2, _, _, _, rfl, rfl, SqL.of g26, hvw, ?_⟩
  refine ⟨_, rfl, sz_ok rfl, fun ps nps => ?_⟩
  generalize e7 : upd H6 ps _ = H7
  have t7 : Same H6 H7 := e7 ▸ Same.new nps
  have gs : H7 ps = some (.tup [vr, vw, vu]) := e7 ▸ upd_same
  clear e7
  refine ⟨_, rfl, a, ns, 4, rfl, (s6.trans t7).seq hS, by decide, ?_⟩
  generalize cellAt ns 4 = c4
  have hw0 : 0 ≤ c4 % 3 := by omega
  have hw3 : c4 % 3 < 3 := by omega
  refine ⟨_, _, rfl, rfl, (by show (0 : Int) < 3; decide), ?_⟩
  dsimp only
  generalize c4 % 3 = way at hw0 hw3
  have gb7 := ((t2.trans t26).trans t7) _ _ gb
  have gr7 := (t26.trans t7) _ _ gr
  refine ⟨_, rfl, pb, _, rfl, .inl (SqL.of gb7), fun pg npg => ?_⟩
  generalize e8 : upd H7 pg _ = H8
  have t8 : Same H7 H8 := e8 ▸ Same.new npg
  have gg : H8 pg = some (.lst xs) := e8 ▸ upd_same
  clear e8
  refine ⟨_, rfl, pr, _, rfl, .inl (SqL.of (t8 _ _ gr7)), fun pp npp => ?_⟩
  generalize e9 : upd H8 pp _ = H9
  have t9 : Same H8 H9 := e9 ▸ Same.new npp
  have gp : H9 pp = some (.lst ys) := e9 ▸ upd_same
  clear e9
  have t79 := t8.trans t9
  have hb9 := dpAll_same ((t2.trans t26).trans (t7.trans t79)) _ _ hb
  have hr9 := dpAll_same (t26.trans (t7.trans t79)) _ _ hr1
  have d1 := dp_same (t7.trans t79) _ _ hdr
  have d2 := dp_same (t7.trans t79) _ _ hdw
  have d3 := dp_same (t7.trans t79) _ _ hdp
  refine ⟨_, rfl, _, rfl, _, rfl, _, rfl, way, pg, pp, ps, xs, ys, ds, dr, vr, vw, vu, er, ew, du, rfl, hw0, hw3, t9 _ _ gg, hb9, hbl, gp, hr9, hrl, t79 _ _ gs, d1, d2, d3, fun H10 t10 => ?_⟩
  refine ⟨_, rfl, _, rfl, _, rfl, _, rfl, _, rfl, way, pb, pr, ps, xs, ys, ds, dr, vr, vw, vu, er, ew, du, rfl, (t79.trans t10) _ _ gb7, dpAll_same t10 _ _ hb9, hbo, hbl, (t79.trans t10) _ _ gr7, dpAll_same t10 _ _ hr9, hro, hrl, (t79.trans t10) _ _ gs, dp_same t10 _ _ d1, dp_same t10 _ _ d2, dp_same t10 _ _ d3, hdok, fun H11 t11 => ?_⟩
  have t911 := t10.trans t11
  have hshb := (okD.lst hbo).shaped (by decide)
  have hshr := (okD.lst hro).shaped (by decide)
  refine ⟨rfl, true, bl_of (decide_eq_true rfl), ?_⟩
  refine (if_pos rfl).mpr ?_
  have hb11 := dpAll_same t911 _ _ hb9
  have hr11 := dpAll_same t911 _ _ hr9
  refine ⟨_, rfl, _, rfl, _, _, .lst (SqL.of (t911 _ _ (t9 _ _ gg))) hb11, .lst (SqL.of ((t79.trans t911) _ _ gb7)) hb11, hshb, hshb, true, bl_of (eqv_same hshb), ?_⟩
  refine (if_pos rfl).mpr ?_
  refine ⟨_, rfl, _, rfl, _, _, .lst (SqL.of (t911 _ _ gp)) hr11, .lst (SqL.of ((t79.trans t911) _ _ gr7)) hr11, hshr, hshr, ?_⟩
  rw [eqv_same hshr]
  exact q _

-- SPLIT
theorem isStr_lit (x z : Str) (t : Tok) : (Value.str x t).isStr z = decide (z = x) := by
  have h : (Value.str x t).isStr z = (x == z) := rfl
  rw [h, Bool.eq_iff_iff, beq_iff_eq, decide_eq_true_eq]
  exact eq_comm
/-- a written dict of tuples of texts, entry by entry -/
def TabOk (K : PySem.W.Frag) : List DictEntry → List (Str × List Str) → Prop
  | [], [] => True
  | e :: es, (k, l) :: r => (∃ t a, e.key = .str k t ∧ e.val = .ref a ∧ ∀ H, SqT K H a (l.map V.str)) ∧ e.refKey = false ∧ TabOk K es r
  | _, _ => False
theorem sqt_mk {K : PySem.W.Frag} {a : Addr} {dd : Option Addr} {us : Array Value} {n : Nat} {sl : Array (Option Value)} {xs : List V} (h : K.lookup a = some ⟨.type "tuple", dd, .seq us n, sl⟩) (hz : Nat.ble us.size 1000 = true) (hv : Vals xs us.toList) : ∀ H, SqT K H a xs :=
  fun H => .inr ⟨_, us, n, h, rfl, rfl, sz_ok hz, hv⟩
theorem tab_get {K : PySem.W.Frag} : ∀ {es : List DictEntry} {r : List (Str × List Str)}, TabOk K es r → ∀ z, (r.lookup z = none ∧ es.find? (·.key.isStr z) = none) ∨ ∃ l e a, r.lookup z = some l ∧ es.find? (·.key.isStr z) = some e ∧ e.val = .ref a ∧ ∀ H, SqT K H a (l.map V.str)
  | [], [], _, z => .inl ⟨rfl, rfl⟩
  | e :: es, (k, l) :: r, h, z => by
    obtain ⟨⟨t, a, hk, hv, hs⟩, _, hr⟩ := h
    by_cases hz : z = k
    · subst hz
      refine .inr ⟨l, e, a, by rw [List.lookup_cons]; simp, ?_, hv, hs⟩
      have h1 : e.key.isStr z = true := by rw [hk, isStr_lit]; exact decide_eq_true rfl
      exact List.find?_cons_of_pos (p := fun (x : DictEntry) => x.key.isStr z) h1
    · have e1 : ((k, l) :: r).lookup z = r.lookup z := by
        rw [List.lookup_cons, show (z == k) = false from beq_eq_false_iff_ne.mpr hz]
      have e2 : (e :: es).find? (·.key.isStr z) = es.find? (·.key.isStr z) := by
        have h1 : ¬ e.key.isStr z = true := by rw [hk, isStr_lit]; simp [hz]
        exact List.find?_cons_of_neg (p := fun (x : DictEntry) => x.key.isStr z) h1
      rw [e1, e2]
      exact tab_get hr z
  | [], _ :: _, h, _ => h.elim
  | _ :: _, [], h, _ => h.elim
theorem tab_ref {K : PySem.W.Frag} : ∀ {es : List DictEntry} {r : List (Str × List Str)}, TabOk K es r → es.any (·.refKey) = false
  | [], [], _ => rfl
  | e :: es, (k, l) :: r, h => by
    obtain ⟨_, h2, hr⟩ := h
    rw [List.any_cons, h2, tab_ref hr]
    rfl
  | [], _ :: _, h => h.elim
  | _ :: _, [], h => h.elim
/-- the table of the rows' words, by its nine entries -/
theorem shapes_mk {K : PySem.W.Frag} {w : World} {mg : Str → Option Value} {dS : Addr} {es : Array DictEntry} {n : Nat} (g : mg "SHAPES" = some (.ref dS)) (at_ : K.lookup dS = some ⟨.type "dict", none,   .dict es n, #[]⟩) (low : (dS == sysModules) = false)
    (lit : PySem.W.KeysLit w.params es.toList) (tab : TabOk K es.toList sTab) : Shapes K w mg dS := by
  have hr := tab_ref tab
  have ns1 : ∀ z e, es.toList.find? (·.key.isStr z) = some e → PySem.W.nsIn K dS z = some (some e.val) := fun z e h => by
    unfold PySem.W.nsIn
    rw [at_]
    simp only [h]
  have ns0 : ∀ z, es.toList.find? (·.key.isStr z) = none → PySem.W.nsIn K dS z = some none := fun z h => by
    unfold PySem.W.nsIn
    rw [at_]
    simp only [h, hr]
    rfl
  refine ⟨g, ⟨es, n, at_, lit, low⟩, fun z hz => ?_, fun z l hz => ?_⟩
  · rcases tab_get tab z with ⟨_, h⟩ | ⟨l, e, a, h, _⟩
    · exact ns0 z h
    · rw [show shapeOf z = some l from h] at hz; cases hz
  · rcases tab_get tab z with ⟨h, _⟩ | ⟨l', e, a, h, h2, h3, h4⟩
    · rw [show shapeOf z = none from h] at hz; cases hz
    · rw [show shapeOf z = some l' from h] at hz
      cases hz
      exact ⟨a, by rw [ns1 z e h2, h3], h4⟩

theorem alone5 {C0 C1 C2 C3 C4 cL D : Addr} {own : Nat} (ex : ExcC K D) (h0 : PySem.W.kitOne K (.ref D) (.ref C0) = some (decide (0 = own))) (h1 : PySem.W.kitOne K (.ref D) (.ref C1) = some (decide (1 = own)))
    (h2 : PySem.W.kitOne K (.ref D) (.ref C2) = some (decide (2 = own))) (h3 : PySem.W.kitOne K (.ref D) (.ref C3) = some (decide (3 = own))) (h4 : PySem.W.kitOne K (.ref D) (.ref C4) = some (decide (4 = own)))
    (hL : PySem.W.kitOne K (.ref D) (.ref cL) = some true) (hV : PySem.W.kitOne K (.ref D) (.type "ValueError") = some true) : AloneAt K [C0, C1, C2, C3, C4] cL D own := by
  refine ⟨ex, fun j c e => ?_, hL, hV⟩
  match j, e with
  | 0, e => cases e; exact h0
  | 1, e => cases e; exact h1
  | 2, e => cases e; exact h2
  | 3, e => cases e; exact h3
  | 4, e => cases e; exact h4
theorem excC_mk {D : Addr} (hg : PySem.W.findIn K (.ref D) "__getattribute__" = some (some (.builtin "BaseException.__getattribute__"))) (hk : PySem.W.findIn K (.ref D) "__getattr__" = some none)
    (hs : PySem.W.subIn K (.ref D) (.type "BaseException") = some true) (hd : PySem.W.hasDictIn K D = true) (ha : PySem.W.findIn K (.ref D) "__class__" = some (some (.builtin "object.__class__")))
    (hn : PySem.W.specialIn K (.builtin "object.__class__") "__get__" = some (some (.builtin "getset_descriptor.__get__"))) (ht : PySem.W.takesIn K (.builtin "object.__class__") = some true) (hm : PySem.W.mroIn K D (.type "object") = some true) : ExcC K D := ⟨hg, hk, hs, hd, ha, hn, ht, hm⟩

theorem k06_all {C0 C1 C2 C3 C4 cL C CN dS : Addr} (T : Top K mg)
    (D_law_cell_at : DefAt K "_law_cell_at" s__law_cell_at)
    (D_law_mixed : DefAt K "_law_mixed" s__law_mixed)
    (D_law_whole : DefAt K "_law_whole" s__law_whole)
    (D_is_whole : DefAt K "is_whole" s_is_whole)
    (D_is_any_whole : DefAt K "is_any_whole" s_is_any_whole)
    (D_has_shape : DefAt K "_has_shape" s__has_shape)
    (D_fits : DefAt K "fits" s_fits)
    (D_checked : DefAt K "checked" s_checked)
    (D_checked_boxes : DefAt K "checked_boxes" s_checked_boxes)
    (D_act : DefAt K "_act" s__act)
    (D_next_place : DefAt K "_next_place" s__next_place)
    (D_walk : DefAt K "walk" s_walk)
    (D_run : DefAt K "run" s_run)
    (D_line_of : DefAt K "line_of" s_line_of)
    (D_check_shape : DefAt K "_check_shape" s__check_shape)
    (D_run_near : DefAt K "run_near" s_run_near)
    (D_law_boxes_by : DefAt K "_law_boxes_by" s__law_boxes_by)
    (D_law_edge : DefAt K "_law_edge" s__law_edge)
    (D_law_marks : DefAt K "_law_marks" s__law_marks)
    (D_law_thing_by : DefAt K "_law_thing_by" s__law_thing_by)
    (D_law_fits : DefAt K "_law_fits" s__law_fits)
    (D_law_rows_by : DefAt K "_law_rows_by" s__law_rows_by)
    (D_law_good_boxes : DefAt K "_law_good_boxes" s__law_good_boxes)
    (D_law_good_rows : DefAt K "_law_good_rows" s__law_good_rows)
    (D_law_good_shape : DefAt K "_law_good_shape" s__law_good_shape)
    (D_law_due : DefAt K "_law_due" s__law_due)
    (D_law_alone : DefAt K "_law_alone" s__law_alone)
    (D_law_said : DefAt K "_law_said" s__law_said)
    (D_law : DefAt K "law" s_law)
    (m_len : PySem.W.nsIn K mainGlobals "len" = some none)
    (m_range : PySem.W.nsIn K mainGlobals "range" = some none)
    (m_isinstance : PySem.W.nsIn K mainGlobals "isinstance" = some none)
    (m_all : PySem.W.nsIn K mainGlobals "all" = some none)
    (m_int : PySem.W.nsIn K mainGlobals "int" = some none)
    (m_str : PySem.W.nsIn K mainGlobals "str" = some none)
    (m_bool : PySem.W.nsIn K mainGlobals "bool" = some none)
    (m_tuple : PySem.W.nsIn K mainGlobals "tuple" = some none)
    (m_list : PySem.W.nsIn K mainGlobals "list" = some none)
    (m_zip : PySem.W.nsIn K mainGlobals "zip" = some none)
    (m_enumerate : PySem.W.nsIn K mainGlobals "enumerate" = some none)
    (m_max : PySem.W.nsIn K mainGlobals "max" = some none)
    (m_ValueError : PySem.W.nsIn K mainGlobals "ValueError" = some none)
    (g_ROUND : ∃ u, PySem.W.nsIn K mainGlobals "ROUND" = some (some u) ∧ RelV (.int 1000000) u)
    (g_MOST : ∃ u, PySem.W.nsIn K mainGlobals "MOST" = some (some u) ∧ RelV (.int 200) u)
    (g_LEAST : ∃ u, PySem.W.nsIn K mainGlobals "LEAST" = some (some u) ∧ RelV (.str "least") u)
    (g_FIRST : ∃ u, PySem.W.nsIn K mainGlobals "FIRST" = some (some u) ∧ RelV (.str "first") u)
    (gB_BadRow : PySem.W.nsIn K mainGlobals "BadRow" = some (some (.ref C0)))
    (xB_BadRow : PySem.W.excIn K C0 [.type "ValueError", .type "Exception", .type "BaseException", .type "object"] "ValueError.__new__" = true)
    (kB_BadRow : PySem.W.keepIn K (.ref C0) = true)
    (bB_BadRow : PySem.W.subIn K (.ref C0) (.type "BaseException") = some true)
    (tB_BadRow : PySem.W.typeIn K (.ref C0) = some (.type "type"))
    (gB_BadBoxes : PySem.W.nsIn K mainGlobals "BadBoxes" = some (some (.ref C1)))
    (xB_BadBoxes : PySem.W.excIn K C1 [.type "ValueError", .type "Exception", .type "BaseException", .type "object"] "ValueError.__new__" = true)
    (kB_BadBoxes : PySem.W.keepIn K (.ref C1) = true)
    (bB_BadBoxes : PySem.W.subIn K (.ref C1) (.type "BaseException") = some true)
    (tB_BadBoxes : PySem.W.typeIn K (.ref C1) = some (.type "type"))
    (gB_BadShape : PySem.W.nsIn K mainGlobals "BadShape" = some (some (.ref C2)))
    (xB_BadShape : PySem.W.excIn K C2 [.type "ValueError", .type "Exception", .type "BaseException", .type "object"] "ValueError.__new__" = true)
    (kB_BadShape : PySem.W.keepIn K (.ref C2) = true)
    (bB_BadShape : PySem.W.subIn K (.ref C2) (.type "BaseException") = some true)
    (tB_BadShape : PySem.W.typeIn K (.ref C2) = some (.type "type"))
    (gB_NoBox : PySem.W.nsIn K mainGlobals "NoBox" = some (some (.ref C3)))
    (xB_NoBox : PySem.W.excIn K C3 [.type "ValueError", .type "Exception", .type "BaseException", .type "object"] "ValueError.__new__" = true)
    (kB_NoBox : PySem.W.keepIn K (.ref C3) = true)
    (bB_NoBox : PySem.W.subIn K (.ref C3) (.type "BaseException") = some true)
    (tB_NoBox : PySem.W.typeIn K (.ref C3) = some (.type "type"))
    (gB_BadPlan : PySem.W.nsIn K mainGlobals "BadPlan" = some (some (.ref C4)))
    (gB_LineError : PySem.W.nsIn K mainGlobals "LineError" = some (some (.ref cL)))
    (sB_C0 : PySem.W.subIn K (.ref C0) (.ref C0) = some true)
    (sB_C1 : PySem.W.subIn K (.ref C1) (.ref C1) = some true)
    (sB_C2 : PySem.W.subIn K (.ref C2) (.ref C2) = some true)
    (s_C0_C1 : PySem.W.subIn K (.ref C0) (.ref C1) = some false)
    (s_C2_C1 : PySem.W.subIn K (.ref C2) (.ref C1) = some false)
    (s_C2_C0 : PySem.W.subIn K (.ref C2) (.ref C0) = some false)
    (ex_C0 : ExcC K C0)
    (ex_C1 : ExcC K C1)
    (ex_C2 : ExcC K C2)
    (h_C0_C0 : PySem.W.kitOne K (.ref C0) (.ref C0) = some true)
    (h_C0_C1 : PySem.W.kitOne K (.ref C0) (.ref C1) = some false)
    (h_C0_C2 : PySem.W.kitOne K (.ref C0) (.ref C2) = some false)
    (h_C0_C3 : PySem.W.kitOne K (.ref C0) (.ref C3) = some false)
    (h_C0_C4 : PySem.W.kitOne K (.ref C0) (.ref C4) = some false)
    (h_C0_cL : PySem.W.kitOne K (.ref C0) (.ref cL) = some true)
    (h_C0_V : PySem.W.kitOne K (.ref C0) (.type "ValueError") = some true)
    (h_C1_C0 : PySem.W.kitOne K (.ref C1) (.ref C0) = some false)
    (h_C1_C1 : PySem.W.kitOne K (.ref C1) (.ref C1) = some true)
    (h_C1_C2 : PySem.W.kitOne K (.ref C1) (.ref C2) = some false)
    (h_C1_C3 : PySem.W.kitOne K (.ref C1) (.ref C3) = some false)
    (h_C1_C4 : PySem.W.kitOne K (.ref C1) (.ref C4) = some false)
    (h_C1_cL : PySem.W.kitOne K (.ref C1) (.ref cL) = some true)
    (h_C1_V : PySem.W.kitOne K (.ref C1) (.type "ValueError") = some true)
    (h_C2_C0 : PySem.W.kitOne K (.ref C2) (.ref C0) = some false)
    (h_C2_C1 : PySem.W.kitOne K (.ref C2) (.ref C1) = some false)
    (h_C2_C2 : PySem.W.kitOne K (.ref C2) (.ref C2) = some true)
    (h_C2_C3 : PySem.W.kitOne K (.ref C2) (.ref C3) = some false)
    (h_C2_C4 : PySem.W.kitOne K (.ref C2) (.ref C4) = some false)
    (h_C2_cL : PySem.W.kitOne K (.ref C2) (.ref cL) = some true)
    (h_C2_V : PySem.W.kitOne K (.ref C2) (.type "ValueError") = some true)
    (gW_Watched : PySem.W.nsIn K mainGlobals "Watched" = some (some (.ref C)))
    (cl_Watched : Cls K C)
    (n_Watched_boxes : PySem.W.findIn K (.ref C) "boxes" = some none)
    (n_Watched_touches : PySem.W.findIn K (.ref C) "touches" = some none)
    (mk_Watched : PySem.W.makesIn K C = true)
    (kc_Watched : PySem.W.keepIn K (.ref C) = true)
    (M_Watched_init : MethAt K C "__init__" "Watched.__init__" s_Watched___init__)
    (M_Watched_look : MethAt K C "look" "Watched.look" s_Watched_look)
    (M_Watched_put : MethAt K C "put" "Watched.put" s_Watched_put)
    (gW_Near : PySem.W.nsIn K mainGlobals "Near" = some (some (.ref CN)))
    (cl_Near : Cls K CN)
    (n_Near_far : PySem.W.findIn K (.ref CN) "far" = some none)
    (n_Near_found : PySem.W.findIn K (.ref CN) "found" = some none)
    (n_Near_missed : PySem.W.findIn K (.ref CN) "missed" = some none)
    (n_Near_back : PySem.W.findIn K (.ref CN) "back" = some none)
    (n_Near_room : PySem.W.findIn K (.ref CN) "_room" = some none)
    (n_Near_width : PySem.W.findIn K (.ref CN) "_width" = some none)
    (n_Near_rule : PySem.W.findIn K (.ref CN) "_rule" = some none)
    (n_Near_lines : PySem.W.findIn K (.ref CN) "_lines" = some none)
    (n_Near_written : PySem.W.findIn K (.ref CN) "_written" = some none)
    (mk_Near : PySem.W.makesIn K CN = true)
    (kc_Near : PySem.W.keepIn K (.ref CN) = true)
    (M_Near_init : MethAt K CN "__init__" "Near.__init__" s_Near___init__)
    (M_Near_look : MethAt K CN "look" "Near.look" s_Near_look)
    (M_Near_put : MethAt K CN "put" "Near.put" s_Near_put)
    (M_Near_held : MethAt K CN "held" "Near.held" s_Near_held)
    (M_Near_settle : MethAt K CN "settle" "Near.settle" s_Near_settle)
    (M_Near_touched_line : MethAt K CN "_touched_line" "Near._touched_line" s_Near__touched_line)
    (M_Near_find : MethAt K CN "_find" "Near._find" s_Near__find)
    (M_Near_bring : MethAt K CN "_bring" "Near._bring" s_Near__bring)
    (M_Near_let_go : MethAt K CN "_let_go" "Near._let_go" s_Near__let_go)
    (M_Near_write_back : MethAt K CN "_write_back" "Near._write_back" s_Near__write_back)
    (gS : PySem.W.nsIn K mainGlobals "SHAPES" = some (some (.ref dS)))
    (Z : (mg "SHAPES" = some (.ref dS)) → Shapes K w mg dS) : LawOk P w K mg 10 := by
  have X : Txt K w mg := ⟨T, T.none m_len, T.none m_range, T.none m_isinstance, T.none m_all, T.none m_int, T.none m_str, T.none m_bool, T.none m_tuple, T.none m_list, T.none m_zip, T.none m_enumerate, T.none m_max⟩
  obtain ⟨_, g_ROUND, t_ROUND, rfl⟩ := g_ROUND
  obtain ⟨_, g_MOST, t_MOST, rfl⟩ := g_MOST
  obtain ⟨_, g_LEAST, t_LEAST, rfl⟩ := g_LEAST
  obtain ⟨_, g_FIRST, t_FIRST, rfl⟩ := g_FIRST
  have W : NCls K CN := ⟨cl_Near, n_Near_far, n_Near_found, n_Near_missed, n_Near_back, n_Near_room, n_Near_width, n_Near_rule, n_Near_lines, n_Near_written⟩
  have gR : ∃ t, mg "ROUND" = some (.int 1000000 t) := ⟨t_ROUND, T.of g_ROUND⟩
  have gM : ∃ t, mg "MOST" = some (.int 200 t) := ⟨t_MOST, T.of g_MOST⟩
  have gL : ∃ t, mg "LEAST" = some (.str "least" t) := ⟨t_LEAST, T.of g_LEAST⟩
  have gF : ∃ t, mg "FIRST" = some (.str "first" t) := ⟨t_FIRST, T.of g_FIRST⟩
  have xB1 : ExcT K mg "BadBoxes" C1 := ⟨T.of gB_BadBoxes, xB_BadBoxes, kB_BadBoxes, bB_BadBoxes, tB_BadBoxes⟩
  have xB2 : ExcT K mg "BadShape" C2 := ⟨T.of gB_BadShape, xB_BadShape, kB_BadShape, bB_BadShape, tB_BadShape⟩
  have xB3 : ExcT K mg "NoBox" C3 := ⟨T.of gB_NoBox, xB_NoBox, kB_NoBox, bB_NoBox, tB_NoBox⟩
  have n1 := fun base => c_line_of (P := P) (base := base) X D_line_of
  have n2 := fun base => c_is_wholeV (P := P) (base := base) X D_is_whole (c_any_whole X D_is_any_whole)
  have n3 := fun base => c_is_whole (P := P) (base := base) X D_is_whole D_is_any_whole
  have n4 := fun base => c_checked_boxes (P := P) (base := base) X xB1 gM gR D_checked_boxes (n3 base)
  have n5 := fun base => c_check_shape (P := P) (base := base) X xB2 gM gL gF D_check_shape (n2 base)
  have m1 := fun base => m_write_back (P := P) (w := w) (mg := mg) (base := base) X W M_Near_write_back
  have m2 := fun base => m_let_go (P := P) (w := w) (mg := mg) (base := base) X W M_Near_let_go (m1 base)
  have m3 := fun base => m_held (P := P) (w := w) (mg := mg) (base := base) X W M_Near_held
  have m4 := fun base => m_find (P := P) (w := w) (mg := mg) (base := base) X W gL M_Near_find
  have m5 := fun base => m_bring (P := P) (w := w) (mg := mg) (base := base) X W M_Near_bring (m2 base) (m3 base)
  have m6 := fun base => m_touched_line (P := P) (w := w) (mg := mg) (base := base) X W xB3 M_Near_touched_line (n2 base) (n1 base) (m4 base) (m5 base)
  have m7 := fun base => m_lookN (P := P) (w := w) (mg := mg) (base := base) X W M_Near_look (m6 base)
  have m8 := fun base => m_putN (P := P) (w := w) (mg := mg) (base := base) X W M_Near_put (m6 base)
  have m9 := fun base => m_initN (P := P) (w := w) (mg := mg) (base := base) X W mk_Near kc_Near (T.of gW_Near) M_Near_init (n4 base) (n5 base)

  have m10 := fun base => m_settle (P := P) (w := w) (mg := mg) (base := base) X W M_Near_settle (m1 base)
  have W2 : WCls K C := ⟨cl_Watched, n_Watched_boxes, n_Watched_touches⟩
  have xB0 : ExcT K mg "BadRow" C0 := ⟨T.of gB_BadRow, xB_BadRow, kB_BadRow, bB_BadRow, tB_BadRow⟩
  have hA0 : AloneAt K [C0, C1, C2, C3, C4] cL C0 0 := alone5 ex_C0 h_C0_C0 h_C0_C1 h_C0_C2 h_C0_C3 h_C0_C4 h_C0_cL h_C0_V
  have hA1 : AloneAt K [C0, C1, C2, C3, C4] cL C1 1 := alone5 ex_C1 h_C1_C0 h_C1_C1 h_C1_C2 h_C1_C3 h_C1_C4 h_C1_cL h_C1_V
  have hA2 : AloneAt K [C0, C1, C2, C3, C4] cL C2 2 := alone5 ex_C2 h_C2_C0 h_C2_C1 h_C2_C2 h_C2_C3 h_C2_C4 h_C2_cL h_C2_V
  have e00 := PySem.W.exm_ref bB_BadRow ex_C0.hd tB_BadRow sB_C0
  have e11 := PySem.W.exm_ref bB_BadBoxes ex_C1.hd tB_BadBoxes sB_C1
  have e22 := PySem.W.exm_ref bB_BadShape ex_C2.hd tB_BadShape sB_C2
  have e01 := PySem.W.exm_ref bB_BadBoxes ex_C1.hd tB_BadBoxes s_C0_C1
  have e21 := PySem.W.exm_ref bB_BadBoxes ex_C1.hd tB_BadBoxes s_C2_C1
  have e20 := PySem.W.exm_ref bB_BadRow ex_C0.hd tB_BadRow s_C2_C0
  have c1 := fun base => c_cell_at (P := P) (base := base) X D_law_cell_at
  have c2 := fun base => c_mixed (P := P) (base := base) X D_law_mixed
  have c6 := fun base => c_has_shape (P := P) (base := base) X (Z (T.of gS)) D_has_shape
  have c7 := fun base => c_fits (P := P) (base := base) X (Z (T.of gS)) gR D_fits (n3 base) (c6 base)
  have c8 := fun base => c_checked (P := P) (base := base) X xB0 gM D_checked (c7 base)
  have w1 := fun base => m_init (P := P) (w := w) (base := base) W2 mk_Watched kc_Watched (T.of gW_Watched) M_Watched_init
  have w2 := fun base => m_look (P := P) (w := w) (mg := mg) (base := base) W2 M_Watched_look
  have w3 := fun base => m_put (P := P) (w := w) (mg := mg) (base := base) W2 M_Watched_put
  have c10 := fun base => c_act (P := P) (base := base) X D_act gR (w2 base) (w3 base)
  have c11 := fun base => c_next_place (P := P) (base := base) X D_next_place (w2 base)
  have c12 := fun base => c_walk (P := P) (base := base) X D_walk (c10 base) (c11 base)
  have c13 := fun base => c_runX (P := P) (base := base) X W2 D_run (n4 base) (c8 base) (w1 base) (c12 base)
  have d1 := fun base => m_lookM (m7 base)
  have d2 := fun base => m_putM (m8 base)
  have d3 := fun base => c_actM (P := P) (base := base) X D_act gR (d1 base) (d2 base)
  have d4 := fun base => c_next_placeM (P := P) (base := base) X D_next_place (d1 base)
  have d5 := fun base => c_walkM (P := P) (base := base) X D_walk (d3 base) (d4 base)
  have d6 := fun base => c_run_near (P := P) (base := base) X W D_run_near (n4 base) (c8 base) (m9 base) (d5 base) (m10 base)
  have f1 := fun base => c_whole (P := P) (base := base) X D_law_whole
  have f2 := fun base => c_edge (P := P) (base := base) X D_law_edge (c2 base)
  have f3 := fun base => c_marks (P := P) (base := base) X D_law_marks
  have f4 := fun base => c_thing_by (P := P) (base := base) X D_law_thing_by (c1 base) (f3 base) (f2 base)
  have f5 := fun base => c_law_fits (P := P) (base := base) X D_law_fits (f1 base) (f3 base)
  have f6 := fun base => c_boxes_by (P := P) (base := base) X D_law_boxes_by (c1 base)
  have f7 := fun base => c_rows_by (P := P) (base := base) X D_law_rows_by (c1 base) (f4 base)
  have f8 := fun base => c_good_boxes (P := P) (base := base) X D_law_good_boxes (f1 base)
  have f9 := fun base => c_good_rows (P := P) (base := base) X D_law_good_rows (f5 base)
  have f10 := fun base => c_good_shape (P := P) (base := base) X D_law_good_shape (f1 base)
  have f11 := fun base => c_due (P := P) (base := base) X D_law_due (f8 base) (f9 base) (f10 base)
  have f12 := fun base => c_alone (P := P) (base := base) (cs := [C0, C1, C2, C3, C4]) rfl X D_law_alone (T.of gB_BadRow) (T.of gB_BadBoxes) (T.of gB_BadShape) (T.of gB_NoBox) (T.of gB_BadPlan) (T.of gB_LineError) (T.none m_ValueError)
  have f13 := fun base => c_said (P := P) (base := base) X D_law_said xB0 xB1 xB2 e00 e11 e22 e01 e21 e20 hA0 hA1 hA2 (c13 base) (m9 base) (d6 base) (f12 base)
  exact ok_law X D_law c1 f6 f7 f11 f13
end
end Nl
open PySem PySem.W PyProof.Rows in
set_option maxRecDepth 100000 in
set_option maxHeartbeats 0 in
theorem PySem.Challenge.cw_nearlines_k06_what_is_refused_holds : PySem.Challenge.rw_nearlines_k06_what_is_refused.Holds := by
  w_on; o_law; k_head; (case hw => w_witness2)
  k_fill
  refine Nl.walk_end (l := PySem.Challenge.rw_nearlines_k06_what_is_refused) 10 rfl rfl ⟨rfl, by decide, by decide⟩ rfl (fun w h Y => PySem.W.kIn_of Y) fun w mg T => ?F
  case F =>
    refine' Nl.k06_all T ?D_law_cell_at ?D_law_mixed ?D_law_whole ?D_is_whole ?D_is_any_whole ?D_has_shape ?D_fits ?D_checked ?D_checked_boxes ?D_act ?D_next_place ?D_walk ?D_run ?D_line_of ?D_check_shape ?D_run_near ?D_law_boxes_by ?D_law_edge ?D_law_marks ?D_law_thing_by ?D_law_fits ?D_law_rows_by ?D_law_good_boxes ?D_law_good_rows ?D_law_good_shape ?D_law_due ?D_law_alone ?D_law_said ?D_law ?m_len ?m_range ?m_isinstance ?m_all ?m_int ?m_str ?m_bool ?m_tuple ?m_list ?m_zip ?m_enumerate ?m_max ?m_ValueError ?g_ROUND ?g_MOST ?g_LEAST ?g_FIRST ?gB_BadRow ?xB_BadRow ?kB_BadRow ?bB_BadRow ?tB_BadRow ?gB_BadBoxes ?xB_BadBoxes ?kB_BadBoxes ?bB_BadBoxes ?tB_BadBoxes ?gB_BadShape ?xB_BadShape ?kB_BadShape ?bB_BadShape ?tB_BadShape ?gB_NoBox ?xB_NoBox ?kB_NoBox ?bB_NoBox ?tB_NoBox ?gB_BadPlan ?gB_LineError ?sB_C0 ?sB_C1 ?sB_C2 ?s_C0_C1 ?s_C2_C1 ?s_C2_C0 ?ex_C0 ?ex_C1 ?ex_C2 ?h_C0_C0 ?h_C0_C1 ?h_C0_C2 ?h_C0_C3 ?h_C0_C4 ?h_C0_cL ?h_C0_V ?h_C1_C0 ?h_C1_C1 ?h_C1_C2 ?h_C1_C3 ?h_C1_C4 ?h_C1_cL ?h_C1_V ?h_C2_C0 ?h_C2_C1 ?h_C2_C2 ?h_C2_C3 ?h_C2_C4 ?h_C2_cL ?h_C2_V ?gW_Watched ?cl_Watched ?n_Watched_boxes ?n_Watched_touches ?mk_Watched ?kc_Watched ?M_Watched_init ?M_Watched_look ?M_Watched_put ?gW_Near ?cl_Near ?n_Near_far ?n_Near_found ?n_Near_missed ?n_Near_back ?n_Near_room ?n_Near_width ?n_Near_rule ?n_Near_lines ?n_Near_written ?mk_Near ?kc_Near ?M_Near_init ?M_Near_look ?M_Near_put ?M_Near_held ?M_Near_settle ?M_Near_touched_line ?M_Near_find ?M_Near_bring ?M_Near_let_go ?M_Near_write_back ?gS ?Z
    (case D_law_cell_at => (refine' Nl.def_mk ?a ?l ?c ?k; (case a => k_is); (case l => k_is); (case c => k_is); (case k => k_is)))
    (case D_law_mixed => (refine' Nl.def_mk ?a ?l ?c ?k; (case a => k_is); (case l => k_is); (case c => k_is); (case k => k_is)))
    (case D_law_whole => (refine' Nl.def_mk ?a ?l ?c ?k; (case a => k_is); (case l => k_is); (case c => k_is); (case k => k_is)))
    (case D_is_whole => (refine' Nl.def_mk ?a ?l ?c ?k; (case a => k_is); (case l => k_is); (case c => k_is); (case k => k_is)))
    (case D_is_any_whole => (refine' Nl.def_mk ?a ?l ?c ?k; (case a => k_is); (case l => k_is); (case c => k_is); (case k => k_is)))
    (case D_has_shape => (refine' Nl.def_mk ?a ?l ?c ?k; (case a => k_is); (case l => k_is); (case c => k_is); (case k => k_is)))
    (case D_fits => (refine' Nl.def_mk ?a ?l ?c ?k; (case a => k_is); (case l => k_is); (case c => k_is); (case k => k_is)))
    (case D_checked => (refine' Nl.def_mk ?a ?l ?c ?k; (case a => k_is); (case l => k_is); (case c => k_is); (case k => k_is)))
    (case D_checked_boxes => (refine' Nl.def_mk ?a ?l ?c ?k; (case a => k_is); (case l => k_is); (case c => k_is); (case k => k_is)))
    (case D_act => (refine' Nl.def_mk ?a ?l ?c ?k; (case a => k_is); (case l => k_is); (case c => k_is); (case k => k_is)))
    (case D_next_place => (refine' Nl.def_mk ?a ?l ?c ?k; (case a => k_is); (case l => k_is); (case c => k_is); (case k => k_is)))
    (case D_walk => (refine' Nl.def_mk ?a ?l ?c ?k; (case a => k_is); (case l => k_is); (case c => k_is); (case k => k_is)))
    (case D_run => (refine' Nl.def_mk ?a ?l ?c ?k; (case a => k_is); (case l => k_is); (case c => k_is); (case k => k_is)))
    (case D_line_of => (refine' Nl.def_mk ?a ?l ?c ?k; (case a => k_is); (case l => k_is); (case c => k_is); (case k => k_is)))
    (case D_check_shape => (refine' Nl.def_mk ?a ?l ?c ?k; (case a => k_is); (case l => k_is); (case c => k_is); (case k => k_is)))
    (case D_run_near => (refine' Nl.def_mk ?a ?l ?c ?k; (case a => k_is); (case l => k_is); (case c => k_is); (case k => k_is)))
    (case D_law_boxes_by => (refine' Nl.def_mk ?a ?l ?c ?k; (case a => k_is); (case l => k_is); (case c => k_is); (case k => k_is)))
    (case D_law_edge => (refine' Nl.def_mk ?a ?l ?c ?k; (case a => k_is); (case l => k_is); (case c => k_is); (case k => k_is)))
    (case D_law_marks => (refine' Nl.def_mk ?a ?l ?c ?k; (case a => k_is); (case l => k_is); (case c => k_is); (case k => k_is)))
    (case D_law_thing_by => (refine' Nl.def_mk ?a ?l ?c ?k; (case a => k_is); (case l => k_is); (case c => k_is); (case k => k_is)))
    (case D_law_fits => (refine' Nl.def_mk ?a ?l ?c ?k; (case a => k_is); (case l => k_is); (case c => k_is); (case k => k_is)))
    (case D_law_rows_by => (refine' Nl.def_mk ?a ?l ?c ?k; (case a => k_is); (case l => k_is); (case c => k_is); (case k => k_is)))
    (case D_law_good_boxes => (refine' Nl.def_mk ?a ?l ?c ?k; (case a => k_is); (case l => k_is); (case c => k_is); (case k => k_is)))
    (case D_law_good_rows => (refine' Nl.def_mk ?a ?l ?c ?k; (case a => k_is); (case l => k_is); (case c => k_is); (case k => k_is)))
    (case D_law_good_shape => (refine' Nl.def_mk ?a ?l ?c ?k; (case a => k_is); (case l => k_is); (case c => k_is); (case k => k_is)))
    (case D_law_due => (refine' Nl.def_mk ?a ?l ?c ?k; (case a => k_is); (case l => k_is); (case c => k_is); (case k => k_is)))
    (case D_law_alone => (refine' Nl.def_mk ?a ?l ?c ?k; (case a => k_is); (case l => k_is); (case c => k_is); (case k => k_is)))
    (case D_law_said => (refine' Nl.def_mk ?a ?l ?c ?k; (case a => k_is); (case l => k_is); (case c => k_is); (case k => k_is)))
    (case D_law => (refine' Nl.def_mk ?a ?l ?c ?k; (case a => k_is); (case l => k_is); (case c => k_is); (case k => k_is)))
    (case m_len => k_is)
    (case m_range => k_is)
    (case m_isinstance => k_is)
    (case m_all => k_is)
    (case m_int => k_is)
    (case m_str => k_is)
    (case m_bool => k_is)
    (case m_tuple => k_is)
    (case m_list => k_is)
    (case m_zip => k_is)
    (case m_enumerate => k_is)
    (case m_max => k_is)
    (case m_ValueError => k_is)
    (case g_ROUND => (refine' Nl.glob_mk ?h ?r; (case h => k_is); (case r => exact ⟨_, rfl⟩)))
    (case g_MOST => (refine' Nl.glob_mk ?h ?r; (case h => k_is); (case r => exact ⟨_, rfl⟩)))
    (case g_LEAST => (refine' Nl.glob_mk ?h ?r; (case h => k_is); (case r => exact ⟨_, rfl⟩)))
    (case g_FIRST => (refine' Nl.glob_mk ?h ?r; (case h => k_is); (case r => exact ⟨_, rfl⟩)))
    (case gB_BadRow => k_is)
    (case xB_BadRow => k_exc)
    (case kB_BadRow => k_is)
    (case bB_BadRow => k_is)
    (case tB_BadRow => k_is)
    (case gB_BadBoxes => k_is)
    (case xB_BadBoxes => k_exc)
    (case kB_BadBoxes => k_is)
    (case bB_BadBoxes => k_is)
    (case tB_BadBoxes => k_is)
    (case gB_BadShape => k_is)
    (case xB_BadShape => k_exc)
    (case kB_BadShape => k_is)
    (case bB_BadShape => k_is)
    (case tB_BadShape => k_is)
    (case gB_NoBox => k_is)
    (case xB_NoBox => k_exc)
    (case kB_NoBox => k_is)
    (case bB_NoBox => k_is)
    (case tB_NoBox => k_is)
    (case gB_BadPlan => k_is)
    (case gB_LineError => k_is)
    (case sB_C0 => k_is)
    (case sB_C1 => k_is)
    (case sB_C2 => k_is)
    (case s_C0_C1 => k_is)
    (case s_C2_C1 => k_is)
    (case s_C2_C0 => k_is)
    (case ex_C0 => (refine' Nl.excC_mk ?hg ?hk ?hs ?hd ?ha ?hn ?ht ?hm; (case hg => k_is); (case hk => k_is); (case hs => k_is); (case hd => k_is); (case ha => k_is); (case hn => k_is); (case ht => k_is); (case hm => k_is)))
    (case ex_C1 => (refine' Nl.excC_mk ?hg ?hk ?hs ?hd ?ha ?hn ?ht ?hm; (case hg => k_is); (case hk => k_is); (case hs => k_is); (case hd => k_is); (case ha => k_is); (case hn => k_is); (case ht => k_is); (case hm => k_is)))
    (case ex_C2 => (refine' Nl.excC_mk ?hg ?hk ?hs ?hd ?ha ?hn ?ht ?hm; (case hg => k_is); (case hk => k_is); (case hs => k_is); (case hd => k_is); (case ha => k_is); (case hn => k_is); (case ht => k_is); (case hm => k_is)))
    (case h_C0_C0 => kit_is)
    (case h_C0_C1 => kit_is)
    (case h_C0_C2 => kit_is)
    (case h_C0_C3 => kit_is)
    (case h_C0_C4 => kit_is)
    (case h_C0_cL => kit_is)
    (case h_C0_V => kit_is)
    (case h_C1_C0 => kit_is)
    (case h_C1_C1 => kit_is)
    (case h_C1_C2 => kit_is)
    (case h_C1_C3 => kit_is)
    (case h_C1_C4 => kit_is)
    (case h_C1_cL => kit_is)
    (case h_C1_V => kit_is)
    (case h_C2_C0 => kit_is)
    (case h_C2_C1 => kit_is)
    (case h_C2_C2 => kit_is)
    (case h_C2_C3 => kit_is)
    (case h_C2_C4 => kit_is)
    (case h_C2_cL => kit_is)
    (case h_C2_V => kit_is)
    (case gW_Watched => k_is)
    (case cl_Watched => (refine' Nl.cls_mk ?pg ?hd ?po ?sa; (case pg => k_is); (case hd => k_is); (case po => k_is); (case sa => k_is)))
    (case n_Watched_boxes => k_is)
    (case n_Watched_touches => k_is)
    (case mk_Watched => k_is)
    (case kc_Watched => k_is)
    (case M_Watched_init => (refine' Nl.meth_mk ?a ?i ?l ?c ?k; (case a => k_is); (case i => k_is); (case l => k_is); (case c => k_is); (case k => k_is)))
    (case M_Watched_look => (refine' Nl.meth_mk ?a ?i ?l ?c ?k; (case a => k_is); (case i => k_is); (case l => k_is); (case c => k_is); (case k => k_is)))
    (case M_Watched_put => (refine' Nl.meth_mk ?a ?i ?l ?c ?k; (case a => k_is); (case i => k_is); (case l => k_is); (case c => k_is); (case k => k_is)))
    (case gW_Near => k_is)
    (case cl_Near => (refine' Nl.cls_mk ?pg ?hd ?po ?sa; (case pg => k_is); (case hd => k_is); (case po => k_is); (case sa => k_is)))
    (case n_Near_far => k_is)
    (case n_Near_found => k_is)
    (case n_Near_missed => k_is)
    (case n_Near_back => k_is)
    (case n_Near_room => k_is)
    (case n_Near_width => k_is)
    (case n_Near_rule => k_is)
    (case n_Near_lines => k_is)
    (case n_Near_written => k_is)
    (case mk_Near => k_is)
    (case kc_Near => k_is)
    (case M_Near_init => (refine' Nl.meth_mk ?a ?i ?l ?c ?k; (case a => k_is); (case i => k_is); (case l => k_is); (case c => k_is); (case k => k_is)))
    (case M_Near_look => (refine' Nl.meth_mk ?a ?i ?l ?c ?k; (case a => k_is); (case i => k_is); (case l => k_is); (case c => k_is); (case k => k_is)))
    (case M_Near_put => (refine' Nl.meth_mk ?a ?i ?l ?c ?k; (case a => k_is); (case i => k_is); (case l => k_is); (case c => k_is); (case k => k_is)))
    (case M_Near_held => (refine' Nl.meth_mk ?a ?i ?l ?c ?k; (case a => k_is); (case i => k_is); (case l => k_is); (case c => k_is); (case k => k_is)))
    (case M_Near_settle => (refine' Nl.meth_mk ?a ?i ?l ?c ?k; (case a => k_is); (case i => k_is); (case l => k_is); (case c => k_is); (case k => k_is)))
    (case M_Near_touched_line => (refine' Nl.meth_mk ?a ?i ?l ?c ?k; (case a => k_is); (case i => k_is); (case l => k_is); (case c => k_is); (case k => k_is)))
    (case M_Near_find => (refine' Nl.meth_mk ?a ?i ?l ?c ?k; (case a => k_is); (case i => k_is); (case l => k_is); (case c => k_is); (case k => k_is)))
    (case M_Near_bring => (refine' Nl.meth_mk ?a ?i ?l ?c ?k; (case a => k_is); (case i => k_is); (case l => k_is); (case c => k_is); (case k => k_is)))
    (case M_Near_let_go => (refine' Nl.meth_mk ?a ?i ?l ?c ?k; (case a => k_is); (case i => k_is); (case l => k_is); (case c => k_is); (case k => k_is)))
    (case M_Near_write_back => (refine' Nl.meth_mk ?a ?i ?l ?c ?k; (case a => k_is); (case i => k_is); (case l => k_is); (case c => k_is); (case k => k_is)))
    (case gS => k_is)
    case Z =>
      intro g
      refine' Nl.shapes_mk g ?at_ ?low ?lit ?tab
      (case at_ => k_is)
      (case low => rfl)
      (case lit => exact ⟨⟨_, _, rfl, rfl⟩, ⟨_, _, rfl, rfl⟩, ⟨_, _, rfl, rfl⟩, ⟨_, _, rfl, rfl⟩, ⟨_, _, rfl, rfl⟩, ⟨_, _, rfl, rfl⟩, ⟨_, _, rfl, rfl⟩, ⟨_, _, rfl, rfl⟩, ⟨_, _, rfl, rfl⟩, trivial⟩)
      case tab =>
        refine' ⟨⟨_, _, rfl, rfl, ?s0⟩, rfl, ⟨_, _, rfl, rfl, ?s1⟩, rfl, ⟨_, _, rfl, rfl, ?s2⟩, rfl, ⟨_, _, rfl, rfl, ?s3⟩, rfl, ⟨_, _, rfl, rfl, ?s4⟩, rfl, ⟨_, _, rfl, rfl, ?s5⟩, rfl, ⟨_, _, rfl, rfl, ?s6⟩, rfl, ⟨_, _, rfl, rfl, ?s7⟩, rfl, ⟨_, _, rfl, rfl, ?s8⟩, rfl, trivial⟩
        (case s0 => (refine' Nl.sqt_mk ?h ?z ?v; (case h => k_is); (case z => rfl); (case v => exact (.cons ⟨_, rfl⟩ (.cons ⟨_, rfl⟩ .nil)))))
        (case s1 => (refine' Nl.sqt_mk ?h ?z ?v; (case h => k_is); (case z => rfl); (case v => exact (.cons ⟨_, rfl⟩ (.cons ⟨_, rfl⟩ .nil)))))
        (case s2 => (refine' Nl.sqt_mk ?h ?z ?v; (case h => k_is); (case z => rfl); (case v => exact (.cons ⟨_, rfl⟩ (.cons ⟨_, rfl⟩ (.cons ⟨_, rfl⟩ .nil))))))
        (case s3 => (refine' Nl.sqt_mk ?h ?z ?v; (case h => k_is); (case z => rfl); (case v => exact (.cons ⟨_, rfl⟩ (.cons ⟨_, rfl⟩ (.cons ⟨_, rfl⟩ .nil))))))
        (case s4 => (refine' Nl.sqt_mk ?h ?z ?v; (case h => k_is); (case z => rfl); (case v => exact (.cons ⟨_, rfl⟩ (.cons ⟨_, rfl⟩ .nil)))))
        (case s5 => (refine' Nl.sqt_mk ?h ?z ?v; (case h => k_is); (case z => rfl); (case v => exact (.cons ⟨_, rfl⟩ (.cons ⟨_, rfl⟩ .nil)))))
        (case s6 => (refine' Nl.sqt_mk ?h ?z ?v; (case h => k_is); (case z => rfl); (case v => exact (.cons ⟨_, rfl⟩ (.cons ⟨_, rfl⟩ (.cons ⟨_, rfl⟩ .nil))))))
        (case s7 => (refine' Nl.sqt_mk ?h ?z ?v; (case h => k_is); (case z => rfl); (case v => exact (.cons ⟨_, rfl⟩ .nil))))
        (case s8 => (refine' Nl.sqt_mk ?h ?z ?v; (case h => k_is); (case z => rfl); (case v => exact (.cons ⟨_, rfl⟩ .nil))))

