import PyProof.Rows.All
import Wide.All
import OpenK.AllK
import Wide.FinOn
import HandS.ForMost
import HandS.Codes
import HandS.Exc
import HandS.ExcOwn
import HandS.TryOnly
import HandS.WordsExc
import HandS.IsInst
import HandS.RaiseMore
import HandS.Small
import HandS.FStr
import HandS.Star
import HandS.TupAny
import HandS.Deep
import HandS.Zip
import HandS.Conv
import HandS.HotCalls
import HandS.StrMore
import HandS.Flow
import KE.KUnpackStar
import HandS.ExcIs
import HandS.SetFor
import PySem.Challenge.RW_nearlines_k02_lines_read
set_option Elab.async false
set_option linter.all false
set_option maxRecDepth 100000
/-! the layer of our own over the hand layer -/
namespace Nl
open PySem PySem.Spec PyProof.Rows L2

/-! ### a def of the top, as it stands -/
def DefAt (K : PySem.W.Frag) (x : Str) (st : Stmt) : Prop :=
  ∃ (f : Addr) (oc : Value) (od an : Option Addr) (osl : Array (Option Value)) (kV doc pm cdv ct : Value),
    PySem.W.nsIn K mainGlobals x = some (some (.ref f)) ∧
    K.lookup f = some ⟨oc, od, .func (PySem.W.fnOf x x (defArgs st) (defBody st) (defScope st) .none kV doc pm an cdv ct), osl⟩ ∧
    PySem.W.codeIn K cdv x = true ∧ PySem.W.keepIn K (.ref f) = true
theorem def_mk {K : PySem.W.Frag} {x : Str} {st : Stmt} {f : Addr} {oc : Value} {od an : Option Addr} {osl : Array (Option Value)} {kV doc pm cdv ct : Value} (a : PySem.W.nsIn K mainGlobals x = some (some (.ref f)))
    (l : K.lookup f = some ⟨oc, od, .func (PySem.W.fnOf x x (defArgs st) (defBody st) (defScope st) .none kV doc pm an cdv ct), osl⟩) (c : PySem.W.codeIn K cdv x = true) (k : PySem.W.keepIn K (.ref f) = true) : DefAt K x st :=
  ⟨f, oc, od, an, osl, kV, doc, pm, cdv, ct, a, l, c, k⟩
/-- the module's names, as the top leaves them -/
structure Top (K : PySem.W.Frag) (mg : Str → Option Value) : Prop where
  ex : ∃ (h : Heap), K.In h ∧ h.Ns mainGlobals mg
theorem Top.of {K : PySem.W.Frag} {mg : Str → Option Value} (T : Top K mg) {x : Str} {v : Value} (a : PySem.W.nsIn K mainGlobals x = some (some v)) : mg x = some v := by
  obtain ⟨h, X, G⟩ := T.ex
  exact PySem.W.mg_of X G a
theorem Top.none {K : PySem.W.Frag} {mg : Str → Option Value} (T : Top K mg) {x : Str} (a : PySem.W.nsIn K mainGlobals x = some Option.none) : mg x = Option.none := by
  obtain ⟨h, X, G⟩ := T.ex
  exact PySem.W.mg_none_of X G a

section
variable {P : Program} {w : World} {K : PySem.W.Frag} {mg : Str → Option Value} {base : Heap}
abbrev BindOk (x : Str) (st : Stmt) (ps : List Str) : Prop := ∀ (kV doc pm : Value) (an : Option Addr) (cdv ct : Value) (us : List Value), us.length = ps.length →
  bindArgs (PySem.W.fnOf x x (defArgs st) (defBody st) (defScope st) .none kV doc pm an cdv ct) ⟨us, []⟩ = pure (ps.zip us)
/-- a def called by its name keeps sp -/
structure Cal (P : Program) (w : World) (K : PySem.W.Frag) (mg : Str → Option Value) (base : Heap) (CX : CXT) (k : Nat) (x : Str) (sp : Sp) : Prop where
  ex : ∃ (f : Addr) (fd : FuncData) (ps : List Str), FnOk P w K mg base CX k f fd ps sp ∧ mg x = some (.ref f) ∧ PySem.W.keepIn K (.ref f) = true ∧ Binds K fd ps []
theorem Cal.mono {CX : CXT} {j k : Nat} {x : Str} {sp : Sp} (c : Cal P w K mg base CX j x sp) (h : j ≤ k) : Cal P w K mg base CX k x sp := by
  obtain ⟨f, fd, ps, F, r⟩ := c.ex
  exact ⟨f, fd, ps, F.mono h, r⟩
/-- a def that lets no error out -/
theorem cal_of {x : Str} {st : Stmt} {N ps : List Str} {k : Nat} {sp : Sp} (T : Top K mg) (D : DefAt K x st) (S : FnScope N ps (defScope st)) (b : BindOk x st ps) (len : ∀ vs H Q E, sp vs H Q E → vs.length = ps.length)
    (hbody : ∀ (f : Addr) (cdv : Value) (A : Around) (outer : List Env) (s : Shared) (H : Hp) (vs : List V) (Q : VK) (E : XK), Room k (A.deeper (envOfC x (defScope st) s.heap.objs.size f cdv)) → sp vs H Q E →
      ∃ t, PSs (cxOf CX0 P w K mg base N x (defScope st) f cdv A outer s H E).nox (defBody st) t ∧ t { nx := fun _ H' => Q .non H', rt := Q } (start N vs) H) : Cal P w K mg base CX0 (k + 1) x sp := by
  obtain ⟨f, oc, od, an, osl, kV, doc, pm, cdv, ct, a, l, c, kp⟩ := D
  have F := fun_mk (st := st) l c kp
  exact ⟨f, _, ps, F.ok S len (fun cdv A outer s H vs Q E hr h => hbody f cdv A outer s H vs Q E hr h), T.of a, kp, F.binds b⟩
/-- .. that may raise -/
theorem cal_ofX {x : Str} {st : Stmt} {N ps : List Str} {k : Nat} {sp : Sp} (T : Top K mg) (D : DefAt K x st) (S : FnScope N ps (defScope st)) (b : BindOk x st ps) (len : ∀ vs H Q E, sp vs H Q E → vs.length = ps.length)
    (hbody : ∀ (f : Addr) (cdv : Value) (A : Around) (outer : List Env) (s : Shared) (H : Hp) (vs : List V) (Q : VK) (E : XK), Room k (A.deeper (envOfC x (defScope st) s.heap.objs.size f cdv)) → sp vs H Q E →
      ∃ t, PSs (cxOf (L2.CX P w) P w K mg base N x (defScope st) f cdv A outer s H E) (defBody st) t ∧ t { nx := fun _ H' => Q .non H', rt := Q } (start N vs) H) : Cal P w K mg base (L2.CX P w) (k + 1) x sp := by
  obtain ⟨f, oc, od, an, osl, kV, doc, pm, cdv, ct, a, l, c, kp⟩ := D
  have F := fun_mk (st := st) l c kp
  exact ⟨f, _, ps, F.okX S len (fun cdv A outer s H vs Q E hr h => hbody f cdv A outer s H vs Q E hr h), T.of a, kp, F.binds b⟩
end
section
variable {X : Cx} {k j : Nat} {x : Str} {sp : Sp} {p pos : Pos} {e : Expr} {es : List Expr} {t : TA}
/-- f(..), f lets no error out -/
theorem pe_c (c : Cal X.prog X.w X.K X.mg X.base CX0 k x sp) (hr : Room j X.A) (hk : k ≤ j) (hg : Gl X x) (ha : PA X (e :: es) t)
    (hdb : (x == ("__debug__" : Str)) = false := by decide) (he : starEach (e :: es) X.env = (false, eval e X.env) :: starEach es X.env := by rfl) (hpl : (backTo pos (starEach es X.env)).any (·.1) = false := by rfl) :
    PE X (.Call (.Name x p) (e :: es) [] pos) (tCall sp [] E0 t) := by
  obtain ⟨f, fd, ps, F, hm, kp, b⟩ := c.ex
  exact pe_call F (hr.mono hk) hg hm kp b .nil pass0 ha hdb he hpl
/-- f(..), f may raise: what is raised is wished for by W -/
theorem pe_cx {W : WX} (c : Cal X.prog X.w X.K X.mg X.base (L2.CX X.prog X.w) k x sp) (tk : Takes X W) (hr : Room j X.A) (hk : k ≤ j) (hg : Gl X x) (ha : PA X (e :: es) t)
    (hdb : (x == ("__debug__" : Str)) = false := by decide) (he : starEach (e :: es) X.env = (false, eval e X.env) :: starEach es X.env := by rfl) (hpl : (backTo pos (starEach es X.env)).any (·.1) = false := by rfl) :
    PE X (.Call (.Name x p) (e :: es) [] pos) (tCallS sp (WE W) t) := by
  obtain ⟨f, fd, ps, F, hm, kp, b⟩ := c.ex
  exact pe_callS F (hr.mono hk) hg hm kp b (fun σ => passAt tk σ) ha hdb he hpl
/-- .. where it does not raise -/
theorem pe_c0 (c : Cal X.prog X.w X.K X.mg X.base (L2.CX X.prog X.w) k x sp) (hr : Room j X.A) (hk : k ≤ j) (hg : Gl X x) (ha : PA X (e :: es) t)
    (hdb : (x == ("__debug__" : Str)) = false := by decide) (he : starEach (e :: es) X.env = (false, eval e X.env) :: starEach es X.env := by rfl) (hpl : (backTo pos (starEach es X.env)).any (·.1) = false := by rfl) :
    PE X (.Call (.Name x p) (e :: es) [] pos) (tCall sp [] E0 t) := by
  obtain ⟨f, fd, ps, F, hm, kp, b⟩ := c.ex
  exact pe_call F (hr.mono hk) hg hm kp b .nil passL ha hdb he hpl
end

/-! ### places -/
theorem at_in {α : Type} {xs : List α} {i : Int} {v : α} (h0 : 0 ≤ i) (h : xs[i.toNat]? = some v) : atI xs i = some v := by
  have e : i = ((i.toNat : Nat) : Int) := (Int.toNat_of_nonneg h0).symm
  rw [e]
  exact atI_nat (by simpa using h)
theorem at_getD {α : Type} {xs : List α} {i : Int} {d : α} (h0 : 0 ≤ i) (h : i < xs.length) : atI xs i = some (xs.getD i.toNat d) := by
  refine at_in h0 ?_
  have : i.toNat < xs.length := by omega
  rw [List.getD_eq_getElem?_getD, List.getElem?_eq_getElem this]; rfl
theorem at_ints {ns : List Int} {i : Int} (h0 : 0 ≤ i) (h : i < ns.length) : atI (ns.map V.int) i = some (.int (ns.getD i.toNat 0)) := by
  refine at_in h0 ?_
  have : i.toNat < ns.length := by omega
  rw [List.getElem?_map, List.getD_eq_getElem?_getD, List.getElem?_eq_getElem this]; rfl
theorem at_strs {ns : List Str} {i : Int} (h0 : 0 ≤ i) (h : i < ns.length) : atI (ns.map V.str) i = some (.str (ns.getD i.toNat Str.empty)) := by
  refine at_in h0 ?_
  have : i.toNat < ns.length := by omega
  rw [List.getElem?_map, List.getD_eq_getElem?_getD, List.getElem?_eq_getElem this]; rfl
theorem mod_nn (c : Int) {n : Int} (h : 0 < n) : 0 ≤ c % n := Int.emod_nonneg c (by omega)
theorem mod_lt (c : Int) {n : Int} (h : 0 < n) : c % n < n := Int.emod_lt_of_pos c h
theorem at_ints_mod {ns : List Int} (c : Int) {n : Int} (h : 0 < n) (e : (ns.length : Int) = n) : atI (ns.map V.int) (c % n) = some (.int (ns.getD (c % n).toNat 0)) :=
  at_ints (mod_nn c h) (by rw [e]; exact mod_lt c h)
theorem at_strs_mod {ns : List Str} (c : Int) {n : Int} (h : 0 < n) (e : (ns.length : Int) = n) : atI (ns.map V.str) (c % n) = some (.str (ns.getD (c % n).toNat Str.empty)) :=
  at_strs (mod_nn c h) (by rw [e]; exact mod_lt c h)
theorem _root_.L2.Same.sqt {K : PySem.W.Frag} {H H' : Hp} {a : Addr} {xs : List V} (e : Same H H') (h : SqT K H a xs) : SqT K H' a xs := by
  rcases h with (h | ⟨o, h⟩) | h
  · exact .inl (.inl (e _ _ h))
  · exact .inl (.inr ⟨o, e _ _ h⟩)
  · exact .inr h
theorem _root_.L2.Same.new {H : Hp} {p : Addr} {o : HO} (h : H p = none) : Same H (upd H p o) := fun a u e => by
  rw [upd_ne (ne_of_none e h)]
  exact e
theorem _root_.L2.Same.more {H0 H : Hp} {p : Addr} {o : HO} (s : Same H0 H) (h : H p = none) : Same H0 (upd H p o) := s.trans (Same.new h)
/-- an object that H0 does not know changes -/
theorem _root_.L2.Same.mut {H0 H : Hp} {p : Addr} {o : HO} (s : Same H0 H) (h : H0 p = none) : Same H0 (upd H p o) := fun a u e => by
  rw [upd_ne (ne_of_none e h)]
  exact s a u e
/-! ### comprehensions whose elements leave the tracked things as they are -/
/-- the new list keeps: at its address D what is made so far -/
theorem lc_gen {J : It} {g : TG} {tt : TT} {te : TE} {vs : List Nat} {σ : L2.St} {H1 : Hp} {D : Addr} {Qd : Hp → Prop} (n : Nat) (R : Nat → V → Hp → Prop) (fs : Nat → Option V) (hD : H1 D = none) (hz : n < sizeLine)
    (go : ∀ i H, i < n → Same H1 H → J.go i H) (stop : ∀ H, Same H1 H → J.stop n H) (yld : ∀ i H x H', i < n → Same H1 H → J.yld i H x H' → Same H H' ∧ R i x H')
    (hs : ∀ i x H, i < n → Same H1 H → R i x H → ∀ (k1 : VK) (k0 : Hp → Prop), (∀ v H', fs i = some v → Same H H' → k1 v H') → (∀ H', fs i = none → Same H H' → k0 H') →
      g x (wipe σ vs) H fun σ2 H2 => wipe σ2 vs = wipe σ vs ∧ tt σ2 H2 fun b H3 => if b = true then te σ2 H3 k1 else k0 H3)
    (hd : ∀ H, Same H1 H → H D = some (.lst ((List.range n).filterMap fs)) → Qd H) :
    ∃ W : Nat → Nat → Hp → Prop, (∃ m, W 0 m (upd H1 D (.lst []))) ∧ ∀ i m H, W i m H →
      (J.stop i H ∧ Qd H) ∨ (J.go i H ∧ ∃ Nx : Hp → Prop, (∀ H', Nx H' → ∃ m', m' < m ∧ W (i + 1) m' H') ∧ ∀ x H', J.yld i H x H' → g x (wipe σ vs) H' fun σ2 H2 => wipe σ2 vs = wipe σ vs ∧ tt σ2 H2 fun b H3 =>
        if b = true then te σ2 H3 fun y H4 => ∃ acc, H4 D = some (.lst acc) ∧ acc.length < sizeLine ∧ Nx (upd H4 D (.lst (acc ++ [y]))) else Nx H3) := by
  refine ⟨fun i m H => m = n - i ∧ i ≤ n ∧ Same H1 H ∧ H D = some (.lst ((List.range i).filterMap fs)), ⟨n, by simp, Nat.zero_le _, Same.new hD, upd_same⟩, ?_⟩
  rintro i m H ⟨rfl, hi, s1, h1⟩
  by_cases hlt : i < n
  · refine .inr ⟨go i H hlt s1, fun H' => Same H1 H' ∧ H' D = some (.lst ((List.range (i + 1)).filterMap fs)), fun H' p' => ⟨n - (i + 1), by omega, rfl, hlt, p'⟩, fun x H' y => ?_⟩
    obtain ⟨s2, r⟩ := yld i H x H' hlt s1 y
    refine hs i x H' hlt (s1.trans s2) r _ _ (fun v H'' e s3 => ?_) (fun H'' e s3 => ?_)
    · refine ⟨_, s3 _ _ (s2 _ _ h1), ?_, ((s1.trans s2).trans s3).mut hD, ?_⟩
      · exact Nat.lt_of_le_of_lt (Nat.le_trans (List.length_filterMap_le _ _) (by rw [List.length_range]; omega)) hz
      · rw [upd_same, List.range_succ, List.filterMap_append]
        simp [e]
    · refine ⟨(s1.trans s2).trans s3, ?_⟩
      rw [s3 _ _ (s2 _ _ h1), List.range_succ, List.filterMap_append]
      simp [e]
  · have e : i = n := by omega
    subst e
    exact .inl ⟨stop H s1, hd H s1 h1⟩
theorem range_fm {α β : Type} (xs : List α) (f : α → Option β) : (List.range xs.length).filterMap (fun i => (xs[i]?).bind f) = xs.filterMap f := by
  induction xs with
  | nil => rfl
  | cons x xs ih =>
    rw [List.length_cons, List.range_succ_eq_map, List.filterMap_cons, List.filterMap_map, List.filterMap_cons]
    have e : (List.range xs.length).filterMap ((fun i => ((x :: xs)[i]?).bind f) ∘ Nat.succ) = xs.filterMap f := by
      rw [← ih]
      rfl
    rw [e]
    rfl
section
variable {K : PySem.W.Frag} {g : TG} {tt : TT} {te : TE} {vs : List Nat} {σ : L2.St} {H1 : Hp} {D a : Addr} {Qd : Hp → Prop} {xs : List V}
abbrev LcW (J : It) (g : TG) (tt : TT) (te : TE) (vs : List Nat) (σ : L2.St) (H1 : Hp) (D : Addr) (Qd : Hp → Prop) : Prop :=
  ∃ W : Nat → Nat → Hp → Prop, (∃ m, W 0 m (upd H1 D (.lst []))) ∧ ∀ i m H, W i m H →
      (J.stop i H ∧ Qd H) ∨ (J.go i H ∧ ∃ Nx : Hp → Prop, (∀ H', Nx H' → ∃ m', m' < m ∧ W (i + 1) m' H') ∧ ∀ x H', J.yld i H x H' → g x (wipe σ vs) H' fun σ2 H2 => wipe σ2 vs = wipe σ vs ∧ tt σ2 H2 fun b H3 =>
        if b = true then te σ2 H3 fun y H4 => ∃ acc, H4 D = some (.lst acc) ∧ acc.length < sizeLine ∧ Nx (upd H4 D (.lst (acc ++ [y]))) else Nx H3)
abbrev LcTurn (g : TG) (tt : TT) (te : TE) (vs : List Nat) (σ : L2.St) (x : V) (H : Hp) (fx : Option V) : Prop := ∀ (k1 : VK) (k0 : Hp → Prop), (∀ v H', fx = some v → Same H H' → k1 v H') → (∀ H', fx = none → Same H H' → k0 H') →
      g x (wipe σ vs) H fun σ2 H2 => wipe σ2 vs = wipe σ vs ∧ tt σ2 H2 fun b H3 => if b = true then te σ2 H3 k1 else k0 H3
/-- over a list: [f x for x in xs if ..] -/
theorem lc_fl (f : V → Option V) (hD : H1 D = none) (hq : SqL K H1 a xs) (hz : xs.length < sizeLine) (hs : ∀ (i : Nat) x H, xs[i]? = some x → Same H1 H → LcTurn g tt te vs σ x H (f x))
    (hd : ∀ H, Same H1 H → H D = some (.lst (xs.filterMap f)) → Qd H) : LcW (Itl K a) g tt te vs σ H1 D Qd :=
  lc_gen xs.length (fun i x _ => xs[i]? = some x) (fun i => (xs[i]?).bind f) hD hz
    (fun i H hi s => ⟨xs, xs[i], s.seq hq, by simp [hi]⟩) (fun H s => ⟨xs, s.seq hq, Nat.le_refl _⟩) (fun i H x H' hi s y => by
      obtain ⟨e, y⟩ := y
      subst e
      exact ⟨Same.refl _, y xs (s.seq hq)⟩)
    (fun i x H hi s r k1 k0 h1 h0 => hs i x H r s k1 k0 (fun v H' e => h1 v H' (by rw [r]; exact e)) (fun H' e => h0 H' (by rw [r]; exact e))) (fun H s h => hd H s (by rw [h, range_fm]))
/-- over a tuple -/
theorem lc_ft (f : V → Option V) (hD : H1 D = none) (hq : SqT K H1 a xs) (hz : xs.length < sizeLine) (hs : ∀ (i : Nat) x H, xs[i]? = some x → Same H1 H → LcTurn g tt te vs σ x H (f x))
    (hd : ∀ H, Same H1 H → H D = some (.lst (xs.filterMap f)) → Qd H) : LcW (Itt K a) g tt te vs σ H1 D Qd :=
  lc_gen xs.length (fun i x _ => xs[i]? = some x) (fun i => (xs[i]?).bind f) hD hz
    (fun i H hi s => ⟨xs, xs[i], s.sqt hq, by simp [hi]⟩) (fun H s => ⟨xs, s.sqt hq, Nat.le_refl _⟩) (fun i H x H' hi s y => by
      obtain ⟨e, y⟩ := y
      subst e
      exact ⟨Same.refl _, y xs (s.sqt hq)⟩)
    (fun i x H hi s r k1 k0 h1 h0 => hs i x H r s k1 k0 (fun v H' e => h1 v H' (by rw [r]; exact e)) (fun H' e => h0 H' (by rw [r]; exact e))) (fun H s h => hd H s (by rw [h, range_fm]))
/-- over range(lo, lo + n) -/
theorem lc_fr {lo : Int} {n : Nat} (f : Nat → Option V) (hD : H1 D = none) (hz : n < sizeLine) (hs : ∀ (i : Nat) H, i < n → Same H1 H → LcTurn g tt te vs σ (.int (lo + i)) H (f i))
    (hd : ∀ H, Same H1 H → H D = some (.lst ((List.range n).filterMap f)) → Qd H) : LcW (Itr lo n) g tt te vs σ H1 D Qd :=
  lc_gen n (fun i x _ => x = .int (lo + i)) f hD hz (fun i H hi s => hi) (fun H s => Nat.le_refl _) (fun i H x H' hi s y => by
      obtain ⟨e, y⟩ := y
      subst e
      exact ⟨Same.refl _, y⟩)
    (fun i x H hi s r k1 k0 h1 h0 => by subst r; exact hs i H hi s k1 k0 h1 h0) hd
end
/-! ### the law's own def, the end -/
def spLaw (K : PySem.W.Frag) : Sp := fun vs H Q _ => ∃ (a : Addr) (ns : List Int), vs = [.ref a] ∧ SqL K H a (ns.map V.int) ∧ ns.length ≤ 63 ∧ ∀ H', Q (.bl true) H'
abbrev LawOk (P : Program) (w : World) (K : PySem.W.Frag) (mg : Str → Option Value) (k : Nat) : Prop :=
  ∃ (f : Addr) (fd : FuncData), mg "law" = some (.ref f) ∧ (∀ (s : Shared) (v : Value), BindsTo s fd ⟨[v], []⟩ [("_law_script", v)]) ∧ ∀ base : Heap, FnOk P w K mg base CX0 k f fd ["_law_script"] (spLaw K)
theorem law_of {P : Program} {w : World} {K : PySem.W.Frag} {mg : Str → Option Value} {st : Stmt} {N : List Str} {k : Nat} (T : Top K mg) (D : DefAt K "law" st) (S : FnScope N ["_law_script"] (defScope st))
    (b : ∀ (kV doc pm : Value) (an : Option Addr) (cdv ct v : Value), bindArgs (PySem.W.fnOf "law" "law" (defArgs st) (defBody st) (defScope st) .none kV doc pm an cdv ct) ⟨[v], []⟩ = pure [(("_law_script" : Str), v)])
    (hbody : ∀ (base : Heap) (f : Addr) (cdv : Value) (A : Around) (outer : List Env) (s : Shared) (H : Hp) (a : Addr) (ns : List Int) (Q : VK) (E : XK), Room k (A.deeper (envOfC "law" (defScope st) s.heap.objs.size f cdv)) → SqL K H a (ns.map V.int) → ns.length ≤ 63 → (∀ H', Q (.bl true) H') →
      ∃ t, PSs (cxOf CX0 P w K mg base N "law" (defScope st) f cdv A outer s H E).nox (defBody st) t ∧ t { nx := fun _ H' => Q .non H', rt := Q } (start N [.ref a]) H) : LawOk P w K mg (k + 1) := by
  obtain ⟨f, oc, od, an, osl, kV, doc, pm, cdv, ct, a, l, c, kp⟩ := D
  have F := fun_mk (st := st) l c kp
  refine ⟨f, _, T.of a, fun s v => .of_eq (b kV doc pm an cdv ct v), fun base => F.ok S (fun vs H Q E h => ?_) fun cdv A outer s H vs Q E hr h => ?_⟩
  · obtain ⟨_, _, rfl, _⟩ := h
    rfl
  · obtain ⟨a, ns, rfl, h1, h2, h3⟩ := h
    exact hbody base f cdv A outer s H a ns Q E hr h1 h2 h3
theorem walk_end {l : PySem.W.OpenLaw} {q : Program} {loose : List Str} {XP : (Str → Option Value) → Heap → Prop} {YP : World → Heap → Prop} {d : DefRec} {K : Params → PySem.W.Frag} (k : Nat) (hn : l.most = some 63) (hdf : d.params.defaults = []) (hr : Room k callerA) (hd : d.name = "law")
    (hY : ∀ (w : World) (h : Heap), YP w h → (K w.params).In h)
    (F : ∀ (w : World) (mg : Str → Option Value), Top (K w.params) mg → LawOk l.prog w (K w.params) mg k) :
    PySem.W.WalkO q loose XP YP l.row.toRowW d [] (fun f vs => PySem.call f vs) :=
  L2.walk_of (n := 63) (k := k) (x := "_law_script") (CX := fun _ => CX0) (sp := fun w => spLaw (K w.params)) hn (by decide) hdf hr hY (fun w mg fa h X G hm => by
    obtain ⟨f, fd, e, b, ok⟩ := F w mg ⟨h, X, G⟩
    rw [hd, e] at hm
    cases hm
    exact ⟨fd, b, fun base _ _ => ok base⟩) (fun _ _ a ns hl _ hS => ⟨a, ns, rfl, hS, hl, fun _ => rfl⟩) fun _ _ _ _ _ z => z
/-! ### a block cut in two: P is what holds between -/
def tCut (D : Ends) (P : L2.St → Hp → Prop) : TS := fun D' σ H => D' = D ∧ P σ H
theorem pss_cut {X : Cx} {rest : List Stmt} {D : Ends} {P : L2.St → Hp → Prop} (h : ∃ u, PSs X rest u ∧ ∀ σ H, P σ H → u D σ H) : PSs X rest (tCut D P) := by
  obtain ⟨u, hu, hP⟩ := h
  refine ⟨fun pins s σ H D' I h => ?_⟩
  obtain ⟨e, h⟩ := h
  subst e
  exact hu.run pins s σ H D' I (hP σ H h)
/-! ### texts -/
/-- for c in a text -/
theorem for_its {x : Str} {g : TG} {tb : TS} {D : Ends} {σ : L2.St} {H : Hp} (Pv : Nat → L2.St → Hp → Prop) (h0 : Pv 0 σ H)
    (hs : ∀ i c σ H, x.cps[i]? = some c → Pv i σ H → g (.str ⟨#[c]⟩) σ H fun σ2 H2 => tb { D with nx := Pv (i + 1), ct := Pv (i + 1), bk := D.nx } σ2 H2) (hd : ∀ σ H, Pv x.cps.size σ H → D.nx σ H) :
    ∃ W : Nat → Nat → L2.St → Hp → Prop, (∃ m, W 0 m σ H) ∧ ∀ i m σ H, W i m σ H →
      ((Its x).stop i H ∧ D.nx σ H) ∨ ((Its x).go i H ∧ ∃ N : L2.St → Hp → Prop, (∀ σ' H', N σ' H' → ∃ m', m' < m ∧ W (i + 1) m' σ' H') ∧ ∀ y H', (Its x).yld i H y H' → g y σ H' fun σ2 H2 => tb { D with nx := N, ct := N, bk := D.nx } σ2 H2) := by
  refine ⟨fun i m σ H => m = x.cps.size - i ∧ i ≤ x.cps.size ∧ Pv i σ H, ⟨x.cps.size, by simp, Nat.zero_le _, h0⟩, ?_⟩
  rintro i m σ H ⟨rfl, hi, p⟩
  by_cases hlt : i < x.cps.size
  · refine .inr ⟨hlt, Pv (i + 1), fun σ' H' p' => ⟨x.cps.size - (i + 1), by omega, rfl, hlt, p'⟩, fun y H' q => ?_⟩
    obtain ⟨e, c, hc, ey⟩ := q
    subst e ey
    exact hs i c σ _ hc p
  · have e : i = x.cps.size := by omega
    subst e
    exact .inl ⟨Nat.le_refl _, hd σ H p⟩
theorem cutS_len (z : Str) (lo hi : Option Int) : (cutS z lo hi).length ≤ z.length := by
  show (((z.cps.toList.drop _).take _).toArray).size ≤ z.cps.size
  rw [List.size_toArray, List.length_take, List.length_drop, Array.length_toList]
  omega
theorem app_len (a b : Str) : (a ++ b).length = a.length + b.length := by
  show (a.cps ++ b.cps).size = a.cps.size + b.cps.size
  exact Array.size_append
/-- a text some times over -/
theorem op_repS {X : Cx} : OpR X (binaryOp .Mult) (fun x y H Q => ∃ (z : Str) (n : Int), x = .str z ∧ y = .int n ∧ PySem.MulOk z n ∧ Q (.str (Txt.mul z n)) H) := by
  intro pins s σ H x y v u Q I rx ry h
  obtain ⟨z, n, rfl, rfl, ok, q⟩ := h
  obtain ⟨t, rfl⟩ := rx
  obtain ⟨t', rfl⟩ := ry
  exact PySem.SB.mul ok fun t2 k => ⟨.str _, H, I.tok k, ⟨t2, rfl⟩, q⟩
theorem bl_of {b c : Bool} (h : b = c) : V.bl b = V.bl c := congrArg V.bl h
theorem fm_some {α β : Type} (xs : List α) (f : α → β) : xs.filterMap (fun x => some (f x)) = xs.map f := by
  induction xs with
  | nil => rfl
  | cons x xs ih => simp
/-! ### the helpers every law has -/
def cellAt (ns : List Int) (k : Int) : Int := ns.getD k.toNat 0
def mixed (c : Int) : Int := c * 48271 % 2147483647
def spCellAt (K : PySem.W.Frag) : Sp := fun vs H Q _ => ∃ (a : Addr) (ns : List Int) (k : Int), vs = [.ref a, .int k] ∧ SqL K H a (ns.map V.int) ∧ 0 ≤ k ∧ Q (.int (cellAt ns k)) H
def spMixed : Sp := fun vs H Q _ => ∃ c : Int, vs = [.int c] ∧ Q (.int (mixed c)) H
end Nl

set_option Elab.async false
set_option linter.all false
set_option maxRecDepth 100000
set_option maxHeartbeats 1000000
namespace Nl
open PySem PySem.Spec PySem.Calls PyProof.Rows PySem.W
/-- a, *rest = a list: the rest is a new list -/
theorem star_list {prog : Program} {w : World} {A : Around} {E : Value → Shared → Prop} {s : Shared} {l : Addr} {items : Array Value} {first rest : List Value} {Q : List Value → Shared → Prop}
    (hl : s.heap.IsList l items) (hh : A.handled = none) (hn : 1 ≤ items.size) (hz : items.size ≤ 16384) (h1 : items.toList = first ++ rest) (h2 : first.length = 1)
    (h : ∀ (h₂ : Heap) (tk : Nat), (∀ b o, s.heap.get? b = some o → h₂.get? b = some o) → Q (first ++ [.ref h₂.objs.size]) { s with heap := h₂.push { cls := .type "list", data := .seq rest.toArray 0 }, toks := tk }) :
    wpAny (model prog w) A (unpackItems (.ref l) 2 (some 1)) Q E s := by
  have hlt : l ≠ s.heap.objs.size := by obtain ⟨o, ho, _⟩ := hl; exact Nat.ne_of_lt (Heap.lt_size ho)
  have hsz : items.toList.length = items.size := Array.length_toList
  have ht : items.toList.take 1 = first := by rw [h1, List.take_append_of_le_length (by omega), List.take_of_length_le (by omega)]
  have hd : items.toList.drop 1 = rest := by rw [h1, List.drop_append_of_le_length (by omega), List.drop_of_length_le (by omega)]; rfl
  unfold unpackItems
  refine wpAny_bind ?_
  unfold notIterableAtAll
  refine wpAny_bind (wpAny_specialOf hl.typeIs slot_list_iter.lookup ?_)
  refine wpAny_pure ?_
  simp only [Bool.false_eq_true, if_false]
  refine wpAny_bind (wpAny_holding (wpAny_pyIter_list hl ?_))
  refine wpAny_bind (wpAny_holding (kun_draw hlt 1 0 _ _ ⟨_, Heap.get?_push_size _ rfl, rfl, rfl⟩ (hl.push _) (by omega) fun h₁ hit₁ hs₁ => ?_))
  have hl₁ : h₁.IsList l items := (hl.push _).extBut hs₁.extBut hlt
  rw [Nat.zero_add] at hit₁
  have hit₁' := hit₁
  obtain ⟨oi, hoi, _⟩ := hit₁'
  have hl₁' := hl₁
  obtain ⟨ol, hol, _⟩ := hl₁'
  rw [List.drop_zero, ht]
  rw [if_neg (show ¬ (first.length < 1) by omega)]
  refine wpAny_bind (wpAny_holding (kun_collect (s := { s with heap := h₁ }) (T := "list_iterator") (.inr (.inr (.inl rfl))) (Walks.list (A := A.in1) hh s.heap.objs.size l hlt items) (fun j u st => st.1.typeIs) (k := 1) (by omega) ⟨hit₁, hl₁⟩ (Heap.lt_size hoi) (Heap.lt_size hol) (fun h₂ tk hk => ?_) (by rw [sizeLine_eq]; omega)))
  rw [hd]
  show wpAny _ _ (if rest.length < 0 then _ else _) _ _ _
  rw [if_neg (Nat.not_lt_zero _)]
  show wpAny _ _ (newList (rest.take (rest.length - 0)) >>= fun d => pure (first ++ [d] ++ rest.drop (rest.length - 0))) _ _ _
  rw [Nat.sub_zero, List.take_length, List.drop_length]
  have hr : rest.length ≤ items.size := by rw [← hsz, h1, List.length_append]; omega
  have he : ∀ b o, s.heap.get? b = some o → h₂.get? b = some o := fun b o e =>
    hk b o (Nat.ne_of_lt (Heap.lt_size e)) ((hs₁.2 b (Nat.ne_of_lt (Heap.lt_size e))).trans (Heap.get?_push_of_some _ e))
  refine wpAny_bind (wpAny_newObj_type ?_ (by show rest.toArray.size ≤ sizeLine; rw [List.size_toArray, sizeLine_eq]; omega))
  refine wpAny_pure ?_
  rw [List.append_nil]
  exact h h₂ tk he
end Nl
namespace Nl
open PySem PySem.Spec PyProof.Rows L2
/-- a, *rest = xs, a list; both names in slots -/
def gStar (K : PySem.W.Frag) (i j : Nat) : TG := fun v σ H Q => ∃ a x xs, v = .ref a ∧ SqL K H a (x :: xs) ∧ xs.length < 16384 ∧ ∀ p, H p = none → Q ((σ.set i (some x)).set j (some (.ref p))) (upd H p (.lst xs))
theorem pg_star {X : Cx} {i j : Nat} {x y : Str} {px py pp pos : Pos} {k1 : Nat} (hc : X.calm = true) (hN : X.N.Nodup) (hi : X.N[i]? = some x) (hx : Loc X.env.scope x) (hj : X.N[j]? = some y) (hy : Loc X.env.scope y)
    (fx : X.fn x = true ∨ X.env.scope.names.lookup x = some .local := by first | exact .inl rfl | exact .inr rfl | assumption) (fy : X.fn y = true ∨ X.env.scope.names.lookup y = some .local := by first | exact .inl rfl | exact .inr rfl | assumption) :
    PG X (.Tuple [.Name x px, .Starred (.Name y py) pp] k1 pos) (gStar X.K i j) := by
  refine ⟨fun pins s σ H v u Q I r h => ?_⟩
  obtain ⟨a, x1, xs, rfl, hs, hz, q⟩ := h
  cases r
  obtain ⟨its, rv, pl, hl⟩ := I.list hs
  have el : (x1 :: xs).length = its.length := rv.length
  cases rv with
  | cons r1 rr =>
    rename_i u1 us
    rw [PyProof.Rows.assign_Tuple]
    refine wpAny_bind (wpAny_standAt ?_)
    unfold unpack
    have h1 : (assignEach [.Name x px, .Starred (.Name y py) pp] X.env).length = 2 := rfl
    have h2 : (assignEach [.Name x px, .Starred (.Name y py) pp] X.env).findIdx? (·.1) = some 1 := rfl
    rw [h1, h2]
    refine wpAny_bind (wpAny_holding (star_list (first := [u1]) (rest := us) pl.isList (I.ok.hd hc) (by simp) (by simp at el ⊢; omega) (by simp) rfl fun h₂ tk hk => ?_))
    have I2 : Inv X pins σ H { s with heap := h₂, toks := tk } := I.kept hk
    have I3 := I2.laid (a := h₂.objs.size) (o := .lst xs) (h' := h₂.push { cls := .type "list", data := .seq us.toArray 0 }) (t' := tk) (fun b o e => Heap.get?_push_of_some _ e) (Nat.le_refl _) ⟨(by simp at hl; omega), us, 0, rr, Heap.get?_push_size _ rfl⟩
    have hf : H h₂.objs.size = none := I2.hok.fresh (Nat.le_refl _)
    show wpAny _ _ (assignInOrder [assign (.Name x px) X.env, assign (.Name y py) X.env] [u1, .ref h₂.objs.size]) _ _ _
    refine assignInOrder_cons (wpAny_assign_Name (store_ok I3 hN hi hx r1 (fun s4 I4 => ?_) fx))
    refine assignInOrder_cons (wpAny_assign_Name (store_ok (v := V.ref h₂.objs.size) I4 hN hj hy rfl (fun s5 I5 => assignInOrder_nil ⟨_, _, I5, q _ hf⟩) fy))
end Nl

set_option Elab.async false
set_option linter.all false
set_option maxRecDepth 100000
set_option maxHeartbeats 1000000
namespace Nl
open PySem PySem.Spec PyProof.Rows L2 L2H
/-! ### a def that is called while an error of the class at D, that stands at p, is handled -/
structure FnS (P : Program) (w : World) (K : PySem.W.Frag) (mg : Str → Option Value) (base : Heap) (k : Nat) (f : Addr) (fd : FuncData) (ps : List Str) (sp : Addr → Addr → Sp) : Prop where
  len : ∀ D a vs H Q E, sp D a vs H Q E → vs.length = ps.length
  run : ∀ (A : Around) (outer : List Env) (s : Shared) (H : Hp) (args : Args) (us : List Value) (vs : List V) (Q : VK) (E : XK) (p : Addr × Obj) (D : Addr), RoomH k A → Zc (.ref D) none p.2 → (∃ fs, p.2.data = .fields fs) → PinOk outer H s p → Env0 P w K mg base A outer s H →
    BindsTo s fd args (ps.zip us) → Vals vs us → sp D p.1 vs H Q E → codeAny (model P w) A (.call (.ref f) args) (CR CX0 outer P w H s Q E) s
theorem fn_ofS {P : Program} {w : World} {K : PySem.W.Frag} {mg : Str → Option Value} {base : Heap} {k : Nat} {f : Addr} {name qual : Str} {params : Arguments} {body : List Stmt} {scope : Scope} {dV kV doc pm cdv ct oc : Value} {an od : Option Addr}
    {osl : Array (Option Value)} {N ps : List Str} {sp : Addr → Addr → Sp} (lk : K.lookup f = some ⟨oc, od, .func (PySem.W.fnOf name qual params body scope dV kV doc pm an cdv ct), osl⟩) (hcd : PySem.W.codeIn K cdv qual = true) (S : FnScope N ps scope)
    (len : ∀ D a vs H Q E, sp D a vs H Q E → vs.length = ps.length)
    (hbody : ∀ (A : Around) (outer : List Env) (s : Shared) (H : Hp) (vs : List V) (Q : VK) (E : XK) (p : Addr × Obj) (D : Addr), Zc (.ref D) none p.2 → (∃ fs, p.2.data = .fields fs) → RoomH k (A.deeper (envOfC qual scope s.heap.objs.size f cdv)) → sp D p.1 vs H Q E →
      ∃ t, PSs (cxH CX0 P w K mg base N qual scope f cdv A outer s H E p) body t ∧ t { nx := fun _ H' => Q .non H', rt := Q } (L2.start N vs) H) :
    FnS P w K mg base (k + 1) f (PySem.W.fnOf name qual params body scope dV kV doc pm an cdv ct) ps sp := by
  refine ⟨len, fun A outer s H args us vs Q E p D hr hz hf hpin e0 hb r hsp => ?_⟩
  have hl := len _ _ _ _ _ _ hsp
  have stay := fun b o e => (e0.bs b o e).1
  have hkind : ∀ y ∈ ps.zip us, scope.names.lookup y.1 = some .local ∨ (scope.names.lookup y.1 = some .cell ∧ ((cellsFrom (s.heap.objs.size + 1) scope.names []).lookup y.1).isSome = true) := fun ⟨n, v⟩ hy =>
    (S.par n (List.of_mem_zip hy).1).elim (fun q => .inl q) fun q => .inr ⟨q, PySem.W.cellsFrom_some _ _ _ (.inl q)⟩
  have KX : K.In s.heap := e0.mod.kin.keeps stay
  have lim : s.heap.NoLimit := e0.mod.nolimit.keeps stay
  refine codeAny_call_function hr.depth (KX _ _ lk) rfl S.co S.gen rfl (PySem.W.codeRec_of KX hcd) (hb _ _ _ _ ?_)
  refine wpAny_newFunctionEnv_cells S.kind hkind fun env he s1 x => ?_
  subst he
  refine ⟨lim.keeps x.toInCall.keep, codeAny_func ?_⟩
  obtain ⟨t, ht, hq⟩ := hbody A outer s H vs Q E p D hz hf (hr.deeper _) hsp
  refine wpAny_mono (ht.run [] s1 (L2.start N vs) H _ (inv_startH S hpin e0 hl r x) hq) (fun fl s' hs => ?_) fun e s' hs => hs
  cases fl with
  | ret u =>
    obtain ⟨v, σ', H', J, rv, q⟩ := hs
    exact ⟨v, H', J.os, J.bare, J.base, J.hok, rv, q⟩
  | next =>
    obtain ⟨σ', H', J, q⟩ := hs
    exact ⟨V.non, H', J.os, J.bare, J.base, J.hok, rfl, q⟩
  | brk =>
    obtain ⟨_, _, _, q⟩ := hs
    exact q.elim
  | cont =>
    obtain ⟨_, _, _, q⟩ := hs
    exact q.elim
structure CalS (P : Program) (w : World) (K : PySem.W.Frag) (mg : Str → Option Value) (base : Heap) (k : Nat) (x : Str) (sp : Addr → Addr → Sp) : Prop where
  ex : ∃ (f : Addr) (fd : FuncData) (ps : List Str), FnS P w K mg base k f fd ps sp ∧ mg x = some (.ref f) ∧ PySem.W.keepIn K (.ref f) = true ∧ Binds K fd ps []
theorem calS_of {P : Program} {w : World} {K : PySem.W.Frag} {mg : Str → Option Value} {base : Heap} {x : Str} {st : Stmt} {N ps : List Str} {k : Nat} {sp : Addr → Addr → Sp} (T : Top K mg) (D : DefAt K x st) (S : FnScope N ps (defScope st)) (b : BindOk x st ps)
    (len : ∀ D a vs H Q E, sp D a vs H Q E → vs.length = ps.length)
    (hbody : ∀ (f : Addr) (cdv : Value) (A : Around) (outer : List Env) (s : Shared) (H : Hp) (vs : List V) (Q : VK) (E : XK) (p : Addr × Obj) (D : Addr), Zc (.ref D) none p.2 → (∃ fs, p.2.data = .fields fs) → RoomH k (A.deeper (envOfC x (defScope st) s.heap.objs.size f cdv)) → sp D p.1 vs H Q E →
      ∃ t, PSs (cxH CX0 P w K mg base N x (defScope st) f cdv A outer s H E p) (defBody st) t ∧ t { nx := fun _ H' => Q .non H', rt := Q } (L2.start N vs) H) : CalS P w K mg base (k + 1) x sp := by
  obtain ⟨f, oc, od, an, osl, kV, doc, pm, cdv, ct, a, l, c, kp⟩ := D
  have F := fun_mk (st := st) l c kp
  exact ⟨f, _, ps, fn_ofS l c S len fun A outer s H vs Q E p D hz hf hr h => hbody f cdv A outer s H vs Q E p D hz hf hr h, T.of a, kp, F.binds b⟩
section
variable {X : Cx} {k j : Nat} {x : Str} {sp : Addr → Addr → Sp} {p pos : Pos} {e : Expr} {es : List Expr} {t : TA}
/-- f(..) within the suite of a clause; the error at a, of the class cls -/
def tCallSu (sp : Addr → Addr → Sp) (a : Addr) (cls : Value) (d : Option Addr) (t : TA) : TE := fun σ H Q => t σ H fun vs H1 => ∃ D, cls = .ref D ∧ d = none ∧ sp D a vs H1 Q E0
theorem pe_su {a : Addr} {oe : Obj} {cls : Value} {d : Option Addr} {pn : List (Addr × Obj)} (c : CalS X.prog X.w X.K X.mg X.base k x sp) (hz : Zc cls d oe) (hf : ∃ fs, oe.data = .fields fs) (hr : Room j X.A) (hk : k ≤ j) (hg : Gl X x) (ha : PA (X.suite a ((a, oe) :: pn)) (e :: es) t)
    (hdb : (x == ("__debug__" : Str)) = false := by decide) (he : starEach (e :: es) X.env = (false, eval e X.env) :: starEach es X.env := by rfl) (hpl : (backTo pos (starEach es X.env)).any (·.1) = false := by rfl) :
    PE (X.suite a ((a, oe) :: pn)) (.Call (.Name x p) (e :: es) [] pos) (tCallSu sp a cls d t) := by
  obtain ⟨f, fd, ps, F, hm, kp, hb⟩ := c.ex
  refine ⟨fun pins s σ H Q I h => ?_⟩
  refine wpAny_Call_Name_kw (ld_glob I hg hm ?_ hdb)
  refine PySem.W.callWith_K (h₀ := X.base) I.ok.mod.kin kp (thn (ha.run pos pins s σ H _ I h) fun us s1 ⟨vs, H1, I1, r, D, ec, ed, q⟩ => ⟨I1.kIn, ?_⟩) he hpl
  subst ec ed
  have hl : us.length = ps.length := by rw [← r.length]; exact F.len _ _ _ _ _ _ q
  have b := hb s1 us I1.kIn (by rw [List.append_nil]; exact hl)
  rw [List.append_nil] at b
  have P1 := I1.pin (a, oe) (List.mem_append_left _ List.mem_cons_self)
  have hpin : PinOk (X.suite a ((a, oe) :: pn)).stack H1 s1 (a, oe) := ⟨P1.1, P1.2.1, fun hm => (List.mem_cons.mp (I1.stkSub a hm)).elim P1.2.2.1 P1.2.2.2.1, P1.2.2.2.2⟩
  have hr2 : RoomH k (X.suite a ((a, oe) :: pn)).A := ⟨(hr.mono hk).dp, (hr.mono hk).un⟩
  refine wpAny_call (codeAny_mono (F.run _ _ s1 H1 ⟨us, []⟩ us vs Q E0 (a, oe) D hr2 hz hf hpin I1.env0 b r q) fun r s' hq => ?_)
  cases r with
  | error e => exact hq.elim
  | ok fl =>
    cases fl with
    | ret u => exact I1.after hq
    | next => exact hq.elim
    | brk => exact hq.elim
    | cont => exact hq.elim
/-- isinstance of an error that is pinned -/
theorem call_isP {q : Addr × Obj} {D : Addr} (hq : q ∈ X.pn) (C : ExcC X.K D) (hz : Zc (.ref D) none q.2) (hf : ∃ fs, q.2.data = .fields fs) : CallR X (.builtin "isinstance") (rIsE X.K D q.1) := by
  intro pins s σ H xs us Q I r h
  obtain ⟨c, cv, b, rfl, hcv, e, k⟩ := h
  cases r with
  | cons rx rr =>
    cases rr with
    | cons rt rr =>
      cases rr
      cases rx
      have ec := hcv _ rt
      subst ec
      have hget := (I.pin q (List.mem_append_left _ hq)).1
      have J : PySem.W.InstAt s.heap q.1 q.2 D none := by
        obtain ⟨fs, hv⟩ := hf
        obtain ⟨a, oc, od, oda, osl⟩ := q
        obtain ⟨h1, h2⟩ := hz
        dsimp only at h1 h2 hv
        subst h1 h2 hv
        exact ⟨hget, rfl, rfl, trivial⟩
      exact PySem.W.kia_one (PySem.W.handS_kitx_exc C.hg C.hk C.hs C.hd C.ha C.hn C.ht C.hm) I.kIn J e (fun z => nomatch z) fun tk => ⟨.bl b, H, I.kept (t' := tk) fun _ _ z => z, rfl, k⟩
/-- xs.count(x), all of them plain -/
def rCntV (K : PySem.W.Frag) : V → List V → Hp → VK → Prop := fun x xs H Q => ∃ (p : Addr) (ys : List V) (y : V), x = .ref p ∧ xs = [y] ∧ SqL K H p ys ∧ flatV y = true ∧ ys.all flatV = true ∧ Q (.int (ys.countP (fun z => eqV z y) : Nat)) H
theorem countU {x : V} : ∀ {ys : List V} {us : List Value}, Vals ys us → ys.all flatV = true → us.countP (eqU x) = ys.countP fun z => eqV z x
  | _, _, .nil, _ => rfl
  | _, _, .cons r t, f => by
    rw [List.all_cons, Bool.and_eq_true] at f
    rw [List.countP_cons, List.countP_cons, countU t f.2, eqU_of r f.1]
theorem mt_countV : MtR X "list.count" (rCntV X.K) := by
  intro pins s σ H x xs v us Q I rx rxs h
  obtain ⟨p, ys, y, rfl, rfl, hs, fy, fl, q⟩ := h
  cases rx
  obtain ⟨u, rfl, ru⟩ := rxs.one
  obtain ⟨its, rv, ⟨⟨cls, dd, data, sl⟩, n, ho, hc, hdn, hd⟩, hlen⟩ := I.list hs
  simp only at hc hd
  subst hc hd
  refine call_meets PySem.F.slot_list_count ⟨_, ho, rfl⟩ PySem.F.entry_list_count (PySem.F.args_list_count_2 _ _) (SeqAt.list_countAt p its.toArray n dd sl u (eqU y)) ⟨ho, fun z hz => mem_eqAt ru fy rv fl z (by simpa using hz), ?_⟩
  have ec : its.toArray.toList.countP (eqU y) = ys.countP (fun z => eqV z y) := by rw [List.toList_toArray]; exact countU rv fl
  rw [ec]
  exact ⟨.int _, H, I.tok _, ⟨s.toks, rfl⟩, q⟩
end
/-! ### isinstance of one of the five refusals -/
structure AloneAt (K : PySem.W.Frag) (cs : List Addr) (cL : Addr) (D : Addr) (own : Nat) : Prop where
  ex : ExcC K D
  k : ∀ j c, cs[j]? = some c → PySem.W.kitOne K (.ref D) (.ref c) = some (decide (j = own))
  line : PySem.W.kitOne K (.ref D) (.ref cL) = some true
  val : PySem.W.kitOne K (.ref D) (.type "ValueError") = some true
/-- an error of the class D is the own-th of the five and none else -/
def spAlone (K : PySem.W.Frag) (cs : List Addr) (cL : Addr) : Addr → Addr → Sp := fun D a vs H Q _ => ∃ own : Nat, vs = [.ref a, .int (own : Nat)] ∧ own < 5 ∧ AloneAt K cs cL D own ∧ ∀ H', Same H H' → Q (.bl true) H'
/-! ### plain values as data -/
def dOf : V → PyData
  | .bl b => .bool b
  | .int i => .int i
  | .str x => .str x
  | _ => .none
theorem dp_flat {K : PySem.W.Frag} {H : Hp} {v : V} (h : flatV v = true) : Dp K H v (dOf v) := by
  cases v with
  | non => exact .non
  | bl b => exact .bl b
  | int i => exact .int i
  | str x => exact .str x
  | _ => cases h
theorem dpAll_flat {K : PySem.W.Frag} {H : Hp} : ∀ {xs : List V}, xs.all flatV = true → DpAll K H xs (xs.map dOf)
  | [], _ => .nil
  | x :: xs, h => by
    rw [List.all_cons, Bool.and_eq_true] at h
    exact .cons (dp_flat h.1) (dpAll_flat h.2)
theorem dp_tup {K : PySem.W.Frag} {H : Hp} {p : Addr} {xs : List V} (h : SqT K H p xs) (f : xs.all flatV = true) : Dp K H (.ref p) (.tuple (xs.map dOf)) := .tup h (dpAll_flat f)
theorem dp_lst {K : PySem.W.Frag} {H : Hp} {p : Addr} {xs : List V} (h : SqL K H p xs) (f : xs.all flatV = true) : Dp K H (.ref p) (.list (xs.map dOf)) := .lst h (dpAll_flat f)
theorem depth_flat : ∀ xs : List V, PyData.depthAll (xs.map dOf) = 0
  | [] => rfl
  | x :: xs => by
    have e : (dOf x).depth = 0 := by cases x <;> rfl
    rw [List.map_cons, PyData.depthAll, e, depth_flat xs]
    rfl
theorem shaped_tup {xs : List V} (h : PyData.canLayAll0 (xs.map dOf) = true) : SeqAt.shaped (.tuple (xs.map dOf)) = true := by
  have e : PyData.depth (.tuple (xs.map dOf)) = 1 := by rw [PyData.depth, depth_flat]
  unfold SeqAt.shaped
  rw [e]
  show (PyData.canLayAll0 (xs.map dOf) && _) = true
  rw [h]
  rfl
theorem shaped_lst {xs : List V} (h : PyData.canLayAll0 (xs.map dOf) = true) : SeqAt.shaped (.list (xs.map dOf)) = true := by
  have e : PyData.depth (.list (xs.map dOf)) = 1 := by rw [PyData.depth, depth_flat]
  unfold SeqAt.shaped
  rw [e]
  show (PyData.canLayAll0 (xs.map dOf) && _) = true
  rw [h]
  rfl
theorem lay_ints : ∀ ns : List Int, PyData.canLayAll0 ((ns.map V.int).map dOf) = true
  | [] => rfl
  | n :: ns => by
    show (true && PyData.canLayAll0 ((ns.map V.int).map dOf)) = true
    rw [lay_ints ns]
    rfl
theorem eqv_same {d : PyData} (h : SeqAt.shaped d = true) : PyData.eqv d d = true := PySem.SeqAt.eqv_refl d (SeqAt.canLay_of_shaped h)
end Nl

set_option Elab.async false
set_option linter.all false
set_option maxRecDepth 100000
set_option maxHeartbeats 4000000
namespace Nl
open PySem PySem.Spec PyProof.Rows L2 L2H
def top (i : Nat) : Stmt := PySem.Challenge.pw_nearlines_k02_lines_read.main.body.getD i (.Pass ⟨0, 0, 0, 0⟩)
theorem sz_ok {n : Nat} (h : Nat.ble n 1000 = true) : n ≤ sizeLine := Nat.le_trans (Nat.le_of_ble_eq_true h) (by decide)
local macro_rules | `(tactic| walk_at "rd") => `(tactic| first
  | refine ⟨_, rfl, ?_⟩
  | refine ⟨_, _, rfl, rfl, ⟨by decide, by decide⟩, ?_⟩
  | refine ⟨_, _, rfl, rfl, (by show (0 : Int) < _; decide), ?_⟩
  | refine ⟨_, _, rfl, rfl, .inr ⟨by decide, by decide⟩, ?_⟩
  | refine ⟨_, _, rfl, rfl, ?_⟩
  | refine ⟨rfl, ?_⟩)
theorem hu64_of {k : Nat} {A : Around} (hr : Room k A) : A.units + 64 < cLine := by
  have := hr.un
  omega

structure Txt (K : PySem.W.Frag) (w : World) (mg : Str → Option Value) : Prop extends Top K mg where
  len : mg "len" = none
  range : mg "range" = none
  isinstance : mg "isinstance" = none
  all : mg "all" = none
  int : mg "int" = none
  str : mg "str" = none
  bool : mg "bool" = none
  tuple : mg "tuple" = none
section
variable {P : Program} {w : World} {K : PySem.W.Frag} {mg : Str → Option Value} {base : Heap}
abbrev s__law_cell_at : Stmt := top 13
abbrev N__law_cell_at : List Str := ["_law_script", "_law_k"]
theorem S__law_cell_at : FnScope N__law_cell_at ["_law_script", "_law_k"] (defScope s__law_cell_at) := ⟨rfl, rfl, rfl, by decide +kernel, rfl, by decide +kernel, by decide +kernel⟩

theorem c_cell_at (T : Txt K w mg) (D : DefAt K "_law_cell_at" s__law_cell_at) : Cal P w K mg base CX0 1 "_law_cell_at" (spCellAt K) := by
  have S := S__law_cell_at
  refine cal_of T.toTop D S (fun _ _ _ _ _ _ us hl => match us, hl with | [_, _], _ => rfl) (fun vs H Q E h => ?_) (fun f cdv A outer s H vs Q E hr h => ?_)
  · obtain ⟨a, ns, k, rfl, _⟩ := h
    rfl
  · obtain ⟨a, ns, k, rfl, hS, hk, q⟩ := h
    refine ⟨_, (pss_cons (ps_if (pt_cmpR op_lt (pv 1) (pe_callB call_len_seq (by rfl) T.len PySem.boot_len (pa_cons (pv 0) pa_nil)) (nomark _)) (pss_one (ps_ret (pe_ix ix_list (pv 0) (pv 1) (fun _ _ => rfl)))) pss_nil)
  (pss_one (ps_ret pe_int))), ?_⟩
    refine ⟨_, rfl, _, rfl, a, _, rfl, .inl hS, _, _, rfl, rfl, _, rfl, ?_⟩
    rw [List.length_map]
    refine ite2 (fun h => ?_) (fun h => ?_)
    · have h := of_decide_eq_true h
      exact ⟨_, rfl, _, rfl, a, _, _, _, rfl, rfl, hS, at_ints hk h, q⟩
    · have h : ¬ k < (ns.length : Int) := fun z => h (decide_eq_true z)
      have e : cellAt ns k = 0 := by
        unfold cellAt
        rw [List.getD_eq_getElem?_getD, List.getElem?_eq_none (by omega)]; rfl
      rw [e] at q
      exact q

abbrev s__law_mixed : Stmt := top 15
abbrev N__law_mixed : List Str := ["_law_cell"]
theorem S__law_mixed : FnScope N__law_mixed ["_law_cell"] (defScope s__law_mixed) := ⟨rfl, rfl, rfl, by decide +kernel, rfl, by decide +kernel, by decide +kernel⟩

theorem c_mixed (T : Txt K w mg) (D : DefAt K "_law_mixed" s__law_mixed) : Cal P w K mg base CX0 1 "_law_mixed" spMixed := by
  have S := S__law_mixed
  refine cal_of T.toTop D S (fun _ _ _ _ _ _ us hl => match us, hl with | [_], _ => rfl) (fun vs H Q E h => ?_) (fun f cdv A outer s H vs Q E hr h => ?_)
  · obtain ⟨c, rfl, _⟩ := h
    rfl
  · obtain ⟨c, rfl, q⟩ := h
    refine ⟨_, (pss_one (ps_ret (pe_op op_mod (pe_op op_mul (pv 0) pe_int) pe_int))), ?_⟩
    repeat walk_at "rd"
    exact q

abbrev s__law_whole : Stmt := top 14
abbrev N__law_whole : List Str := ["_law_found"]
theorem S__law_whole : FnScope N__law_whole ["_law_found"] (defScope s__law_whole) := ⟨rfl, rfl, rfl, by decide +kernel, rfl, by decide +kernel, by decide +kernel⟩

/-- the type of a thing that is no object of the program's own -/
def spWhole (K : PySem.W.Frag) : Sp := fun vs H Q _ => ∃ (v : V) (n : String), vs = [v] ∧ TyX K H v (.type n) ∧ kitB n "int" = some (decide (n = "int" ∨ n = "bool")) ∧ kitB n "bool" = some (decide (n = "bool")) ∧ Q (.bl (decide (n = "int"))) H
theorem c_whole (T : Txt K w mg) (D : DefAt K "_law_whole" s__law_whole) : Cal P w K mg base CX0 1 "_law_whole" (spWhole K) := by
  have S := S__law_whole
  refine cal_of T.toTop D S (fun _ _ _ _ _ _ us hl => match us, hl with | [_], _ => rfl) (fun vs H Q E h => ?_) (fun f cdv A outer s H vs Q E hr h => ?_)
  · obtain ⟨v, n, rfl, _⟩ := h
    rfl
  · obtain ⟨v, n, rfl, ty, k1, k2, q⟩ := h
    refine ⟨_, (pss_one (ps_ret (pe_and (pe_callB call_isi (by rfl) T.isinstance (by decide +kernel) (pa_cons (pv 0) (pa_cons ((pe_bltn (v := .ty "int") (u := .type "int") rfl T.int (by decide +kernel) rfl)) pa_nil))) (pe_one (pe_not (pe_callB call_isi (by rfl) T.isinstance (by decide +kernel) (pa_cons (pv 0) (pa_cons ((pe_bltn (v := .ty "bool") (u := .type "bool") rfl T.bool (by decide +kernel) rfl)) pa_nil)))))))), ?_⟩
    refine ⟨_, rfl, _, _, _, _, _, rfl, .ty _, ty, kit_ty k1, _, rfl, ?_⟩
    refine ite2 (fun h => ?_) (fun h => ?_)
    · refine ⟨_, rfl, _, _, _, _, _, rfl, .ty _, ty, kit_ty k2, _, rfl, ?_⟩
      have h := of_decide_eq_true h
      have e : (!decide (n = "bool")) = decide (n = "int") := by
        rcases h with h | h <;> subst h <;> rfl
      show Q (V.bl (!decide (n = "bool"))) H
      rw [e]
      exact q
    · have e : decide (n = "int") = false := decide_eq_false fun z => h (decide_eq_true (.inl z))
      rw [e] at q
      exact q

abbrev s__law_alone : Stmt := top 21
abbrev N__law_alone : List Str := ["_law_e", "_law_own", "_law_some"]
theorem S__law_alone : FnScope N__law_alone ["_law_e", "_law_own"] (defScope s__law_alone) := ⟨rfl, rfl, rfl, by decide +kernel, rfl, by decide +kernel, by decide +kernel⟩

theorem c_alone {cs : List Addr} {C0 C1 C2 C3 C4 cL : Addr} (ecs : cs = [C0, C1, C2, C3, C4]) (T : Txt K w mg) (D : DefAt K "_law_alone" s__law_alone) (g0 : mg "BadRow" = some (.ref C0)) (g1 : mg "BadBoxes" = some (.ref C1)) (g2 : mg "BadShape" = some (.ref C2)) (g3 : mg "NoBox" = some (.ref C3)) (g4 : mg "BadPlan" = some (.ref C4)) (gL : mg "LineError" = some (.ref cL)) (nV : mg "ValueError" = none) :
    CalS P w K mg base 1 "_law_alone" (spAlone K cs cL) := by
  have S := S__law_alone
  refine calS_of T.toTop D S (fun _ _ _ _ _ _ us hl => match us, hl with | [_, _], _ => rfl) (fun D a vs H Q E h => ?_) (fun f cdv A outer s H vs Q E p D hz hf hr h => ?_)
  · obtain ⟨own, rfl, _⟩ := h
    rfl
  · obtain ⟨own, rfl, ho, hA, q⟩ := h
    subst ecs
    refine ⟨_, (pss_cons (ps_set (i := 2) S.nd rfl (Or.inl rfl) (pe_lst (pa_cons (pe_callB (call_isP (q := p) List.mem_cons_self hA.ex hz hf) (by rfl) T.isinstance (by decide +kernel) (pa_cons (pv 0) (pa_cons ((pe_glob (v := .ref C0) rfl g0 rfl)) pa_nil))) (pa_cons (pe_callB (call_isP (q := p) List.mem_cons_self hA.ex hz hf) (by rfl) T.isinstance (by decide +kernel) (pa_cons (pv 0) (pa_cons ((pe_glob (v := .ref C1) rfl g1 rfl)) pa_nil))) (pa_cons (pe_callB (call_isP (q := p) List.mem_cons_self hA.ex hz hf) (by rfl) T.isinstance (by decide +kernel) (pa_cons (pv 0) (pa_cons ((pe_glob (v := .ref C2) rfl g2 rfl)) pa_nil))) (pa_cons (pe_callB (call_isP (q := p) List.mem_cons_self hA.ex hz hf) (by rfl) T.isinstance (by decide +kernel) (pa_cons (pv 0) (pa_cons ((pe_glob (v := .ref C3) rfl g3 rfl)) pa_nil))) pa_nil))))))
  (pss_cons (ps_expr (pe_bm PySem.F.plainAttrs_list PySem.F.slot_list_append PySem.F.type_list_append mt_append (pv 2) (pa_cons (pe_callB (call_isP (q := p) List.mem_cons_self hA.ex hz hf) (by rfl) T.isinstance (by decide +kernel) (pa_cons (pv 0) (pa_cons ((pe_glob (v := .ref C4) rfl g4 rfl)) pa_nil))) pa_nil)))
  (pss_one (ps_ret (pe_and (pe_cmpR op_eq (pe_bm PySem.F.plainAttrs_list PySem.F.slot_list_count PySem.F.type_list_count mt_countV (pv 2) (pa_cons pe_bl pa_nil)) pe_int (nomark _)) (pe_and (pe_ix ix_list (pv 2) (pv 1) (fun _ _ => rfl)) (pe_and (pe_callB (call_isP (q := p) List.mem_cons_self hA.ex hz hf) (by rfl) T.isinstance (by decide +kernel) (pa_cons (pv 0) (pa_cons ((pe_glob (v := .ref cL) rfl gL rfl)) pa_nil))) (pe_one (pe_callB (call_isP (q := p) List.mem_cons_self hA.ex hz hf) (by rfl) T.isinstance (by decide +kernel) (pa_cons (pv 0) (pa_cons ((pe_bltn (v := .ty "ValueError") (u := .type "ValueError") rfl nV (by decide +kernel) rfl)) pa_nil))))))))))), ?_⟩
    have ref1 : ∀ c : Addr, ∀ u, RelV (.ref c) u → u = .ref c := fun _ _ h => h
    refine ⟨_, rfl, _, _, _, rfl, ref1 _, hA.k 0 _ rfl, ?_⟩
    refine ⟨_, rfl, _, _, _, rfl, ref1 _, hA.k 1 _ rfl, ?_⟩
    refine ⟨_, rfl, _, _, _, rfl, ref1 _, hA.k 2 _ rfl, ?_⟩
    refine ⟨_, rfl, _, _, _, rfl, ref1 _, hA.k 3 _ rfl, ?_⟩
    refine ⟨sz_ok rfl, fun p1 n1 => ?_⟩
    refine ⟨_, rfl, .inl ⟨rfl, _, SqL.of upd_same⟩, _, rfl, _, _, _, rfl, ref1 _, hA.k 4 _ rfl, p1, _, _, rfl, rfl, upd_same, Nat.lt_of_lt_of_le (by simp : _ < 10) (by decide), ?_⟩
    have s1 := (Same.new (o := .lst [.bl (decide (0 = own)), .bl (decide (1 = own)), .bl (decide (2 = own)), .bl (decide (3 = own))]) n1).mut (o := .lst ([.bl (decide (0 = own)), .bl (decide (1 = own)), .bl (decide (2 = own)), .bl (decide (3 = own))] ++ [.bl (decide (4 = own))])) n1
    refine ⟨_, rfl, .inl ⟨rfl, _, SqL.of upd_same⟩, p1, _, .bl true, rfl, rfl, SqL.of upd_same, rfl, rfl, rfl, _, rfl, ?_⟩
    have h5 : own = 0 ∨ own = 1 ∨ own = 2 ∨ own = 3 ∨ own = 4 := by omega
    rcases h5 with rfl | rfl | rfl | rfl | rfl <;> exact ⟨_, rfl, _, rfl, p1, _, _, .bl true, rfl, rfl, SqL.of upd_same, rfl, _, rfl, _, rfl, _, _, _, rfl, ref1 _, hA.line, _, rfl, _, rfl, _, _, _, rfl, fun _ h => h, hA.val, q _ s1⟩

def isNum (p : Str) : Bool := (Txt.isascii p && Txt.isdigit p) && (decide (p = "0") || (decide (p.length ≤ 6) && !Txt.startswith p "0"))
def spIsNumber : Sp := fun vs H Q _ => ∃ p : Str, vs = [.str p] ∧ p.length ≤ sizeLine ∧ Q (.bl (isNum p)) H
abbrev s__is_number : Stmt := top 11
abbrev N__is_number : List Str := ["part"]
theorem S__is_number : FnScope N__is_number ["part"] (defScope s__is_number) := ⟨rfl, rfl, rfl, by decide +kernel, rfl, by decide +kernel, by decide +kernel⟩

theorem c_is_number (T : Txt K w mg) (D : DefAt K "_is_number" s__is_number) (gFigures : ∃ t, mg "FIGURES" = some (.int 6 t)) : Cal P w K mg base CX0 1 "_is_number" spIsNumber := by
  have S := S__is_number
  obtain ⟨tF, gFigures⟩ := gFigures
  refine cal_of T.toTop D S (fun _ _ _ _ _ _ us hl => match us, hl with | [_], _ => rfl) (fun vs H Q E h => ?_) (fun f cdv A outer s H vs Q E hr h => ?_)
  · obtain ⟨v, rfl, _⟩ := h
    rfl
  · obtain ⟨p, rfl, hz, q⟩ := h
    unfold isNum at q
    refine ⟨_, (pss_cons (ps_if (pt_not (PW.pt (pw_and (pt_val (pe_bm0 PySem.F.plainAttrs_str PySem.F.slot_str_isascii PySem.F.type_str_isascii mt_isascii (pv 0))) (pw_and1 (pt_val (pe_bm0 PySem.F.plainAttrs_str PySem.F.slot_str_isdigit PySem.F.type_str_isdigit mt_isdigit (pv 0))))))) (pss_one (ps_ret pe_bl)) pss_nil)
  (pss_one (ps_ret (pe_or (pe_cmpR op_eq (pv 0) pe_str (nomark _)) (pe_one (pe_and (pe_cmpR op_le (pe_callB call_len_str (by rfl) T.len PySem.boot_len (pa_cons (pv 0) pa_nil)) ((pe_glob (v := .int 6) rfl gFigures ⟨_, rfl⟩)) (nomark _)) (pe_one (pe_not (pe_bm PySem.F.plainAttrs_str PySem.F.slot_str_startswith PySem.F.type_str_startswith mt_startswith (pv 0) (pa_cons pe_str pa_nil)))))))))), ?_⟩
    refine ⟨_, rfl, rfl, _, rfl, rfl, trivial, _, rfl, ?_⟩
    cases e1 : Txt.isascii p with
    | false =>
      rw [e1] at q
      exact q
    | true =>
      refine ⟨_, rfl, rfl, _, rfl, rfl, trivial, _, rfl, ?_⟩
      cases e2 : Txt.isdigit p with
      | false =>
        rw [e1, e2] at q
        exact q
      | true =>
        rw [e1, e2] at q
        refine ⟨_, rfl, rfl, _, rfl, ?_⟩
        have e3 : decide (V.str p = V.str "0") = decide (p = "0") := by simp
        rw [e3]
        cases e4 : decide (p = "0") with
        | true =>
          rw [e4] at q
          exact q
        | false =>
          rw [e4] at q
          refine ⟨_, rfl, _, rfl, hz, _, _, rfl, rfl, _, rfl, ?_⟩
          have e5 : decide ((p.length : Int) ≤ 6) = decide (p.length ≤ 6) := by simp; omega
          rw [e5]
          cases e6 : decide (p.length ≤ 6) with
          | false =>
            rw [e6] at q
            exact q
          | true =>
            rw [e6] at q
            exact ⟨_, rfl, rfl, _, _, rfl, rfl, _, rfl, q⟩

def sTab : List (Str × List Str) := [("set", ["box", "number"]), ("copy", ["box", "box"]), ("add", ["box", "box", "box"]), ("sub", ["box", "box", "box"]), ("fetch", ["box", "box"]), ("store", ["box", "box"]), ("less", ["box", "box", "place"]), ("jump", ["place"]), ("tell", ["box"])]
def shapeOf (z : Str) : Option (List Str) := sTab.lookup z
structure Shapes (K : PySem.W.Frag) (w : World) (mg : Str → Option Value) (dS : Addr) : Prop where
  g : mg "SHAPES" = some (.ref dS)
  d : ∃ es n, KDict K w dS es n
  no : ∀ z, shapeOf z = none → PySem.W.nsIn K dS z = some none
  yes : ∀ z l, shapeOf z = some l → ∃ t, PySem.W.nsIn K dS z = some (some (.ref t)) ∧ ∀ H, SqT K H t (l.map V.str)
theorem Shapes.get {K : PySem.W.Frag} {w : World} {mg : Str → Option Value} {dS : Addr} (Z : Shapes K w mg dS) {z : Str} {l : List Str} (h : shapeOf z = some l) : ∃ t, KDct K w dS z (.ref t) ∧ ∀ H, SqT K H t (l.map V.str) := by
  obtain ⟨es, n, D⟩ := Z.d
  obtain ⟨t, e, q⟩ := Z.yes z l h
  exact ⟨t, ⟨es, n, _, D.at_, D.lit, e, rfl⟩, q⟩
theorem sTab_cases {P : Str → List Str → Prop} (h : ∀ q ∈ sTab, P q.1 q.2) {z : Str} {l : List Str} (e : shapeOf z = some l) : P z l := by
  have m := PySem.mem_of_lookup (show sTab.lookup z = some l from e)
  exact h _ m
theorem shape_len {z : Str} {l : List Str} (e : shapeOf z = some l) : 1 ≤ l.length ∧ l.length ≤ 3 := sTab_cases (P := fun _ l => 1 ≤ l.length ∧ l.length ≤ 3) (by decide) e
theorem shape_word {z : Str} {l : List Str} (e : shapeOf z = some l) : z.length ≤ 5 := sTab_cases (P := fun z _ => z.length ≤ 5) (by decide +kernel) e
structure ExcT (K : PySem.W.Frag) (mg : Str → Option Value) (x : Str) (C : Addr) : Prop where
  g : mg x = some (.ref C)
  x : PySem.W.excIn K C [.type "ValueError", .type "Exception", .type "BaseException", .type "object"] "ValueError.__new__" = true
  k : PySem.W.keepIn K (.ref C) = true
  b : PySem.W.subIn K (.ref C) (.type "BaseException") = some true
  t : PySem.W.typeIn K (.ref C) = some (.type "type")

def txtOf (n : Int) : Str := Str.ofString (toString n)
theorem txt_len {n : Int} (h0 : 0 ≤ n) (h1 : n < 1000000) : (txtOf n).length ≤ 6 := by
  have e : n = ((n.toNat : Nat) : Int) := (Int.toNat_of_nonneg h0).symm
  unfold txtOf
  rw [e]
  have q : (TL.tl (Str.ofString (toString ((n.toNat : Nat) : Int)))).length ≤ 6 := by
    rw [TL.tl_num]
    exact TL.numL_len (by decide) (by omega)
  exact q
theorem log_small {n : Int} (h0 : 0 ≤ n) (h1 : n < 1000000) : n.natAbs.log2 < 1920 := by
  have h : n.natAbs < 2 ^ 20 := by omega
  rcases Nat.eq_zero_or_pos n.natAbs with e | e
  · rw [e]; decide
  · have := (Nat.log2_lt (by omega)).mpr h
    omega

def intOf (p : Str) : Int := (PySem.intText? p).getD 0
def parseRow (z : Str) : Option (Str × List Int) := match Txt.split z " " with
  | [] => none
  | wd :: ps => match shapeOf wd with
    | none => none
    | some sh => if ps.length = sh.length ∧ ps.all isNum = true then some (wd, ps.map intOf) else none
def spReadRow (CB : Addr) : Sp := fun vs H Q E => ∃ z : Str, vs = [.str z] ∧ z.length ≤ 1000 ∧
  (∀ wd ns, parseRow z = some (wd, ns) → ∀ H' p, Same H H' → H p = none → H' p = some (.tup (.str wd :: ns.map V.int)) → Q (.ref p) H') ∧ (parseRow z = none → ∀ H', Same H H' → E (.ref CB) none H')
theorem spl_sizes : ∀ (l acc : List Nat), TL.spl [32] 0 acc l ≠ [] ∧ (TL.spl [32] 0 acc l).length ≤ l.length + 1 ∧ ∀ p ∈ TL.spl [32] 0 acc l, p.length ≤ acc.length + l.length
  | [], acc => by
    rw [TL.spl_nil]
    simp
  | c :: r, acc => by
    by_cases h : TL.pre [32] (c :: r) = true
    · rw [TL.spl_hit h]
      obtain ⟨_, h2, h3⟩ := spl_sizes r []
      have e : ([32] : List Nat).length - 1 = 0 := rfl
      rw [e]
      refine ⟨by simp, by simp only [List.length_cons]; omega, fun p hp => ?_⟩
      rcases List.mem_cons.mp hp with rfl | hp
      · omega
      · have := h3 p hp
        simp only [List.length_nil, List.length_cons] at this ⊢
        omega
    · rw [TL.spl_miss (by simpa using h)]
      obtain ⟨h1, h2, h3⟩ := spl_sizes r (acc ++ [c])
      refine ⟨h1, by simp only [List.length_cons]; omega, fun p hp => ?_⟩
      have := h3 p hp
      simp only [List.length_append, List.length_cons, List.length_nil] at this ⊢
      omega
theorem split_tl (z : Str) : (Txt.split z " ").map TL.tl = TL.spl [32] 0 [] (TL.tl z) := TL.split_spl z " " (by decide) (TL.kind_ok (by decide +kernel))
theorem split_sizes (z : Str) : ∃ wd ps, Txt.split z " " = wd :: ps ∧ ps.length ≤ z.length ∧ wd.length ≤ z.length ∧ ∀ p ∈ ps, p.length ≤ z.length := by
  obtain ⟨h1, h2, h3⟩ := spl_sizes (TL.tl z) []
  rw [← split_tl] at h1 h2 h3
  have hz : (TL.tl z).length = z.length := rfl
  cases e : Txt.split z " " with
  | nil => rw [e] at h1; exact absurd rfl h1
  | cons wd ps =>
    rw [e] at h2 h3
    have hl : ∀ p ∈ wd :: ps, p.length ≤ z.length := fun p hp => by
      have q := h3 (TL.tl p) (List.mem_map.mpr ⟨p, hp, rfl⟩)
      have hp2 : (TL.tl p).length = p.length := rfl
      simp only [List.length_nil] at q
      omega
    refine ⟨wd, ps, rfl, ?_, hl wd List.mem_cons_self, fun p hp => hl p (List.mem_cons_of_mem _ hp)⟩
    simp only [List.length_map, List.length_cons] at h2
    omega
theorem isNum_parts {p : Str} (h : isNum p = true) : Txt.isascii p = true ∧ Txt.isdigit p = true ∧ p.length ≤ 6 := by
  unfold isNum at h
  simp only [Bool.and_eq_true, Bool.or_eq_true, decide_eq_true_eq] at h
  obtain ⟨⟨h1, h2⟩, h3⟩ := h
  refine ⟨h1, h2, ?_⟩
  rcases h3 with h3 | h3
  · subst h3; decide
  · exact h3.1
theorem digit_ascii {c : Nat} (h : Unicode.isDigit c = true) (h2 : c < 128) : 48 ≤ c ∧ c ≤ 57 := by
  have : ∀ c, c < 128 → Unicode.isDigit c = true → 48 ≤ c ∧ c ≤ 57 := by decide +kernel
  exact this c h2 h
theorem isNum_digits {p : Str} (h : isNum p = true) : p.cps.toList ≠ [] ∧ NumText.AllDigits p.cps.toList := by
  obtain ⟨h1, h2, _⟩ := isNum_parts h
  unfold Txt.isascii at h1
  unfold Txt.isdigit at h2
  simp only [Bool.and_eq_true, decide_eq_true_eq] at h2
  obtain ⟨h2, h3⟩ := h2
  refine ⟨fun e => ?_, fun c hc => ?_⟩
  · have : p.length = p.cps.toList.length := by simp [Str.length]
    rw [e] at this
    simp at this
    omega
  · have a1 := (Array.all_eq_true_iff_forall_mem.mp h1) c (by simpa using hc)
    have a2 := (Array.all_eq_true_iff_forall_mem.mp h3) c (by simpa using hc)
    exact digit_ascii a2 (by simpa using a1)
theorem isNum_int {p : Str} (h : isNum p = true) : PySem.intText? p = some (intOf p) := by
  obtain ⟨h1, h2⟩ := isNum_digits h
  have e := intText_digits h2 h1 (Nat.le_trans (isNum_parts h).2.2 (by decide))
  unfold intOf
  rw [e]
  rfl
theorem app_sz {a b : Str} {n m k : Nat} (ha : a.length ≤ n) (hb : b.length ≤ m) (h : n + m ≤ k) : (a ++ b).length ≤ k := by
  have e : (a ++ b).length = a.length + b.length := by
    show (a.cps ++ b.cps).size = a.cps.size + b.cps.size
    exact Array.size_append
  omega
theorem parse_no {z wd : Str} {ps : List Str} (es : Txt.split z " " = wd :: ps) (h : shapeOf wd = none) : parseRow z = none := by
  unfold parseRow; rw [es]; simp only [h]
theorem parse_bad {z wd : Str} {ps sh : List Str} (es : Txt.split z " " = wd :: ps) (h : shapeOf wd = some sh) (hb : ¬ (ps.length = sh.length ∧ ps.all isNum = true)) : parseRow z = none := by
  unfold parseRow; rw [es]; simp only [h, if_neg hb]
theorem parse_yes {z wd : Str} {ps sh : List Str} (es : Txt.split z " " = wd :: ps) (h : shapeOf wd = some sh) (hb : ps.length = sh.length ∧ ps.all isNum = true) : parseRow z = some (wd, ps.map intOf) := by
  unfold parseRow; rw [es]; simp only [h, if_pos hb]
theorem parse_shape {z wd : Str} {zs : List Int} (h : parseRow z = some (wd, zs)) : ∃ sh, shapeOf wd = some sh ∧ zs.length = sh.length := by
  obtain ⟨wd', ps, es, _⟩ := split_sizes z
  cases e : shapeOf wd' with
  | none => rw [parse_no es e] at h; cases h
  | some sh =>
    by_cases hb : ps.length = sh.length ∧ ps.all isNum = true
    · rw [parse_yes es e hb] at h
      cases h
      exact ⟨sh, e, by rw [List.length_map]; exact hb.1⟩
    · rw [parse_bad es e hb] at h; cases h
theorem parse_len {z wd : Str} {zs : List Int} (h : parseRow z = some (wd, zs)) : zs.length ≤ 3 := by
  obtain ⟨sh, e, h2⟩ := parse_shape h
  have := shape_len e
  omega
theorem parse_word {z wd : Str} {zs : List Int} (h : parseRow z = some (wd, zs)) : PyData.strOk wd = true := by
  obtain ⟨sh, e, _⟩ := parse_shape h
  exact sTab_cases (P := fun wd _ => PyData.strOk wd = true) (by decide +kernel) e
abbrev s_read_row : Stmt := top 10
abbrev N_read_row : List Str := ["line", "word", "parts", "numbers", "part"]
theorem S_read_row : FnScope N_read_row ["line"] (defScope s_read_row) := ⟨rfl, rfl, rfl, by decide +kernel, rfl, by decide +kernel, by decide +kernel⟩

theorem c_read_row {dS CB : Addr} (T : Txt K w mg) (Z : Shapes K w mg dS) (X_BadRow : ExcT K mg "BadRow" CB) (gFigures : ∃ t, mg "FIGURES" = some (.int 6 t)) (D : DefAt K "read_row" s_read_row) (C__is_number : Cal P w K mg base CX0 1 "_is_number" spIsNumber) : Cal P w K mg base (L2.CX P w) 2 "read_row" (spReadRow CB) := by
  have S := S_read_row
  obtain ⟨tF, gFigures⟩ := gFigures
  obtain ⟨es, n, dShapes⟩ := Z.d
  have gShapes := Z.g
  refine cal_ofX T.toTop D S (fun _ _ _ _ _ _ us hl => match us, hl with | [_], _ => rfl) (fun vs H Q E h => ?_) (fun f cdv A outer s H vs Q E hr h => ?_)
  · obtain ⟨v, rfl, _⟩ := h
    rfl
  · obtain ⟨z, rfl, hz, hq, he⟩ := h
    obtain ⟨wd, ps, es, hn, hw, hp⟩ := split_sizes z
    refine ⟨_, (pss_cons (ps_asg (pe_split (pv 0) pe_str) (pg_star (i := 1) (j := 2) rfl S.nd rfl (Or.inl rfl) rfl (Or.inl rfl)))
  (pss_cons (ps_if (pt_cmpR (op_notIn_kd dShapes) (pv 1) ((pe_glob (v := .ref dS) rfl gShapes rfl)) (by with_unfolding_all rfl)) (pss_one (ps_raise rfl (takes_of rfl rfl rfl rfl) (SkE.pmk_own1 PySem.F.excBase_ValueError X_BadRow.x X_BadRow.g X_BadRow.k (raises_own X_BadRow.b X_BadRow.t) rfl pe_str))) pss_nil)
  (pss_cons (ps_if (pt_cmpR op_ne (pe_callB call_len_seq (by rfl) T.len PySem.boot_len (pa_cons (pv 2) pa_nil)) (pe_callB call_len_seq (by rfl) T.len PySem.boot_len (pa_cons (pe_ix ix_kdict ((pe_glob (v := .ref dS) rfl gShapes rfl)) (pv 1) (fun _ _ => rfl)) pa_nil)) (nomark _)) (pss_one (ps_raise rfl (takes_of rfl rfl rfl rfl) (SkE.pmk_own1 PySem.F.excBase_ValueError X_BadRow.x X_BadRow.g X_BadRow.k (raises_own X_BadRow.b X_BadRow.t) rfl (pe_joined (.cons pe_str (.cons (pe_fmt (pv 1)) (.cons pe_str (.cons (pe_fmt (pe_callB call_len_seq (by rfl) T.len PySem.boot_len (pa_cons (pe_ix ix_kdict ((pe_glob (v := .ref dS) rfl gShapes rfl)) (pv 1) (fun _ _ => rfl)) pa_nil))) (.cons pe_str .nil))))))))) pss_nil)
  (pss_cons (ps_if (pt_not (pt_val (pe_callB (cr_all rfl) (by rfl) T.all (by decide +kernel) (pa_cons (pe_lc (own := [("part", 4)]) (g := gName 4) (tt := tYes) rfl S.nd (pi_list (pv 2)) (blkOk_by (own := [("part", 4)]) (N := N_read_row) (sc := defScope s_read_row) (by decide +kernel)) (fun _ _ _ _ _ => pg_name (i := 4) S.nd rfl (Or.inl rfl)) (fun _ _ _ _ _ => pts_nil) (fun _ _ _ _ _ => (pe_c C__is_number hr (by decide) rfl (pa_cons (pv 4) pa_nil)))) pa_nil)))) (pss_one (ps_raise rfl (takes_of rfl rfl rfl rfl) (SkE.pmk_own1 PySem.F.excBase_ValueError X_BadRow.x X_BadRow.g X_BadRow.k (raises_own X_BadRow.b X_BadRow.t) rfl (pe_joined (.cons pe_str (.cons (pe_fmt ((pe_glob (v := .int 6) rfl gFigures ⟨_, rfl⟩))) (.cons pe_str .nil))))))) pss_nil)
  (pss_cons (ps_setLc (i := 3) (own := [("part", 4)]) (g := gName 4) (tt := tYes) rfl S.nd rfl rfl (sw_true rfl rfl rfl (by decide +kernel)) (pi_list (pv 2)) (blkOk_by (own := [("part", 4)]) (N := N_read_row) (sc := defScope s_read_row) (by decide +kernel)) (fun _ _ _ _ _ => pg_name (i := 4) S.nd rfl (Or.inl rfl)) (fun _ _ _ _ _ => pts_nil) (fun _ _ _ _ _ => (pe_callTy call_int_str (by rfl) T.int (by decide +kernel) (pa_cons (pv 4) pa_nil))))
  (pss_one (ps_ret (pe_tup (pa_cons (pv 1) (StX.pa_star (pv 3) pa_nil)))))))))), ?_⟩
    refine ⟨_, rfl, ⟨_, rfl⟩, _, _, rfl, rfl, rfl, Nat.le_trans (Nat.add_le_add_right hz 2) (by decide), fun p1 np1 => ?_⟩
    rw [es]
    refine ⟨p1, _, _, rfl, SqL.of upd_same, by rw [List.length_map]; omega, fun p2 np2 => ?_⟩
    have s2 := (Same.new np1).more np2 (o := .lst (ps.map V.str))
    cases eS : shapeOf wd with
    | none => exact ⟨_, rfl, _, _, rfl, rfl, Z.no _ eS, _, rfl, he (parse_no es eS) _ s2⟩
    | some sh =>
      obtain ⟨t, hk, hT⟩ := Z.get eS
      obtain ⟨t', eN, _⟩ := Z.yes _ _ eS
      have hlen := shape_len eS
      have hword := shape_word eS
      refine ⟨_, rfl, _, _, rfl, rfl, eN, false, rfl, ?_⟩
      refine ⟨_, rfl, p2, _, rfl, .inl (SqL.of upd_same), _, rfl, _, _, _, rfl, rfl, hk, t, _, rfl, .inr (hT _), rfl, ?_⟩
      rw [List.length_map, List.length_map]
      by_cases hc : ps.length = sh.length
      · refine ⟨false, congrArg V.bl (by simp [hc]), ?_⟩
        refine ⟨_, rfl, p2, rfl, ⟨_, SqL.of upd_same⟩, fun p3 np3 => lc_fl (fun x => some (.bl (match x with | .str p => isNum p | _ => false))) np3 (SqL.of upd_same) (by rw [List.length_map]; exact small1000 (by omega)) (fun i x H' hi s3 k1 k0 h1 h0 => ?_) (fun H' s3 h3 => ?_)⟩
        · obtain ⟨p, hm, rfl⟩ := List.mem_map.mp (List.mem_of_getElem? hi)
          exact ⟨rfl, _, rfl, p, rfl, Nat.le_trans (hp p hm) (Nat.le_trans hz (by decide)), h1 _ _ rfl (Same.refl _)⟩
        · rw [fm_some, List.map_map, show ps.map ((fun x => V.bl (match x with | .str p => isNum p | _ => false)) ∘ V.str) = (ps.map isNum).map V.bl by rw [List.map_map]; rfl] at h3
          refine ⟨p3, ps.map isNum, rfl, SqL.of h3, ?_⟩
          have ea : (ps.map isNum).all id = ps.all isNum := by simp
          rw [ea]
          have s4 := s2.trans s3
          cases hall : ps.all isNum with
          | false =>
            refine ⟨false, rfl, ?_⟩
            refine ⟨_, rfl, sz_ok rfl, ?_⟩
            refine .inr ⟨6, rfl, by decide, ?_⟩
            refine ⟨_, rfl, by decide +kernel, _, rfl, by decide +kernel, he (parse_bad es eS (by simp [hall])) _ s4⟩
          | true =>
            refine ⟨true, rfl, ?_⟩
            have hall' : ∀ p ∈ ps, isNum p = true := List.all_eq_true.mp hall
            refine ⟨_, rfl, p2, rfl, ⟨_, SqL.of (s3 _ _ upd_same)⟩, fun p4 np4 => lc_fl (fun x => some (.int (match x with | .str p => intOf p | _ => 0))) np4 (SqL.of (s3 _ _ upd_same)) (by rw [List.length_map]; exact small1000 (by omega)) (fun i x H' hi s3 k1 k0 h1 h0 => ?_) (fun H5 s5 h5 => ?_)⟩
            · obtain ⟨p, hm, rfl⟩ := List.mem_map.mp (List.mem_of_getElem? hi)
              exact ⟨rfl, _, rfl, p, _, rfl, isNum_int (hall' p hm), Nat.le_trans (isNum_parts (hall' p hm)).2.2 (by decide), h1 _ _ rfl (Same.refl _)⟩
            · rw [fm_some, List.map_map, show ps.map ((fun x => V.int (match x with | .str p => intOf p | _ => 0)) ∘ V.str) = (ps.map intOf).map V.int by rw [List.map_map]; rfl] at h5
              have s6 := s4.trans s5
              refine ⟨_, rfl, _, rfl, p4, _, rfl, .inr (SqL.of h5), ?_⟩
              refine ⟨?_, fun p6 np6 => hq _ _ (parse_yes es eS ⟨hc, hall⟩) _ p6 (s6.more np6) (s6.free np6) (by rw [upd_same, List.append_nil])⟩
              simp only [List.length_cons, List.length_append, List.length_map, List.length_nil]
              exact Nat.le_trans (by omega : _ ≤ 1003) (by decide)
      · refine ⟨true, congrArg V.bl (by simp; omega), ?_⟩
        refine ⟨_, rfl, by decide +kernel, ?_⟩
        refine ⟨_, rfl, .inl ⟨wd, rfl, Nat.le_trans hword (by decide), wd, rfl, app_sz (n := 7) (m := 5) (by decide +kernel) hword (by decide), ?_⟩⟩
        have g1 : (Str.empty ++ Str.ofString "behind " ++ wd).length ≤ 12 := app_sz (n := 7) (m := 5) (by decide +kernel) hword (by decide)
        refine ⟨_, rfl, app_sz (n := 12) (m := 7) g1 (by decide +kernel) (by decide), ?_⟩
        have g2 : (Str.empty ++ Str.ofString "behind " ++ wd ++ Str.ofString " stand ").length ≤ 19 := app_sz (n := 12) (m := 7) g1 (by decide +kernel) (by decide)
        refine ⟨_, rfl, _, _, _, rfl, rfl, hk, t, _, rfl, .inr (hT _), .inr ⟨_, rfl, log_small (by simp) (by simp; omega), _, rfl, ?_, ?_⟩⟩
        · exact app_sz (n := 19) (m := 6) g2 (txt_len (by simp) (by simp; omega)) (by decide)
        · refine ⟨_, rfl, app_sz (n := 25) (m := 50) (app_sz (n := 19) (m := 6) g2 (txt_len (by simp) (by simp; omega)) (by decide)) (by decide +kernel) (by decide), he (parse_bad es eS (by simp [hc])) _ s2⟩

def numOf (p : Str) : V := if isNum p = true then .int (intOf p) else .non
def spNumberOf : Sp := fun vs H Q _ => ∃ p : Str, vs = [.str p] ∧ p.length ≤ 1000 ∧ ∀ H', Same H H' → Q (numOf p) H'
def digitS : Str := "0123456789"
theorem digitS_mem (c : Nat) : c ∈ digitS.cps.toList ↔ 48 ≤ c ∧ c ≤ 57 := by
  have e : digitS.cps.toList = [48, 49, 50, 51, 52, 53, 54, 55, 56, 57] := by decide +kernel
  rw [e]
  simp only [List.mem_cons, List.not_mem_nil, or_false]
  omega
theorem isNum_long {p : Str} (h : 6 < p.length) : isNum p = false := by
  cases e : isNum p with
  | false => rfl
  | true => exact absurd (isNum_parts e).2.2 (by omega)
theorem isNum_none {p : Str} (h : p.length < 1) : isNum p = false := by
  cases e : isNum p with
  | false => rfl
  | true =>
    have h1 := (isNum_parts e).2.1
    unfold Txt.isdigit at h1
    simp only [Bool.and_eq_true, decide_eq_true_eq] at h1
    omega
theorem starts0 {p : Str} {c : Nat} {r : List Nat} (e : p.cps.toList = c :: r) : Txt.startswith p "0" = decide (c = 48) := by
  have e1 : p.length = r.length + 1 := by
    show p.cps.size = _
    rw [← Array.length_toList, e]
    rfl
  have e2 : (p.cps.extract 0 (0 + ("0" : Str).length)).toList = [c] := by
    rw [Array.toList_extract, e]
    rfl
  unfold Txt.startswith Builtin.Str.subAt
  have h1 : decide (0 + ("0" : Str).length ≤ p.length) = true := decide_eq_true (by rw [e1]; show 0 + 1 ≤ _; omega)
  rw [h1, Bool.true_and, Bool.eq_iff_iff, beq_iff_eq, decide_eq_true_eq]
  constructor
  · intro h
    rw [h] at e2
    have : [48] = [c] := e2
    exact (List.cons.inj this).1.symm
  · intro h
    subst h
    exact Array.ext' e2
theorem isNum_head {p : Str} {r : List Nat} (e : p.cps.toList = 48 :: r) (hr : r ≠ []) : isNum p = false := by
  unfold isNum
  rw [starts0 e]
  have h : ¬ p = "0" := fun z => by
    subst z
    have : [48] = 48 :: r := e
    exact hr (List.cons.inj this).2.symm
  simp [h]
theorem isNum_bad {p : Str} {c : Nat} (hc : c ∈ p.cps.toList) (h : ¬ (48 ≤ c ∧ c ≤ 57)) : isNum p = false := by
  cases e : isNum p with
  | false => rfl
  | true => exact absurd ((isNum_digits e).2 c hc) h
theorem isNum_good {p : Str} (h1 : 1 ≤ p.length) (h6 : p.length ≤ 6) (hd : ∀ c ∈ p.cps.toList, 48 ≤ c ∧ c ≤ 57) (h0 : ∀ r, p.cps.toList = 48 :: r → r = []) : isNum p = true := by
  have a1 : Txt.isascii p = true := by
    unfold Txt.isascii
    refine Array.all_eq_true_iff_forall_mem.mpr fun c hc => ?_
    have := hd c (by simpa using hc)
    simp
    omega
  have a2 : Txt.isdigit p = true := by
    unfold Txt.isdigit
    simp only [Bool.and_eq_true, decide_eq_true_eq]
    refine ⟨by omega, Array.all_eq_true_iff_forall_mem.mpr fun c hc => ?_⟩
    have := hd c (by simpa using hc)
    have dig : ∀ c, c < 58 → 48 ≤ c → Unicode.isDigit c = true := by decide +kernel
    exact dig c (by omega) this.1
  unfold isNum
  rw [a1, a2]
  simp only [Bool.and_self, Bool.true_and, Bool.or_eq_true, decide_eq_true_eq, Bool.and_eq_true, Bool.not_eq_true']
  cases e : p.cps.toList with
  | nil =>
    have : p.length = p.cps.toList.length := by simp [Str.length]
    rw [e] at this
    simp at this
    omega
  | cons c r =>
    by_cases hc : c = 48
    · subst hc
      have hr := h0 r e
      subst hr
      refine .inl ?_
      have h2 : p.cps = ("0" : Str).cps := Array.ext' e
      cases p
      exact congrArg Str.mk h2
    · exact .inr ⟨h6, by rw [starts0 e]; exact decide_eq_false hc⟩
abbrev s__law_number_of : Stmt := top 16
abbrev N__law_number_of : List Str := ["_law_word", "_law_sign"]
theorem S__law_number_of : FnScope N__law_number_of ["_law_word"] (defScope s__law_number_of) := ⟨rfl, rfl, rfl, by decide +kernel, rfl, by decide +kernel, by decide +kernel⟩

theorem c_number_of (T : Txt K w mg) (D : DefAt K "_law_number_of" s__law_number_of) : Cal P w K mg base CX0 1 "_law_number_of" spNumberOf := by
  have S := S__law_number_of
  refine cal_of T.toTop D S (fun _ _ _ _ _ _ us hl => match us, hl with | [_], _ => rfl) (fun vs H Q E h => ?_) (fun f cdv A outer s H vs Q E hr h => ?_)
  · obtain ⟨p, rfl, _⟩ := h
    rfl
  · obtain ⟨p, rfl, hz, q⟩ := h
    have hsz : p.length ≤ sizeLine := Nat.le_trans hz (by decide)
    refine ⟨_, (pss_cons (ps_if (PW.pt (pw_or (pt_not (pt_chain op_le op_le pe_int (pe_callB call_len_str (by rfl) T.len PySem.boot_len (pa_cons (pv 0) pa_nil)) pe_int)) (pw_or1 (PW.pt (pw_and (pt_cmpR op_eq (pe_ix ix_str (pv 0) pe_int (fun _ _ => rfl)) pe_str (nomark _)) (pw_and1 (pt_cmpR op_gt (pe_callB call_len_str (by rfl) T.len PySem.boot_len (pa_cons (pv 0) pa_nil)) pe_int (nomark _)))))))) (pss_one (ps_ret pe_non)) pss_nil)
  (pss_cons (ps_for PassesOwn.never rfl (pi_str (pv 0)) (pg_name (i := 1) S.nd rfl (Or.inl rfl))
  (pss_one (ps_if (pt_cmpR op_notIn_sign (pv 1) pe_str (by with_unfolding_all rfl)) (pss_one (ps_ret pe_non)) pss_nil)))
  (pss_one (ps_ret (pe_callTy call_int_str (by rfl) T.int (by decide +kernel) (pa_cons (pv 0) pa_nil)))))), ?_⟩
    have bad : isNum p = false → Q .non H := fun h => by
      have := q H (Same.refl H)
      unfold numOf at this
      rw [h] at this
      exact this
    refine ⟨_, rfl, p, rfl, hsz, _, _, rfl, rfl, ?_⟩
    by_cases h1 : 1 ≤ p.length
    case neg => exact ⟨false, bl_of (decide_eq_false (by omega)), _, rfl, bad (isNum_none (by omega))⟩
    refine ⟨true, bl_of (decide_eq_true (by omega)), _, _, rfl, rfl, ?_⟩
    by_cases h6 : p.length ≤ 6
    case neg => exact ⟨false, bl_of (decide_eq_false (by omega)), bad (isNum_long (by omega))⟩
    refine ⟨true, bl_of (decide_eq_true (by omega)), ?_⟩
    have hL : p.cps.toList.length = p.length := by simp [Str.length]
    cases el : p.cps.toList with
    | nil => rw [el] at hL; simp at hL; omega
    | cons c r =>
      have e0 : atI p.cps.toList 0 = some c := at_in (by decide) (by rw [el]; rfl)
      rw [el, List.length_cons] at hL
      have ev : decide (V.str ⟨#[c]⟩ = V.str "0") = decide (c = 48) := by
        rw [Bool.eq_iff_iff, decide_eq_true_eq, decide_eq_true_eq]
        constructor
        · intro h
          have h2 := congrArg (fun s : Str => s.cps.toList) (V.str.inj h)
          have h3 : [c] = [48] := h2
          exact (List.cons.inj h3).1
        · rintro rfl
          rfl
      have h0 : ¬ (c = 48 ∧ r ≠ []) → ∀ r', p.cps.toList = 48 :: r' → r' = [] := fun hn r' e => by
        rw [el] at e
        obtain ⟨e1, e2⟩ := List.cons.inj e
        subst e1 e2
        exact Classical.byContradiction fun z => hn ⟨rfl, z⟩
      refine ⟨_, rfl, p, _, c, rfl, rfl, hsz, e0, rfl, ?_⟩
      by_cases hbad : c = 48 ∧ r ≠ []
      · obtain ⟨rfl, hr0⟩ := hbad
        have hr1 : 0 < r.length := List.length_pos_iff.mpr hr0
        exact ⟨true, bl_of (by rw [ev]; rfl), _, rfl, p, rfl, hsz, _, _, rfl, rfl, true, bl_of (decide_eq_true (by omega)), bad (isNum_head el hr0)⟩
      have h0 := h0 hbad
      by_cases hc : c = 48
      all_goals first
        | refine ⟨false, bl_of (by rw [ev]; exact decide_eq_false hc), ?_⟩
        | refine ⟨true, bl_of (by rw [ev]; exact decide_eq_true hc), _, rfl, p, rfl, hsz, _, _, rfl, rfl, false, bl_of (decide_eq_false (by have h9 := h0 r (by rw [el, hc]); subst h9; simp at hL; omega)), ?_⟩
      all_goals
        refine ⟨_, rfl, p, rfl, for_its (fun i σ H' => H' = H ∧ (∃ v, σ = [some (.str p), v]) ∧ ∀ j c, j < i → p.cps[j]? = some c → 48 ≤ c ∧ c ≤ 57) ⟨rfl, ⟨none, rfl⟩, fun j c hj => absurd hj (Nat.not_lt_zero _)⟩ (fun i d σ H' hd ⟨eH, ⟨v, eσ⟩, hall⟩ => ?_) (fun σ H' ⟨eH, ⟨v, eσ⟩, hall⟩ => ?_)⟩
        · subst eH eσ
          refine ⟨_, rfl, d, digitS, rfl, rfl, ?_⟩
          by_cases hdd : 48 ≤ d ∧ d ≤ 57
          · refine ⟨false, bl_of (by rw [decide_eq_true ((digitS_mem d).mpr hdd)]; rfl), rfl, ⟨_, rfl⟩, fun j c hj hjc => ?_⟩
            by_cases hji : j = i
            · subst hji
              rw [hd] at hjc
              cases hjc
              exact hdd
            · exact hall j c (by omega) hjc
          · exact ⟨true, bl_of (by rw [decide_eq_false (fun z => hdd ((digitS_mem d).mp z))]; rfl), bad (isNum_bad (by obtain ⟨hlt, he⟩ := Array.getElem?_eq_some_iff.mp hd; rw [← he]; simp) hdd)⟩
        · subst eH eσ
          have hgood : isNum p = true := isNum_good h1 h6 (fun c hc => by
            obtain ⟨j, hj, e⟩ := List.getElem_of_mem hc
            have hj2 : j < p.cps.size := by simpa using hj
            exact hall j c hj2 (Array.getElem?_eq_some_iff.mpr ⟨hj2, by simpa using e⟩)) h0
          refine ⟨_, rfl, p, _, rfl, isNum_int hgood, Nat.le_trans h6 (by decide), ?_⟩
          have := q H' (Same.refl H')
          unfold numOf at this
          rw [if_pos hgood] at this
          exact this

def wordsL : List Str := ["set", "copy", "add", "sub", "fetch", "store", "less", "jump", "tell"]
def manysL : List Int := [2, 2, 3, 3, 2, 2, 3, 1, 1]
theorem words_shape : ∀ i, i < 9 → ∃ sh, shapeOf (wordsL.getD i Str.empty) = some sh ∧ (sh.length : Int) = manysL.getD i 0 := by
  intro i hi
  have h : ∀ i, i < 9 → ((shapeOf (wordsL.getD i Str.empty)).map fun sh => (sh.length : Int)) = some (manysL.getD i 0) := by decide +kernel
  have e := h i hi
  cases e2 : shapeOf (wordsL.getD i Str.empty) with
  | none => rw [e2] at e; cases e
  | some sh => rw [e2] at e; exact ⟨sh, rfl, Option.some.inj e⟩

theorem names_idx {wd : Str} {sh : List Str} (e : shapeOf wd = some sh) : ∃ j, j < 9 ∧ wordsL.getD j Str.empty = wd ∧ (∀ k, k < j → wordsL.getD k Str.empty ≠ wd) ∧ manysL.getD j 0 = (sh.length : Int) :=
  sTab_cases (P := fun wd sh => ∃ j, j < 9 ∧ wordsL.getD j Str.empty = wd ∧ (∀ k, k < j → wordsL.getD k Str.empty ≠ wd) ∧ manysL.getD j 0 = (sh.length : Int)) (by decide +kernel) e
theorem inV_strs (z : Str) : ∀ l : List Str, inV (.str z) (l.map V.str) = decide (z ∈ l)
  | [] => rfl
  | a :: l => by
    have ih := inV_strs z l
    unfold inV at ih ⊢
    rw [List.map_cons, List.any_cons, ih]
    have e : eqV (.str a) (.str z) = (a == z) := rfl
    rw [e, Bool.eq_iff_iff, Bool.or_eq_true, beq_iff_eq, decide_eq_true_eq, decide_eq_true_eq, List.mem_cons]
    exact ⟨fun h => h.elim (fun h => .inl h.symm) .inr, fun h => h.elim (fun h => .inl h.symm) .inr⟩
theorem all_flat_strs (l : List Str) : (l.map V.str).all flatV = true := by
  rw [List.all_map]
  exact List.all_eq_true.mpr fun _ _ => rfl
theorem cut_from1 (x : V) (xs : List V) : cutV (x :: xs) (some 1) none = xs := by
  unfold cutV
  have h1 : HT.sIx (x :: xs).length 0 (some 1) = 1 := by
    have := HT.sIx_nat (x :: xs).length 0 1
    simp only [List.length_cons] at this ⊢
    rw [show ((1 : Nat) : Int) = 1 from rfl] at this
    rw [this]
    omega
  rw [h1, HT.sIx_none]
  simp
def spDueOf : Sp := fun vs H Q _ => ∃ z : Str, vs = [.str z] ∧ z.length ≤ 1000 ∧
  (∀ wd ns, parseRow z = some (wd, ns) → ∀ H' p, Same H H' → H p = none → H' p = some (.tup (.str wd :: ns.map V.int)) → Q (.ref p) H') ∧ (parseRow z = none → ∀ H', Same H H' → Q .non H')
abbrev s__law_due_of : Stmt := top 17
abbrev N__law_due_of : List Str := ["_law_line", "_law_words", "_law_names", "_law_row", "_law_word"]
theorem S__law_due_of : FnScope N__law_due_of ["_law_line"] (defScope s__law_due_of) := ⟨rfl, rfl, rfl, by decide +kernel, rfl, by decide +kernel, by decide +kernel⟩

theorem c_due_of (T : Txt K w mg) (D : DefAt K "_law_due_of" s__law_due_of) (C__law_number_of : Cal P w K mg base CX0 1 "_law_number_of" spNumberOf) : Cal P w K mg base CX0 2 "_law_due_of" spDueOf := by
  have S := S__law_due_of
  refine cal_of T.toTop D S (fun _ _ _ _ _ _ us hl => match us, hl with | [_], _ => rfl) (fun vs H Q E h => ?_) (fun f cdv A outer s H vs Q E hr h => ?_)
  · obtain ⟨z, rfl, _⟩ := h
    rfl
  · obtain ⟨z, rfl, hz, hq, he⟩ := h
    obtain ⟨wd, ps, es, hn, hw, hp⟩ := split_sizes z
    refine ⟨_, (pss_cons (ps_set (i := 1) S.nd rfl (Or.inl rfl) (pe_split (pv 0) pe_str))
  (pss_cons (ps_set (i := 2) S.nd rfl (Or.inl rfl) (pe_lst (pa_cons pe_str (pa_cons pe_str (pa_cons pe_str (pa_cons pe_str (pa_cons pe_str (pa_cons pe_str (pa_cons pe_str (pa_cons pe_str (pa_cons pe_str pa_nil)))))))))))
  (pss_cons (ps_if (PW.pt (pw_or (pt_cmpR op_notIn_seq (pe_ix ix_list (pv 1) pe_int (fun _ _ => rfl)) (pv 2) (by with_unfolding_all rfl)) (pw_or1 (pt_cmpR op_ne (pe_callB call_len_seq (by rfl) T.len PySem.boot_len (pa_cons (pv 1) pa_nil)) (pe_op op_add pe_int (pe_ix ix_list (pe_lst (pa_cons pe_int (pa_cons pe_int (pa_cons pe_int (pa_cons pe_int (pa_cons pe_int (pa_cons pe_int (pa_cons pe_int (pa_cons pe_int (pa_cons pe_int pa_nil)))))))))) (pe_bm PySem.F.plainAttrs_list PySem.F.slot_list_index PySem.F.type_list_index mt_index (pv 2) (pa_cons (pe_ix ix_list (pv 1) pe_int (fun _ _ => rfl)) pa_nil)) (fun _ _ => rfl))) (nomark _))))) (pss_one (ps_ret pe_non)) pss_nil)
  (pss_cons (ps_set (i := 3) S.nd rfl (Or.inl rfl) (pe_lst (pa_cons (pe_ix ix_list (pv 1) pe_int (fun _ _ => rfl)) pa_nil)))
  (pss_cons (ps_for PassesOwn.never rfl (pi_list (pe_slice sl_list (pv 1) (po_some pe_int) po_none)) (pg_name (i := 4) S.nd rfl (Or.inl rfl))
  (pss_cons (ps_if (pt_cmpR op_isN (pe_c C__law_number_of hr (by decide) rfl (pa_cons (pv 4) pa_nil)) pe_non (nomark _)) (pss_one (ps_ret pe_non)) pss_nil)
  (pss_one (ps_expr (pe_bm PySem.F.plainAttrs_list PySem.F.slot_list_append PySem.F.type_list_append mt_append (pv 3) (pa_cons (pe_c C__law_number_of hr (by decide) rfl (pa_cons (pv 4) pa_nil)) pa_nil))))))
  (pss_one (ps_ret (pe_tupleOf (by rfl) T.tuple (pv 3))))))))), ?_⟩
    refine ⟨_, rfl, ⟨_, rfl⟩, _, _, rfl, rfl, rfl, Nat.le_trans (Nat.add_le_add_right hz 2) (by decide), fun p1 np1 => ?_⟩
    rw [es]
    have s1 := Same.new (o := .lst ((wd :: ps).map V.str)) np1
    have h1 : upd H p1 (.lst ((wd :: ps).map V.str)) p1 = some (.lst (.str wd :: ps.map V.str)) := upd_same
    generalize upd H p1 (.lst ((wd :: ps).map V.str)) = H1 at s1 h1
    refine ⟨sz_ok rfl, fun p2 np2 => ?_⟩
    generalize e2 : upd H1 p2 _ = H2
    have h2 : H2 p2 = some (.lst (wordsL.map V.str)) := e2 ▸ upd_same
    have t2 : Same H1 H2 := e2 ▸ Same.new np2
    have s2 := s1.trans t2
    have h1' := t2 _ _ h1
    refine ⟨_, rfl, p1, _, _, _, rfl, rfl, SqL.of h1', at_in (v := .str wd) (by decide) rfl, _, rfl, p2, wordsL.map V.str, rfl, .inl (SqL.of h2), rfl, all_flat_strs _, ?_⟩
    cases eS : shapeOf wd with
    | none =>
      have hn : wd ∉ wordsL := fun hm => by
        obtain ⟨i, hi, e⟩ := List.getElem_of_mem hm
        obtain ⟨sh, e1, _⟩ := words_shape i hi
        rw [List.getD_eq_getElem?_getD, List.getElem?_eq_getElem hi, Option.getD_some, e, eS] at e1
        cases e1
      exact ⟨true, bl_of (by simp only [inV_strs, decide_eq_false hn]; rfl), he (parse_no es eS) _ s2⟩
    | some sh =>
      obtain ⟨j, hj, hjw, hjn, hjm⟩ := names_idx eS
      have hlen := shape_len eS
      have hget : ∀ k, k < 9 → wordsL[k]? = some (wordsL.getD k Str.empty) := fun k hk => by
        rw [List.getD_eq_getElem?_getD, List.getElem?_eq_getElem (show k < wordsL.length from hk)]; rfl
      have hm : wd ∈ wordsL := List.mem_of_getElem? (by rw [hget j hj, hjw])
      refine ⟨false, bl_of (by simp only [inV_strs, decide_eq_true hm]; rfl), ?_⟩
      refine ⟨_, rfl, p1, _, rfl, .inl (SqL.of h1'), sz_ok rfl, fun p3 np3 => ?_⟩
      generalize e3 : upd H2 p3 _ = H3
      have h3 : H3 p3 = some (.lst (manysL.map V.int)) := e3 ▸ upd_same
      have t3 : Same H2 H3 := e3 ▸ Same.new np3
      have s3 := s2.trans t3
      refine ⟨_, rfl, .inl ⟨rfl, _, SqL.of (t3 _ _ h2)⟩, _, rfl, p1, _, _, _, rfl, rfl, SqL.of (t3 _ _ h1'), at_in (v := .str wd) (by decide) rfl, ?_⟩
      refine ⟨p2, wordsL.map V.str, .str wd, j, .str wd, rfl, rfl, SqL.of (t3 _ _ h2), rfl, all_flat_strs _, ?_, ?_, fun m z' hmj hz' => ?_, ?_⟩
      · rw [List.getElem?_map, hget j hj, hjw]; rfl
      · exact beq_self_eq_true wd
      · rw [List.getElem?_map, hget m (by omega)] at hz'
        cases hz'
        exact beq_eq_false_iff_ne.mpr (hjn m hmj)
      refine ⟨p3, _, _, _, rfl, rfl, SqL.of h3, at_ints (ns := manysL) (by omega) (by show (j : Int) < 9; omega), _, _, rfl, rfl, rfl, ?_⟩
      rw [show (((j : Nat) : Int)).toNat = j from rfl, hjm]
      by_cases hc : ps.length = sh.length
      case neg => exact ⟨true, bl_of (by simp; omega), he (parse_bad es eS (by simp [hc])) _ s3⟩
      refine ⟨false, bl_of (by simp; omega), ?_⟩
      refine ⟨_, rfl, p1, _, _, _, rfl, rfl, SqL.of (t3 _ _ h1'), at_in (v := .str wd) (by decide) rfl, sz_ok rfl, fun p4 np4 => ?_⟩
      generalize e4 : upd H3 p4 _ = H4
      have h4 : H4 p4 = some (.lst [.str wd]) := e4 ▸ upd_same
      have t4 : Same H3 H4 := e4 ▸ Same.new np4
      have h1'' := t4 _ _ (t3 _ _ h1')
      refine ⟨_, rfl, 1, rfl, p1, _, rfl, SqL.of h1'', fun p5 np5 => ?_⟩
      rw [cut_from1]
      have h5 : upd H4 p5 (.lst (ps.map V.str)) p5 = some (.lst (ps.map V.str)) := upd_same
      refine ⟨p5, rfl, ⟨_, SqL.of h5⟩, for_list (xs := ps.map V.str) (fun i σ H' => (∃ v, σ = [some (.str z), some (.ref p1), some (.ref p2), some (.ref p4), v]) ∧ Same H3 H' ∧ H' p5 = some (.lst (ps.map V.str)) ∧ H' p4 = some (.lst (.str wd :: ((ps.take i).map fun p => V.int (intOf p)))) ∧ ∀ p ∈ ps.take i, isNum p = true)
        ⟨⟨none, rfl⟩, t4.more np5, h5, Same.new np5 _ _ h4, fun p hp => by simp at hp⟩ (fun i σ H' _ h => SqL.of h.2.2.1) (fun i x σ H' hi ⟨⟨v, eσ⟩, u3, g5, g4, gn⟩ => ?_) (fun σ H' ⟨⟨v, eσ⟩, u3, g5, g4, gn⟩ => ?_)⟩
      · subst eσ
        have hi2 : i < ps.length := by simpa using (List.getElem?_eq_some_iff.mp hi).1
        obtain ⟨p, hpi, rfl⟩ : ∃ p, ps[i]? = some p ∧ V.str p = x := by
          rw [List.getElem?_map] at hi
          cases e : ps[i]? with
          | none => rw [e] at hi; cases hi
          | some p => rw [e] at hi; exact ⟨p, rfl, Option.some.inj hi⟩
        have hpm := List.mem_of_getElem? hpi
        have hpl := Nat.le_trans (hp p hpm) hz
        refine ⟨_, rfl, p, rfl, hpl, fun H6 t6 => ?_⟩
        by_cases hnum : isNum p = true
        case neg =>
          refine ⟨rfl, true, bl_of (by rw [numOf, if_neg hnum]; rfl), he (parse_bad es eS fun h => hnum (List.all_eq_true.mp h.2 p hpm)) _ ((s3.trans u3).trans t6)⟩
        refine ⟨rfl, false, bl_of (by rw [numOf, if_pos hnum]; rfl), ?_⟩
        refine ⟨_, rfl, .inl ⟨rfl, _, SqL.of (t6 _ _ g4)⟩, _, rfl, p, rfl, hpl, fun H7 t7 => ?_⟩
        have g4' := t7 _ _ (t6 _ _ g4)
        have n34 : H3 p4 = none := np4
        refine ⟨p4, _, _, rfl, rfl, g4', ?_, ⟨_, rfl⟩, ((u3.trans t6).trans t7).mut n34, ?_, ?_, ?_⟩
        · simp only [List.length_cons, List.length_map, List.length_take]
          exact Nat.lt_of_le_of_lt (by omega : _ ≤ 1001) (by decide)
        · rw [upd_ne (ne_of_none h4 np5).symm]
          exact t7 _ _ (t6 _ _ g5)
        · rw [upd_same, List.take_succ, hpi]
          simp [numOf, hnum]
        · intro q hq
          rw [List.take_succ, hpi] at hq
          rcases List.mem_append.mp hq with hq | hq
          · exact gn q hq
          · simp at hq
            subst hq
            exact hnum
      · subst eσ
        rw [List.length_map, List.take_length] at g4 gn
        have s6 := s3.trans u3
        refine ⟨_, rfl, .inl ⟨p4, _, rfl, SqL.of g4, fun q nq => ?_⟩⟩
        exact hq _ _ (parse_yes es eS ⟨hc, List.all_eq_true.mpr gn⟩) _ q (s6.more nq) (s6.free nq) (by rw [upd_same, List.map_map]; rfl)

/-- a def that hands back some text of at most m signs -/
abbrev someTxt (m : Nat) (H : Hp) (Q : VK) : Prop := ∀ (z : Str) H', z.length ≤ m → Same H H' → Q (.str z) H'
theorem mul01 (b : Bool) : PySem.MulOk "0" (if b then 1 else 0) ∧ (Txt.mul "0" (if b then 1 else 0)).length ≤ 1 := by
  cases b
  · exact ⟨⟨by decide, fun h => absurd (by decide) h, fun h => absurd (by decide) h⟩, by decide +kernel⟩
  · exact ⟨⟨by decide, fun _ h => by simp at h, fun _ h => by simp at h⟩, by decide +kernel⟩
theorem txt_len8 {n : Int} (h0 : 0 ≤ n) (h1 : n < 100000000) : (txtOf n).length ≤ 8 := by
  have e : n = ((n.toNat : Nat) : Int) := (Int.toNat_of_nonneg h0).symm
  unfold txtOf
  rw [e]
  have q : (TL.tl (Str.ofString (toString ((n.toNat : Nat) : Int)))).length ≤ 8 := by
    rw [TL.tl_num]
    exact TL.numL_len (by decide) (by omega)
  exact q
theorem log_small8 {n : Int} (h0 : 0 ≤ n) (h1 : n < 100000000) : n.natAbs.log2 < 1920 := by
  have h : n.natAbs < 2 ^ 27 := by omega
  rcases Nat.eq_zero_or_pos n.natAbs with e | e
  · rw [e]; decide
  · have := (Nat.log2_lt (by omega)).mpr h
    omega
def spLineBy (K : PySem.W.Frag) : Sp := fun vs H Q _ => ∃ (a : Addr) (ns : List Int), vs = [.ref a] ∧ SqL K H a (ns.map V.int) ∧ someTxt 100 H Q
def namesL : List Str := ["set", "copy", "add", "sub", "fetch", "store", "less", "jump", "tell", "Set", "move", ""]
def manys12 : List Int := [2, 2, 3, 3, 2, 2, 3, 1, 1, 2, 2, 0]
def belows : List Int := [10, 100, 1000, 10000, 100000, 1000000, 10000000, 100000000]
abbrev s__law_line_by : Stmt := top 18
abbrev N__law_line_by : List Str := ["_law_script", "_law_names", "_law_first", "_law_line", "_law_many", "_law_k", "_law_cell", "_law_below"]
theorem S__law_line_by : FnScope N__law_line_by ["_law_script"] (defScope s__law_line_by) := ⟨rfl, rfl, rfl, by decide +kernel, rfl, by decide +kernel, by decide +kernel⟩

theorem c_line_by (T : Txt K w mg) (D : DefAt K "_law_line_by" s__law_line_by) (C__law_cell_at : Cal P w K mg base CX0 1 "_law_cell_at" (spCellAt K)) (C__law_mixed : Cal P w K mg base CX0 1 "_law_mixed" spMixed) : Cal P w K mg base CX0 2 "_law_line_by" (spLineBy K) := by
  have S := S__law_line_by
  refine cal_of T.toTop D S (fun _ _ _ _ _ _ us hl => match us, hl with | [_], _ => rfl) (fun vs H Q E h => ?_) (fun f cdv A outer s H vs Q E hr h => ?_)
  · obtain ⟨a, ns, rfl, _⟩ := h
    rfl
  · obtain ⟨a, ns, rfl, hS, q⟩ := h
    refine ⟨_, (pss_cons (ps_set (i := 1) S.nd rfl (Or.inl rfl) (pe_lst (pa_cons pe_str (pa_cons pe_str (pa_cons pe_str (pa_cons pe_str (pa_cons pe_str (pa_cons pe_str (pa_cons pe_str (pa_cons pe_str (pa_cons pe_str (pa_cons pe_str (pa_cons pe_str (pa_cons pe_str pa_nil))))))))))))))
  (pss_cons (ps_set (i := 2) S.nd rfl (Or.inl rfl) (pe_c C__law_cell_at hr (by decide) rfl (pa_cons (pv 0) (pa_cons pe_int pa_nil))))
  (pss_cons (ps_set (i := 3) S.nd rfl (Or.inl rfl) (pe_ix ix_list (pv 1) (pe_op op_mod (pv 2) pe_int) (fun _ _ => rfl)))
  (pss_cons (ps_set (i := 4) S.nd rfl (Or.inl rfl) (pe_ix ix_list (pe_lst (pa_cons pe_int (pa_cons pe_int (pa_cons pe_int (pa_cons pe_int (pa_cons pe_int (pa_cons pe_int (pa_cons pe_int (pa_cons pe_int (pa_cons pe_int (pa_cons pe_int (pa_cons pe_int (pa_cons pe_int pa_nil))))))))))))) (pe_op op_mod (pv 2) pe_int) (fun _ _ => rfl)))
  (pss_cons (ps_if (pt_cmpR op_eq (pe_op op_mod (pe_op op_fdiv (pv 2) pe_int) pe_int) pe_int (nomark _)) (pss_one (ps_set (i := 4) S.nd rfl (Or.inl rfl) (pe_op op_mod (pe_op op_fdiv (pv 2) pe_int) pe_int))) pss_nil)
  (pss_cons (ps_for PassesOwn.never rfl (pi_range1 rfl T.range (pa_cons (pv 4) pa_nil)) (pg_name (i := 5) S.nd rfl (Or.inl rfl))
  (pss_cons (ps_set (i := 6) S.nd rfl (Or.inl rfl) (pe_c C__law_cell_at hr (by decide) rfl (pa_cons (pv 0) (pa_cons (pe_op op_add pe_int (pv 5)) pa_nil))))
  (pss_cons (ps_set (i := 7) S.nd rfl (Or.inl rfl) (pe_ix ix_list (pe_lst (pa_cons pe_int (pa_cons pe_int (pa_cons pe_int (pa_cons pe_int (pa_cons pe_int (pa_cons pe_int (pa_cons pe_int (pa_cons pe_int pa_nil))))))))) (pe_op op_mod (pv 6) pe_int) (fun _ _ => rfl)))
  (pss_one (ps_set (i := 3) S.nd rfl (Or.inl rfl) (pe_op op_add_str (pe_op op_add_str (pe_op op_add_str (pv 3) pe_str) (pe_op op_repS pe_str (pe_callTy call_int1 (by rfl) T.int (by decide +kernel) (pa_cons (pe_cmpR op_eq (pe_op op_mod (pe_op op_fdiv (pv 6) pe_int) pe_int) pe_int (nomark _)) pa_nil)))) (pe_callTy call_str_int (by rfl) T.str (by decide +kernel) (pa_cons (pe_op op_mod (pe_c C__law_mixed hr (by decide) rfl (pa_cons (pv 6) pa_nil)) (pv 7)) pa_nil))))))))
  (pss_one (ps_ret (pv 3))))))))), ?_⟩
    refine ⟨sz_ok rfl, fun p1 np1 => ?_⟩
    generalize e1 : upd H p1 _ = H1
    have h1 : H1 p1 = some (.lst (namesL.map V.str)) := e1 ▸ upd_same
    have s1 : Same H H1 := e1 ▸ Same.new np1
    refine ⟨_, rfl, a, ns, 0, rfl, s1.seq hS, by decide, ?_⟩
    generalize cellAt ns 0 = c
    refine ⟨_, rfl, _, rfl, _, _, rfl, rfl, (by show (0 : Int) < 12; decide), p1, _, _, _, rfl, rfl, SqL.of h1, at_strs_mod (ns := namesL) c (by decide) rfl, ?_⟩
    have hl0 : (namesL.getD (c % 12).toNat Str.empty).length ≤ 5 := by
      have : ∀ i, i < 12 → (namesL.getD i Str.empty).length ≤ 5 := by decide +kernel
      exact this _ (by omega)
    generalize namesL.getD (c % 12).toNat Str.empty = z0 at hl0
    refine ⟨sz_ok rfl, fun p2 np2 => ?_⟩
    generalize e2 : upd H1 p2 _ = H2
    have h2 : H2 p2 = some (.lst (manys12.map V.int)) := e2 ▸ upd_same
    have s2 : Same H H2 := s1.trans (e2 ▸ Same.new np2)
    refine ⟨_, rfl, _, _, rfl, rfl, (by show (0 : Int) < 12; decide), p2, _, _, _, rfl, rfl, SqL.of h2, at_ints_mod (ns := manys12) c (by decide) rfl, ?_⟩
    have hm0 : 0 ≤ manys12.getD (c % 12).toNat 0 ∧ manys12.getD (c % 12).toNat 0 ≤ 4 := by
      have : ∀ i, i < 12 → 0 ≤ manys12.getD i 0 ∧ manys12.getD i 0 ≤ 4 := by decide +kernel
      exact this _ (by omega)
    generalize manys12.getD (c % 12).toNat 0 = m at hm0
    refine ⟨_, rfl, _, _, rfl, rfl, ⟨by decide, by decide⟩, _, _, rfl, rfl, (by show (0 : Int) < 5; decide), rfl, ?_⟩
    have hm1 : 0 ≤ c / 60 % 5 ∧ c / 60 % 5 ≤ 4 := by omega
    by_cases hc : c / 12 % 5 = 1
    all_goals first
      | refine ⟨true, bl_of (decide_eq_true (congrArg V.int hc)), _, rfl, _, _, rfl, rfl, ⟨by decide, by decide⟩, _, _, rfl, rfl, (by show (0 : Int) < 5; decide), ?_⟩
      | refine ⟨false, bl_of (decide_eq_false fun z => hc (V.int.inj z)), ?_⟩
    all_goals
      refine ⟨_, rfl, _, rfl, by omega, by omega, for_range (fun k σ H' => (∃ vk v6 v7, ∃ (vm : Int) (z : Str), σ = [some (.ref a), some (.ref p1), some (.int c), some (.str z), some (.int vm), vk, v6, v7] ∧ z.length ≤ 5 + 10 * k) ∧ Same H H') ⟨⟨none, none, none, _, z0, rfl, by omega⟩, s2⟩ (fun k σ H' hk ⟨⟨vk, v6, v7, vm, z, eσ, hz⟩, s3⟩ => ?_) (fun σ H' ⟨⟨vk, v6, v7, vm, z, eσ, hz⟩, s3⟩ => ?_)⟩
      · subst eσ
        refine ⟨_, rfl, _, rfl, _, _, rfl, rfl, a, ns, _, rfl, s3.seq hS, by omega, ?_⟩
        generalize cellAt ns (1 + (0 + (k : Int))) = d
        refine ⟨sz_ok rfl, fun p4 np4 => ?_⟩
        generalize e4 : upd H' p4 _ = H4
        have h4 : H4 p4 = some (.lst (belows.map V.int)) := e4 ▸ upd_same
        have s4 : Same H H4 := s3.trans (e4 ▸ Same.new np4)
        refine ⟨_, rfl, _, _, rfl, rfl, (by show (0 : Int) < 8; decide), p4, _, _, _, rfl, rfl, SqL.of h4, at_ints_mod (ns := belows) d (by decide) rfl, ?_⟩
        have hb : 0 < belows.getD (d % 8).toNat 0 ∧ belows.getD (d % 8).toNat 0 ≤ 100000000 := by
          have : ∀ i, i < 8 → 0 < belows.getD i 0 ∧ belows.getD i 0 ≤ 100000000 := by decide +kernel
          exact this _ (by omega)
        generalize belows.getD (d % 8).toNat 0 = b at hb
        have hz2 : (z ++ (" " : Str)).length = z.length + 1 := app_len _ _
        have hk4 : k ≤ 4 := by omega
        refine ⟨_, rfl, z, " ", rfl, rfl, by rw [show (" " : Str).length = 1 from rfl]; exact Nat.le_trans (by omega : _ ≤ 1000) (by decide), ?_⟩
        refine ⟨_, rfl, _, _, rfl, rfl, ⟨by decide, by decide⟩, _, _, rfl, rfl, (by show (0 : Int) < 6; decide), rfl, .inr ⟨decide (V.int (d / 8 % 6) = V.int 3), rfl, "0", _, rfl, rfl, (mul01 _).1, ?_⟩⟩
        have hmul := (mul01 (decide (V.int (d / 8 % 6) = V.int 3))).2
        generalize Txt.mul "0" (if decide (V.int (d / 8 % 6) = V.int 3) = true then 1 else 0) = zm at hmul
        have hz3 := app_len (z ++ (" " : Str)) zm
        refine ⟨_, _, rfl, rfl, Nat.le_trans (by omega : _ ≤ 1000) (by decide), ?_⟩
        have hx1 : 0 ≤ mixed d % b := Int.emod_nonneg _ (by omega)
        have hx2 : mixed d % b < 100000000 := Int.lt_of_lt_of_le (Int.emod_lt_of_pos _ hb.1) hb.2
        refine ⟨_, rfl, d, rfl, _, rfl, _, _, rfl, rfl, hb.1, _, rfl, log_small8 hx1 hx2, ?_⟩
        have hl8 : (Str.ofString (toString (mixed d % b))).length ≤ 8 := txt_len8 hx1 hx2
        refine ⟨_, _, rfl, rfl, Nat.le_trans (by omega : _ ≤ 1000) (by decide), ⟨_, _, _, vm, _, rfl, ?_⟩, s4⟩
        rw [app_len, hz3, hz2]
        omega
      · subst eσ
        exact ⟨_, rfl, q z H' (by omega) s3⟩

def spSignBy : Sp := fun vs H Q _ => ∃ c : Int, vs = [.int c] ∧ someTxt 1 H Q
abbrev s__law_sign_by : Stmt := top 19
abbrev N__law_sign_by : List Str := ["_law_cell", "_law_some"]
theorem S__law_sign_by : FnScope N__law_sign_by ["_law_cell"] (defScope s__law_sign_by) := ⟨rfl, rfl, rfl, by decide +kernel, rfl, by decide +kernel, by decide +kernel⟩

theorem c_sign_by (T : Txt K w mg) (D : DefAt K "_law_sign_by" s__law_sign_by) : Cal P w K mg base CX0 1 "_law_sign_by" spSignBy := by
  have S := S__law_sign_by
  refine cal_of T.toTop D S (fun _ _ _ _ _ _ us hl => match us, hl with | [_], _ => rfl) (fun vs H Q E h => ?_) (fun f cdv A outer s H vs Q E hr h => ?_)
  · obtain ⟨a, rfl, _⟩ := h
    rfl
  · obtain ⟨c, rfl, q⟩ := h
    refine ⟨_, (pss_cons (ps_set (i := 1) S.nd rfl (Or.inl rfl) pe_str)
  (pss_cons (ps_set (i := 1) S.nd rfl (Or.inl rfl) (pe_op op_add_str (pv 1) pe_str))
  (pss_one (ps_ret (pe_ix ix_str (pv 1) (pe_op op_mod (pv 0) pe_int) (fun _ _ => rfl)))))), ?_⟩
    refine ⟨_, rfl, _, _, rfl, rfl, by decide +kernel, ?_⟩
    refine ⟨_, rfl, _, rfl, _, _, rfl, rfl, (by show (0 : Int) < 97; decide), _, _, _, rfl, rfl, by decide +kernel, at_getD (d := 0) (mod_nn c (by decide)) ?_, q _ _ (Nat.le_refl 1) (Same.refl H)⟩
    exact Int.lt_of_lt_of_le (mod_lt c (by decide)) (by decide +kernel)
def oddsL : List Str := ["", " ", "tell", "tell ", "tell  1", " tell 1", "tell 1 ", "TELL 1", "tell +1"]
def oddsM : List Str := ["tell 1_0", "tell 1\t", "tell -0", "tell 1\n"]
def spOddLine : Sp := fun vs H Q _ => ∃ c : Int, vs = [.int c] ∧ someTxt 10 H Q
abbrev s__law_odd_line : Stmt := top 20
abbrev N__law_odd_line : List Str := ["_law_cell", "_law_some"]
theorem S__law_odd_line : FnScope N__law_odd_line ["_law_cell"] (defScope s__law_odd_line) := ⟨rfl, rfl, rfl, by decide +kernel, rfl, by decide +kernel, by decide +kernel⟩

theorem c_odd_line (T : Txt K w mg) (D : DefAt K "_law_odd_line" s__law_odd_line) : Cal P w K mg base CX0 1 "_law_odd_line" spOddLine := by
  have S := S__law_odd_line
  refine cal_of T.toTop D S (fun _ _ _ _ _ _ us hl => match us, hl with | [_], _ => rfl) (fun vs H Q E h => ?_) (fun f cdv A outer s H vs Q E hr h => ?_)
  · obtain ⟨a, rfl, _⟩ := h
    rfl
  · obtain ⟨c, rfl, q⟩ := h
    refine ⟨_, (pss_cons (ps_set (i := 1) S.nd rfl (Or.inl rfl) (pe_lst (pa_cons pe_str (pa_cons pe_str (pa_cons pe_str (pa_cons pe_str (pa_cons pe_str (pa_cons pe_str (pa_cons pe_str (pa_cons pe_str (pa_cons pe_str pa_nil)))))))))))
  (pss_cons (ps_set (i := 1) S.nd rfl (Or.inl rfl) (pe_op op_cat (pv 1) (pe_lst (pa_cons pe_str (pa_cons pe_str (pa_cons pe_str (pa_cons pe_str pa_nil)))))))
  (pss_one (ps_ret (pe_ix ix_list (pv 1) (pe_op op_mod (pv 0) pe_int) (fun _ _ => rfl)))))), ?_⟩
    refine ⟨sz_ok rfl, fun p1 np1 => ?_⟩
    generalize e1 : upd H p1 _ = H1
    have h1 : H1 p1 = some (.lst (oddsL.map V.str)) := e1 ▸ upd_same
    have s1 : Same H H1 := e1 ▸ Same.new np1
    refine ⟨_, rfl, sz_ok rfl, fun p2 np2 => ?_⟩
    generalize e2 : upd H1 p2 _ = H2
    have h2 : H2 p2 = some (.lst (oddsM.map V.str)) := e2 ▸ upd_same
    have t2 : Same H1 H2 := e2 ▸ Same.new np2
    refine ⟨p1, p2, _, _, rfl, rfl, t2 _ _ h1, h2, sz_ok rfl, fun p3 np3 => ?_⟩
    have h3 : upd H2 p3 (.lst (oddsL.map V.str ++ oddsM.map V.str)) p3 = some (.lst ((oddsL ++ oddsM).map V.str)) := upd_same
    refine ⟨_, rfl, _, rfl, _, _, rfl, rfl, (by show (0 : Int) < 13; decide), p3, _, _, _, rfl, rfl, SqL.of h3, at_strs_mod (ns := oddsL ++ oddsM) c (by decide) rfl, q _ _ ?_ ((s1.trans t2).more np3)⟩
    have : ∀ i, i < 13 → ((oddsL ++ oddsM).getD i Str.empty).length ≤ 10 := by decide +kernel
    exact this _ (by omega)

abbrev s_law : Stmt := top 22
abbrev N_law : List Str := ["_law_script", "_law_line", "_law_how", "_law_at", "_law_due", "_law_found", "_law_said", "_law_e", "_law_number"]
theorem S_law : FnScope N_law ["_law_script"] (defScope s_law) := ⟨rfl, rfl, rfl, by decide +kernel, rfl, by decide +kernel, by decide +kernel⟩

theorem ok_law {C0 cL : Addr} {cs : List Addr} (T : Txt K w mg) (D : DefAt K "law" s_law) (X_BadRow : ExcT K mg "BadRow" C0) (eP : PySem.W.exmOne K (.ref C0) (.ref C0) = some true) (hAl : AloneAt K cs cL C0 0)
    (c_cell : ∀ base, Cal P w K mg base CX0 1 "_law_cell_at" (spCellAt K)) (c_line : ∀ base, Cal P w K mg base CX0 2 "_law_line_by" (spLineBy K)) (c_sign : ∀ base, Cal P w K mg base CX0 1 "_law_sign_by" spSignBy) (c_odd : ∀ base, Cal P w K mg base CX0 1 "_law_odd_line" spOddLine)
    (c_due : ∀ base, Cal P w K mg base CX0 2 "_law_due_of" spDueOf) (c_whole : ∀ base, Cal P w K mg base CX0 1 "_law_whole" (spWhole K)) (c_al : ∀ base, CalS P w K mg base 1 "_law_alone" (spAlone K cs cL)) (c_read : ∀ base, Cal P w K mg base (L2.CX P w) 2 "read_row" (spReadRow C0)) : LawOk P w K mg 4 := by
  have S := S_law
  refine law_of T.toTop D S (fun _ _ _ _ _ _ _ => rfl) (fun base f cdv A outer s H a ns Q E hr hS hlen q => ?_)
  have C__law_cell_at := c_cell base
  have C__law_line_by := c_line base
  have C__law_sign_by := c_sign base
  have C__law_odd_line := c_odd base
  have C__law_due_of := c_due base
  have C__law_whole := c_whole base
  have C__law_alone := c_al base
  have C_read_row := c_read base
  have hu64 := hu64_of hr
  refine ⟨_, (pss_cons (ps_set (i := 1) S.nd rfl (Or.inl rfl) (pe_c C__law_line_by hr (by decide) rfl (pa_cons (pv 0) pa_nil)))
  (pss_cons (ps_set (i := 2) S.nd rfl (Or.inl rfl) (pe_c C__law_cell_at hr (by decide) rfl (pa_cons (pv 0) (pa_cons pe_int pa_nil))))
  (pss_cons (ps_set (i := 3) S.nd rfl (Or.inl rfl) (pe_op op_mod (pe_op op_fdiv (pv 2) pe_int) (pe_op op_add (pe_callB call_len_str (by rfl) T.len PySem.boot_len (pa_cons (pv 1) pa_nil)) pe_int)))
  (pss_cons (ps_if (pt_cmpR op_lt (pe_op op_mod (pv 2) pe_int) pe_int (nomark _)) (pss_one (ps_set (i := 1) S.nd rfl (Or.inl rfl) (pe_op op_add_str (pe_op op_add_str (pe_slice sl_str (pv 1) po_none (po_some (pv 3))) (pe_c C__law_sign_by hr (by decide) rfl (pa_cons (pe_c C__law_cell_at hr (by decide) rfl (pa_cons (pv 0) (pa_cons pe_int pa_nil))) pa_nil))) (pe_slice sl_str (pv 1) (po_some (pv 3)) po_none)))) (pss_one (ps_if (pt_cmpR op_eq (pe_op op_mod (pv 2) pe_int) pe_int (nomark _)) (pss_one (ps_set (i := 1) S.nd rfl (Or.inl rfl) (pe_op op_add_str (pe_slice sl_str (pv 1) po_none (po_some (pv 3))) (pe_slice sl_str (pv 1) (po_some (pe_op op_add (pv 3) pe_int)) po_none)))) pss_nil)))
  (pss_cons (ps_if (pt_cmpR op_eq (pe_op op_mod (pv 2) pe_int) pe_int (nomark _)) (pss_one (ps_set (i := 1) S.nd rfl (Or.inl rfl) (pe_c C__law_odd_line hr (by decide) rfl (pa_cons (pe_op op_fdiv (pv 2) pe_int) pa_nil)))) pss_nil)
  (pss_cut (D := { nx := fun _ H' => Q .non H', rt := Q }) (P := fun σ H' => ∃ (z : Str) (vh va : Option V), σ = [some (.ref a), some (.str z), vh, va, none, none, none, none, none] ∧ z.length ≤ 300 ∧ Same H H') ?tail)))))), ?_⟩
  case tail =>
    refine ⟨_, (pss_cons (ps_set (i := 4) S.nd rfl (Or.inl rfl) (pe_c C__law_due_of hr (by decide) rfl (pa_cons (pv 1) pa_nil)))
  (pss_cons (ps_set (i := 5) S.nd rfl (Or.inl rfl) pe_non)
  (pss_cons (ps_set (i := 6) S.nd rfl (Or.inl rfl) pe_str)
  (pss_cons (ps_try_as (i := 7) rfl rfl S.nd rfl rfl ⟨rfl, by decide, .inl X_BadRow.g⟩ takes0 (fun W pn xe tk _ => (pss_one (ps_set (i := 5) S.nd rfl (Or.inl rfl) (pe_cx C_read_row tk hr (by decide) rfl (pa_cons (pv 1) pa_nil))))) (fun a oe cls d pn hz hf => (pss_cons (ps_set (i := 6) S.nd rfl (Or.inl rfl) pe_str)
  (pss_one (ps_if (pt_not (pt_val (pe_su C__law_alone hz hf hr (by decide) rfl (pa_cons (pv 7) (pa_cons pe_int pa_nil))))) (pss_one (ps_ret pe_bl)) pss_nil)))))
  (pss_cons (ps_if (pt_cmpR op_isN (pv 4) pe_non (nomark _)) (pss_one (ps_ret (pe_cmpR op_eq (pv 6) pe_str (nomark _)))) pss_nil)
  (pss_cons (ps_if (PW.pt (pw_or (pt_cmpR op_ne (pv 6) pe_str (nomark _)) (pw_or (pt_not (pt_val (pe_callB call_isi (by rfl) T.isinstance (by decide +kernel) (pa_cons (pv 5) (pa_cons ((pe_bltn (v := .ty "tuple") (u := .type "tuple") rfl T.tuple (by decide +kernel) rfl)) pa_nil))))) (pw_or (pt_cmpR op_ne (pe_callB call_len_seq (by rfl) T.len PySem.boot_len (pa_cons (pv 5) pa_nil)) (pe_callB call_len_seq (by rfl) T.len PySem.boot_len (pa_cons (pv 4) pa_nil)) (nomark _)) (pw_or1 (pt_not (pt_val (pe_callB call_isi (by rfl) T.isinstance (by decide +kernel) (pa_cons (pe_ix ix_tup (pv 5) pe_int (fun _ _ => rfl)) (pa_cons ((pe_bltn (v := .ty "str") (u := .type "str") rfl T.str (by decide +kernel) rfl)) pa_nil)))))))))) (pss_one (ps_ret pe_bl)) pss_nil)
  (pss_one (ps_ret (pe_and (pe_cmpR (op_eqD hu64) (pv 5) (pv 4) (nomark _)) (pe_one (pe_cmpR (op_eqD hu64) (pe_lc (own := [("_law_number", 8)]) (g := gName 8)  rfl S.nd (pi_tup (pe_slice sl_tupA (pv 5) (po_some pe_int) po_none)) (blkOk_by (own := [("_law_number", 8)]) (N := N_law) (sc := defScope s_law) (by decide +kernel)) (fun _ _ _ _ _ => pg_name (i := 8) S.nd rfl (Or.inl rfl)) (fun _ _ _ _ _ => pts_one (pt_not (pt_val (pe_c C__law_whole hr (by decide) rfl (pa_cons (pv 8) pa_nil))))) (fun _ _ _ _ _ => (pv 8))) (pe_lst pa_nil) (nomark _)))))))))))), fun σ H1 h => ?_⟩
    obtain ⟨z, vh, va, rfl, hz, s1⟩ := h
    cases ep : parseRow z with
    | none =>
      refine ⟨_, rfl, z, rfl, Nat.le_trans hz (by decide), fun wd zs e => (by rw [ep] at e; cases e), fun _ H2 s2 => ?_⟩
      refine ⟨_, rfl, z, rfl, Nat.le_trans hz (by decide), fun wd zs e => (by rw [ep] at e; cases e), fun _ H3 s3 => ?_⟩
      refine ⟨true, eP, fun _ px npx => ?_, fun q => nomatch q⟩
      refine ⟨_, rfl, C0, rfl, rfl, 0, rfl, by decide, hAl, fun H4 s4 => ?_⟩
      refine ⟨_, rfl, ?_⟩
      refine ⟨_, rfl, rfl, _, rfl, _, rfl, ?_⟩
      exact ⟨rfl, q _⟩
    | some wz =>
      obtain ⟨wd, zs⟩ := wz
      have hz1 : z.length ≤ 1000 := Nat.le_trans hz (by decide)
      refine ⟨_, rfl, z, rfl, hz1, fun wd' zs' e => ?_, fun e => (by rw [ep] at e; cases e)⟩
      rw [ep] at e
      cases e
      intro H2 p2 s2 n2 h2
      refine ⟨_, rfl, z, rfl, hz1, fun wd' zs' e => ?_, fun e => (by rw [ep] at e; cases e)⟩
      rw [ep] at e
      cases e
      intro H3 p3 s3 n3 h3
      have h2' := s3 _ _ h2
      refine ⟨_, rfl, rfl, false, rfl, ?_⟩
      refine ⟨_, rfl, rfl, false, rfl, _, rfl, _, _, _, _, _, rfl, .ty _, .base (.tup h3), kit_ty (r := true) (by decide +kernel), _, rfl, ?_⟩
      refine ⟨_, rfl, p3, _, rfl, .inr (SqT.of h3), _, rfl, p2, _, rfl, .inr (SqT.of h2'), rfl, false, bl_of (by simp), ?_⟩
      refine ⟨_, rfl, p3, _, _, _, rfl, rfl, SqT.of h3, at_in (v := .str wd) (by decide) rfl, _, _, _, _, _, rfl, .ty _, .base (.str _), kit_ty (r := true) (by decide +kernel), _, rfl, ?_⟩
      have hfl : (V.str wd :: zs.map V.int).all flatV = true := by
        rw [List.all_cons, List.all_map]
        exact List.all_eq_true.mpr fun _ _ => rfl
      have hsh : SeqAt.shaped (.tuple ((V.str wd :: zs.map V.int).map dOf)) = true := shaped_tup (by
        show (PyData.strOk wd && PyData.canLayAll0 ((zs.map V.int).map dOf)) = true
        rw [lay_ints, Bool.and_true]
        exact parse_word ep)
      refine ⟨_, rfl, _, rfl, _, _, dp_tup (SqT.of h3) hfl, dp_tup (SqT.of h2') hfl, hsh, hsh, true, bl_of (eqv_same hsh), ?_⟩
      have hne : ¬ (HT.sIx (V.str wd :: zs.map V.int).length 0 (some 1) = 0 ∧ HT.sIx (V.str wd :: zs.map V.int).length (V.str wd :: zs.map V.int).length none = (V.str wd :: zs.map V.int).length) := fun h => by
        have e1 := HT.sIx_nat (V.str wd :: zs.map V.int).length 0 1
        rw [show ((1 : Nat) : Int) = 1 from rfl, h.1] at e1
        simp only [List.length_cons] at e1
        omega
      refine ⟨_, rfl, 1, rfl, p3, _, rfl, SqT.of h3, fun h => absurd h hne, fun _ p4 n4 => ?_⟩
      rw [cut_from1]
      have hzl : zs.length ≤ 3 := parse_len ep
      have h4 : upd H3 p4 (.tup (zs.map V.int)) p4 = some (.tup (zs.map V.int)) := upd_same
      refine ⟨p4, rfl, ⟨_, SqT.of h4⟩, fun p5 n5 => lc_ft (fun _ => none) n5 (SqT.of h4) (by rw [List.length_map]; exact small1000 (by omega)) (fun i x H' hi s5 k1 k0 k1' k0' => ?_) (fun H' s5 h5 => ?_)⟩
      · obtain ⟨n, _, rfl⟩ := List.mem_map.mp (List.mem_of_getElem? hi)
        exact ⟨rfl, _, rfl, _, "int", rfl, .base (.int _), by decide +kernel, by decide +kernel, _, rfl, k0' _ rfl (Same.refl _)⟩
      · rw [show (zs.map V.int).filterMap (fun _ => (none : Option V)) = [] by rw [List.filterMap_eq_nil_iff]; exact fun _ _ => rfl] at h5
        refine ⟨sz_ok rfl, fun p6 n6 => ?_⟩
        have h5' := Same.new (o := .lst []) n6 _ _ h5
        refine ⟨_, _, dp_lst (SqL.of h5') rfl, dp_lst (SqL.of upd_same) rfl, shaped_lst rfl, shaped_lst rfl, ?_⟩
        exact q _
  refine ⟨_, rfl, a, ns, rfl, hS, fun z H1 hz s1 => ?_⟩
  have hzs : z.length ≤ sizeLine := Nat.le_trans hz (by decide)
  have hcut : ∀ lo hi, (cutS z lo hi).length ≤ 100 := fun lo hi => Nat.le_trans (cutS_length z lo hi) hz
  refine ⟨_, rfl, a, ns, 5, rfl, s1.seq hS, by decide, ?_⟩
  refine ⟨_, rfl, _, _, rfl, rfl, (⟨by decide, by decide⟩ : CDiv _ 16), _, rfl, z, rfl, hzs, _, _, rfl, rfl, _, _, rfl, rfl, (by omega), ?_⟩
  have g2 : 100 + 1 ≤ sizeLine := by decide
  have g3 : 100 + 1 + 100 ≤ sizeLine := by decide
  have g4 : 100 + 100 ≤ sizeLine := by decide
  have g10 : 10 ≤ 300 := by decide
  have m4 : (0 : Int) < 4 := by decide
  have m16 : (0 : Int) < 16 := by decide
  by_cases c : cellAt ns 5 % 4 < 2
  · refine ⟨_, rfl, _, _, rfl, rfl, m4, _, _, rfl, rfl, true, bl_of (decide_eq_true c), ?_⟩
    refine ⟨_, rfl, _, rfl, _, rfl, z, rfl, hzs, _, rfl, a, ns, 6, rfl, s1.seq hS, by decide, _, rfl, fun y H2 hy hs => ?_⟩
    have hs := s1.trans hs
    refine ⟨_, _, rfl, rfl, Nat.le_trans (Nat.add_le_add (hcut _ _) hy) g2, _, rfl, _, rfl, _, rfl, z, rfl, hzs, _, _, rfl, rfl, ?_, ?_⟩
    · rw [app_len]
      exact Nat.le_trans (Nat.add_le_add (Nat.add_le_add (hcut _ _) hy) (hcut _ _)) g3
    have hl : (cutS z none (some (cellAt ns 5 / 16 % ((z.length : Int) + 1))) ++ y ++ cutS z (some (cellAt ns 5 / 16 % ((z.length : Int) + 1))) none).length ≤ 300 := by
      rw [app_len, app_len]
      exact Nat.le_trans (Nat.add_le_add (Nat.add_le_add (hcut _ _) hy) (hcut _ _)) (by decide)
    by_cases c2 : cellAt ns 5 % 16 = 15
    · refine ⟨_, rfl, _, _, rfl, rfl, m16, rfl, true, bl_of (decide_eq_true (congrArg V.int c2)), ?_⟩
      exact ⟨_, rfl, _, _, rfl, rfl, (⟨by decide, by decide⟩ : CDiv _ 16), _, rfl, fun w H3 hw s3 => ⟨rfl, w, _, _, rfl, Nat.le_trans hw g10, hs.trans s3⟩⟩
    · refine ⟨_, rfl, _, _, rfl, rfl, m16, rfl, false, bl_of (decide_eq_false fun e => c2 (V.int.inj e)), ?_⟩
      exact ⟨rfl, _, _, _, rfl, hl, hs⟩
  · refine ⟨_, rfl, _, _, rfl, rfl, m4, _, _, rfl, rfl, false, bl_of (decide_eq_false c), ?_⟩
    have hs := s1
    by_cases c1 : cellAt ns 5 % 4 = 2
    · refine ⟨_, rfl, _, _, rfl, rfl, m4, rfl, true, bl_of (decide_eq_true (congrArg V.int c1)), ?_⟩
      refine ⟨_, rfl, _, rfl, _, rfl, z, rfl, hzs, _, rfl, _, rfl, _, _, rfl, rfl, _, rfl, z, rfl, hzs, _, _, rfl, rfl, Nat.le_trans (Nat.add_le_add (hcut _ _) (hcut _ _)) g4, ?_⟩
      have hl : (cutS z none (some (cellAt ns 5 / 16 % ((z.length : Int) + 1))) ++ cutS z (some (cellAt ns 5 / 16 % ((z.length : Int) + 1) + 1)) none).length ≤ 300 := by
        rw [app_len]
        exact Nat.le_trans (Nat.add_le_add (hcut _ _) (hcut _ _)) (by decide)
      by_cases c2 : cellAt ns 5 % 16 = 15
      · refine ⟨_, rfl, _, _, rfl, rfl, m16, rfl, true, bl_of (decide_eq_true (congrArg V.int c2)), ?_⟩
        exact ⟨_, rfl, _, _, rfl, rfl, (⟨by decide, by decide⟩ : CDiv _ 16), _, rfl, fun w H3 hw s3 => ⟨rfl, w, _, _, rfl, Nat.le_trans hw g10, hs.trans s3⟩⟩
      · refine ⟨_, rfl, _, _, rfl, rfl, m16, rfl, false, bl_of (decide_eq_false fun e => c2 (V.int.inj e)), ?_⟩
        exact ⟨rfl, _, _, _, rfl, hl, hs⟩
    · refine ⟨_, rfl, _, _, rfl, rfl, m4, rfl, false, bl_of (decide_eq_false fun e => c1 (V.int.inj e)), ?_⟩
      have hl : z.length ≤ 300 := Nat.le_trans hz (by decide)
      by_cases c2 : cellAt ns 5 % 16 = 15
      · refine ⟨_, rfl, _, _, rfl, rfl, m16, rfl, true, bl_of (decide_eq_true (congrArg V.int c2)), ?_⟩
        exact ⟨_, rfl, _, _, rfl, rfl, (⟨by decide, by decide⟩ : CDiv _ 16), _, rfl, fun w H3 hw s3 => ⟨rfl, w, _, _, rfl, Nat.le_trans hw g10, hs.trans s3⟩⟩
      · refine ⟨_, rfl, _, _, rfl, rfl, m16, rfl, false, bl_of (decide_eq_false fun e => c2 (V.int.inj e)), ?_⟩
        exact ⟨rfl, _, _, _, rfl, hl, hs⟩

theorem isStr_lit (x z : Str) (t : Tok) : (Value.str x t).isStr z = decide (z = x) := by
  have h : (Value.str x t).isStr z = (x == z) := rfl
  rw [h, Bool.eq_iff_iff, beq_iff_eq, decide_eq_true_eq]
  exact eq_comm
/-- a written dict of tuples of texts, entry by entry -/
def TabOk (K : PySem.W.Frag) : List DictEntry → List (Str × List Str) → Prop
  | [], [] => True
  | e :: es, (k, l) :: r => (∃ t a, e.key = .str k t ∧ e.val = .ref a ∧ ∀ H, SqT K H a (l.map V.str)) ∧ e.refKey = false ∧ TabOk K es r
  | _, _ => False
theorem sqt_mk {K : PySem.W.Frag} {a : Addr} {dd : Option Addr} {us : Array Value} {n : Nat} {sl : Array (Option Value)} {xs : List V} (h : K.lookup a = some ⟨.type "tuple", dd, .seq us n, sl⟩) (hz : Nat.ble us.size 1000 = true) (hv : Vals xs us.toList) : ∀ H, SqT K H a xs :=
  fun H => .inr ⟨_, us, n, h, rfl, rfl, sz_ok hz, hv⟩
theorem tab_get {K : PySem.W.Frag} : ∀ {es : List DictEntry} {r : List (Str × List Str)}, TabOk K es r → ∀ z, (r.lookup z = none ∧ es.find? (·.key.isStr z) = none) ∨ ∃ l e a, r.lookup z = some l ∧ es.find? (·.key.isStr z) = some e ∧ e.val = .ref a ∧ ∀ H, SqT K H a (l.map V.str)
  | [], [], _, z => .inl ⟨rfl, rfl⟩
  | e :: es, (k, l) :: r, h, z => by
    obtain ⟨⟨t, a, hk, hv, hs⟩, _, hr⟩ := h
    by_cases hz : z = k
    · subst hz
      refine .inr ⟨l, e, a, by rw [List.lookup_cons]; simp, ?_, hv, hs⟩
      have h1 : e.key.isStr z = true := by rw [hk, isStr_lit]; exact decide_eq_true rfl
      exact List.find?_cons_of_pos (p := fun (x : DictEntry) => x.key.isStr z) h1
    · have e1 : ((k, l) :: r).lookup z = r.lookup z := by
        rw [List.lookup_cons, show (z == k) = false from beq_eq_false_iff_ne.mpr hz]
      have e2 : (e :: es).find? (·.key.isStr z) = es.find? (·.key.isStr z) := by
        have h1 : ¬ e.key.isStr z = true := by rw [hk, isStr_lit]; simp [hz]
        exact List.find?_cons_of_neg (p := fun (x : DictEntry) => x.key.isStr z) h1
      rw [e1, e2]
      exact tab_get hr z
  | [], _ :: _, h, _ => h.elim
  | _ :: _, [], h, _ => h.elim
theorem tab_ref {K : PySem.W.Frag} : ∀ {es : List DictEntry} {r : List (Str × List Str)}, TabOk K es r → es.any (·.refKey) = false
  | [], [], _ => rfl
  | e :: es, (k, l) :: r, h => by
    obtain ⟨_, h2, hr⟩ := h
    rw [List.any_cons, h2, tab_ref hr]
    rfl
  | [], _ :: _, h => h.elim
  | _ :: _, [], h => h.elim
theorem glob_mk {K : PySem.W.Frag} {x : Str} {v : V} {u : Value} (h : PySem.W.nsIn K mainGlobals x = some (some u)) (r : RelV v u) : ∃ u, PySem.W.nsIn K mainGlobals x = some (some u) ∧ RelV v u := ⟨u, h, r⟩
/-- the table of the rows' words, by its nine entries -/
theorem shapes_mk {K : PySem.W.Frag} {w : World} {mg : Str → Option Value} {dS : Addr} {es : Array DictEntry} {n : Nat} (g : mg "SHAPES" = some (.ref dS)) (at_ : K.lookup dS = some ⟨.type "dict", none,   .dict es n, #[]⟩) (low : (dS == sysModules) = false)
    (lit : PySem.W.KeysLit w.params es.toList) (tab : TabOk K es.toList sTab) : Shapes K w mg dS := by
  have hr := tab_ref tab
  have ns1 : ∀ z e, es.toList.find? (·.key.isStr z) = some e → PySem.W.nsIn K dS z = some (some e.val) := fun z e h => by
    unfold PySem.W.nsIn
    rw [at_]
    simp only [h]
  have ns0 : ∀ z, es.toList.find? (·.key.isStr z) = none → PySem.W.nsIn K dS z = some none := fun z h => by
    unfold PySem.W.nsIn
    rw [at_]
    simp only [h, hr]
    rfl
  refine ⟨g, ⟨es, n, at_, lit, low⟩, fun z hz => ?_, fun z l hz => ?_⟩
  · rcases tab_get tab z with ⟨_, h⟩ | ⟨l, e, a, h, _⟩
    · exact ns0 z h
    · rw [show shapeOf z = some l from h] at hz; cases hz
  · rcases tab_get tab z with ⟨h, _⟩ | ⟨l', e, a, h, h2, h3, h4⟩
    · rw [show shapeOf z = none from h] at hz; cases hz
    · rw [show shapeOf z = some l' from h] at hz
      cases hz
      exact ⟨a, by rw [ns1 z e h2, h3], h4⟩

theorem alone5 {C0 C1 C2 C3 C4 cL D : Addr} {own : Nat} (ex : ExcC K D) (h0 : PySem.W.kitOne K (.ref D) (.ref C0) = some (decide (0 = own))) (h1 : PySem.W.kitOne K (.ref D) (.ref C1) = some (decide (1 = own)))
    (h2 : PySem.W.kitOne K (.ref D) (.ref C2) = some (decide (2 = own))) (h3 : PySem.W.kitOne K (.ref D) (.ref C3) = some (decide (3 = own))) (h4 : PySem.W.kitOne K (.ref D) (.ref C4) = some (decide (4 = own)))
    (hL : PySem.W.kitOne K (.ref D) (.ref cL) = some true) (hV : PySem.W.kitOne K (.ref D) (.type "ValueError") = some true) : AloneAt K [C0, C1, C2, C3, C4] cL D own := by
  refine ⟨ex, fun j c e => ?_, hL, hV⟩
  match j, e with
  | 0, e => cases e; exact h0
  | 1, e => cases e; exact h1
  | 2, e => cases e; exact h2
  | 3, e => cases e; exact h3
  | 4, e => cases e; exact h4
theorem excC_mk {D : Addr} (hg : PySem.W.findIn K (.ref D) "__getattribute__" = some (some (.builtin "BaseException.__getattribute__"))) (hk : PySem.W.findIn K (.ref D) "__getattr__" = some none)
    (hs : PySem.W.subIn K (.ref D) (.type "BaseException") = some true) (hd : PySem.W.hasDictIn K D = true) (ha : PySem.W.findIn K (.ref D) "__class__" = some (some (.builtin "object.__class__")))
    (hn : PySem.W.specialIn K (.builtin "object.__class__") "__get__" = some (some (.builtin "getset_descriptor.__get__"))) (ht : PySem.W.takesIn K (.builtin "object.__class__") = some true) (hm : PySem.W.mroIn K D (.type "object") = some true) : ExcC K D := ⟨hg, hk, hs, hd, ha, hn, ht, hm⟩
theorem k02_all {dS C0 C1 C2 C3 C4 cL : Addr} (T : Top K mg) (D1 : DefAt K "_law_cell_at" s__law_cell_at) (D2 : DefAt K "_law_mixed" s__law_mixed) (D3 : DefAt K "_law_whole" s__law_whole) (D4 : DefAt K "_law_alone" s__law_alone)
    (D5 : DefAt K "_is_number" s__is_number) (D7 : DefAt K "read_row" s_read_row) (D8 : DefAt K "law" s_law) (D9 : DefAt K "_law_number_of" s__law_number_of) (D10 : DefAt K "_law_due_of" s__law_due_of) (D11 : DefAt K "_law_line_by" s__law_line_by)
    (D12 : DefAt K "_law_sign_by" s__law_sign_by) (D13 : DefAt K "_law_odd_line" s__law_odd_line)
    (m1 : PySem.W.nsIn K mainGlobals "len" = some none) (m2 : PySem.W.nsIn K mainGlobals "range" = some none) (m3 : PySem.W.nsIn K mainGlobals "isinstance" = some none) (m4 : PySem.W.nsIn K mainGlobals "all" = some none)
    (m5 : PySem.W.nsIn K mainGlobals "int" = some none) (m6 : PySem.W.nsIn K mainGlobals "str" = some none) (m7 : PySem.W.nsIn K mainGlobals "bool" = some none) (m8 : PySem.W.nsIn K mainGlobals "tuple" = some none) (m9 : PySem.W.nsIn K mainGlobals "ValueError" = some none)
    (gF : ∃ u, PySem.W.nsIn K mainGlobals "FIGURES" = some (some u) ∧ RelV (.int 6) u) (Z : (mg "SHAPES" = some (.ref dS)) → Shapes K w mg dS) (gS : PySem.W.nsIn K mainGlobals "SHAPES" = some (some (.ref dS)))
    (gB : PySem.W.nsIn K mainGlobals "BadRow" = some (some (.ref C0))) (gB1 : PySem.W.nsIn K mainGlobals "BadBoxes" = some (some (.ref C1))) (gB2 : PySem.W.nsIn K mainGlobals "BadShape" = some (some (.ref C2))) (gB3 : PySem.W.nsIn K mainGlobals "NoBox" = some (some (.ref C3))) (gB4 : PySem.W.nsIn K mainGlobals "BadPlan" = some (some (.ref C4))) (gL : PySem.W.nsIn K mainGlobals "LineError" = some (some (.ref cL)))
    (xB : PySem.W.excIn K C0 [.type "ValueError", .type "Exception", .type "BaseException", .type "object"] "ValueError.__new__" = true) (kB : PySem.W.keepIn K (.ref C0) = true)
    (bB : PySem.W.subIn K (.ref C0) (.type "BaseException") = some true) (tB : PySem.W.typeIn K (.ref C0) = some (.type "type")) (sB : PySem.W.subIn K (.ref C0) (.ref C0) = some true)
    (ex : ExcC K C0) (h0 : PySem.W.kitOne K (.ref C0) (.ref C0) = some true) (h1 : PySem.W.kitOne K (.ref C0) (.ref C1) = some false) (h2 : PySem.W.kitOne K (.ref C0) (.ref C2) = some false) (h3 : PySem.W.kitOne K (.ref C0) (.ref C3) = some false) (h4 : PySem.W.kitOne K (.ref C0) (.ref C4) = some false)
    (hL : PySem.W.kitOne K (.ref C0) (.ref cL) = some true) (hV : PySem.W.kitOne K (.ref C0) (.type "ValueError") = some true) : LawOk P w K mg 4 := by
  have X : Txt K w mg := ⟨T, T.none m1, T.none m2, T.none m3, T.none m4, T.none m5, T.none m6, T.none m7, T.none m8⟩
  obtain ⟨_, gF, tF, rfl⟩ := gF
  have hA : AloneAt K [C0, C1, C2, C3, C4] cL C0 0 := alone5 ex h0 h1 h2 h3 h4 hL hV
  have c1 := fun base => c_cell_at (P := P) (base := base) X D1
  have c2 := fun base => c_mixed (P := P) (base := base) X D2
  have c3 := fun base => c_whole (P := P) (base := base) X D3
  have c4 := fun base => c_alone (P := P) (base := base) (cs := [C0, C1, C2, C3, C4]) rfl X D4 (T.of gB) (T.of gB1) (T.of gB2) (T.of gB3) (T.of gB4) (T.of gL) (T.none m9)
  have c5 := fun base => c_is_number (P := P) (base := base) X D5 ⟨tF, T.of gF⟩
  have c7 := fun base => c_read_row (P := P) (base := base) X (Z (T.of gS)) ⟨T.of gB, xB, kB, bB, tB⟩ ⟨tF, T.of gF⟩ D7 (c5 base)
  have c9 := fun base => c_number_of (P := P) (base := base) X D9
  have c10 := fun base => c_due_of (P := P) (base := base) X D10 (c9 base)
  have c11 := fun base => c_line_by (P := P) (base := base) X D11 (c1 base) (c2 base)
  have c12 := fun base => c_sign_by (P := P) (base := base) X D12
  have c13 := fun base => c_odd_line (P := P) (base := base) X D13
  exact ok_law X D8 ⟨T.of gB, xB, kB, bB, tB⟩ (PySem.W.exm_ref bB ex.hd tB sB) hA c1 c11 c12 c13 c10 c3 c4 c7

end
end Nl
open PySem PySem.W PyProof.Rows in
set_option maxRecDepth 100000 in
set_option maxHeartbeats 0 in
theorem PySem.Challenge.cw_nearlines_k02_lines_read_holds : PySem.Challenge.rw_nearlines_k02_lines_read.Holds := by
  w_on; o_law; k_head; (case hw => w_witness2)
  k_fill
  refine Nl.walk_end (l := PySem.Challenge.rw_nearlines_k02_lines_read) 4 rfl rfl ⟨rfl, by decide, by decide⟩ rfl (fun w h Y => PySem.W.kIn_of Y) fun w mg T => ?F
  case F =>
    refine' Nl.k02_all T ?D1 ?D2 ?D3 ?D4 ?D5 ?D7 ?D8 ?D9 ?D10 ?D11 ?D12 ?D13 ?m1 ?m2 ?m3 ?m4 ?m5 ?m6 ?m7 ?m8 ?m9 ?gF ?Z ?gS ?gB ?gB1 ?gB2 ?gB3 ?gB4 ?gL ?xB ?kB ?bB ?tB ?sB ?ex ?h0 ?h1 ?h2 ?h3 ?h4 ?hL ?hV
    (case D1 => (refine' Nl.def_mk ?a ?l ?c ?k; (case a => k_is); (case l => k_is); (case c => k_is); (case k => k_is)))
    (case D2 => (refine' Nl.def_mk ?a ?l ?c ?k; (case a => k_is); (case l => k_is); (case c => k_is); (case k => k_is)))
    (case D3 => (refine' Nl.def_mk ?a ?l ?c ?k; (case a => k_is); (case l => k_is); (case c => k_is); (case k => k_is)))
    (case D4 => (refine' Nl.def_mk ?a ?l ?c ?k; (case a => k_is); (case l => k_is); (case c => k_is); (case k => k_is)))
    (case D5 => (refine' Nl.def_mk ?a ?l ?c ?k; (case a => k_is); (case l => k_is); (case c => k_is); (case k => k_is)))
    (case D7 => (refine' Nl.def_mk ?a ?l ?c ?k; (case a => k_is); (case l => k_is); (case c => k_is); (case k => k_is)))
    (case D8 => (refine' Nl.def_mk ?a ?l ?c ?k; (case a => k_is); (case l => k_is); (case c => k_is); (case k => k_is)))
    (case D9 => (refine' Nl.def_mk ?a ?l ?c ?k; (case a => k_is); (case l => k_is); (case c => k_is); (case k => k_is)))
    (case D10 => (refine' Nl.def_mk ?a ?l ?c ?k; (case a => k_is); (case l => k_is); (case c => k_is); (case k => k_is)))
    (case D11 => (refine' Nl.def_mk ?a ?l ?c ?k; (case a => k_is); (case l => k_is); (case c => k_is); (case k => k_is)))
    (case D12 => (refine' Nl.def_mk ?a ?l ?c ?k; (case a => k_is); (case l => k_is); (case c => k_is); (case k => k_is)))
    (case D13 => (refine' Nl.def_mk ?a ?l ?c ?k; (case a => k_is); (case l => k_is); (case c => k_is); (case k => k_is)))
    (case m1 => k_is)
    (case m2 => k_is)
    (case m3 => k_is)
    (case m4 => k_is)
    (case m5 => k_is)
    (case m6 => k_is)
    (case m7 => k_is)
    (case m8 => k_is)
    (case m9 => k_is)
    (case gF => (refine' Nl.glob_mk ?h ?r; (case h => k_is); (case r => exact ⟨_, rfl⟩)))
    (case gB => k_is)
    (case gB1 => k_is)
    (case gB2 => k_is)
    (case gB3 => k_is)
    (case gB4 => k_is)
    (case gL => k_is)
    (case xB => k_exc)
    (case kB => k_is)
    (case bB => k_is)
    (case tB => k_is)
    (case sB => k_is)
    (case ex => (refine' Nl.excC_mk ?hg ?hk ?hs ?hd ?ha ?hn ?ht ?hm; (case hg => k_is); (case hk => k_is); (case hs => k_is); (case hd => k_is); (case ha => k_is); (case hn => k_is); (case ht => k_is); (case hm => k_is)))
    (case h0 => kit_is)
    (case h1 => kit_is)
    (case h2 => kit_is)
    (case h3 => kit_is)
    (case h4 => kit_is)
    (case hL => kit_is)
    (case hV => kit_is)
    (case gS => k_is)
    case Z =>
      intro g
      refine' Nl.shapes_mk g ?at_ ?low ?lit ?tab
      (case at_ => k_is)
      (case low => rfl)
      (case lit => exact ⟨⟨_, _, rfl, rfl⟩, ⟨_, _, rfl, rfl⟩, ⟨_, _, rfl, rfl⟩, ⟨_, _, rfl, rfl⟩, ⟨_, _, rfl, rfl⟩, ⟨_, _, rfl, rfl⟩, ⟨_, _, rfl, rfl⟩, ⟨_, _, rfl, rfl⟩, ⟨_, _, rfl, rfl⟩, trivial⟩)
      case tab =>
        refine' ⟨⟨_, _, rfl, rfl, ?s0⟩, rfl, ⟨_, _, rfl, rfl, ?s1⟩, rfl, ⟨_, _, rfl, rfl, ?s2⟩, rfl, ⟨_, _, rfl, rfl, ?s3⟩, rfl, ⟨_, _, rfl, rfl, ?s4⟩, rfl, ⟨_, _, rfl, rfl, ?s5⟩, rfl, ⟨_, _, rfl, rfl, ?s6⟩, rfl, ⟨_, _, rfl, rfl, ?s7⟩, rfl, ⟨_, _, rfl, rfl, ?s8⟩, rfl, trivial⟩
        (case s0 => (refine' Nl.sqt_mk ?h ?z ?v; (case h => k_is); (case z => rfl); (case v => exact (.cons ⟨_, rfl⟩ (.cons ⟨_, rfl⟩ .nil)))))
        (case s1 => (refine' Nl.sqt_mk ?h ?z ?v; (case h => k_is); (case z => rfl); (case v => exact (.cons ⟨_, rfl⟩ (.cons ⟨_, rfl⟩ .nil)))))
        (case s2 => (refine' Nl.sqt_mk ?h ?z ?v; (case h => k_is); (case z => rfl); (case v => exact (.cons ⟨_, rfl⟩ (.cons ⟨_, rfl⟩ (.cons ⟨_, rfl⟩ .nil))))))
        (case s3 => (refine' Nl.sqt_mk ?h ?z ?v; (case h => k_is); (case z => rfl); (case v => exact (.cons ⟨_, rfl⟩ (.cons ⟨_, rfl⟩ (.cons ⟨_, rfl⟩ .nil))))))
        (case s4 => (refine' Nl.sqt_mk ?h ?z ?v; (case h => k_is); (case z => rfl); (case v => exact (.cons ⟨_, rfl⟩ (.cons ⟨_, rfl⟩ .nil)))))
        (case s5 => (refine' Nl.sqt_mk ?h ?z ?v; (case h => k_is); (case z => rfl); (case v => exact (.cons ⟨_, rfl⟩ (.cons ⟨_, rfl⟩ .nil)))))
        (case s6 => (refine' Nl.sqt_mk ?h ?z ?v; (case h => k_is); (case z => rfl); (case v => exact (.cons ⟨_, rfl⟩ (.cons ⟨_, rfl⟩ (.cons ⟨_, rfl⟩ .nil))))))
        (case s7 => (refine' Nl.sqt_mk ?h ?z ?v; (case h => k_is); (case z => rfl); (case v => exact (.cons ⟨_, rfl⟩ .nil))))
        (case s8 => (refine' Nl.sqt_mk ?h ?z ?v; (case h => k_is); (case z => rfl); (case v => exact (.cons ⟨_, rfl⟩ .nil))))

