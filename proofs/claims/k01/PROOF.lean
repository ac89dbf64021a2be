import PyProof.Rows.All
import Wide.All
import OpenK.AllK
import Wide.FinOn
import HandS.ForMost
import HandS.Codes
import HandS.Exc
import HandS.ExcOwn
import HandS.TryOnly
import HandS.WordsExc
import HandS.IsInst
import HandS.RaiseMore
import HandS.Small
import HandS.FStr
import HandS.Star
import HandS.TupAny
import HandS.Deep
import HandS.Zip
import HandS.Conv
import HandS.HotCalls
import HandS.StrMore
import HandS.Flow
import KE.KUnpackStar
import PySem.Challenge.RW_nearlines_k01_rows_written
set_option Elab.async false
set_option linter.all false
set_option maxRecDepth 100000
/-! the layer of our own over the hand layer -/
namespace Nl
open PySem PySem.Spec PyProof.Rows L2

/-! ### a def of the top, as it stands -/
def DefAt (K : PySem.W.Frag) (x : Str) (st : Stmt) : Prop :=
  ∃ (f : Addr) (oc : Value) (od an : Option Addr) (osl : Array (Option Value)) (kV doc pm cdv ct : Value),
    PySem.W.nsIn K mainGlobals x = some (some (.ref f)) ∧
    K.lookup f = some ⟨oc, od, .func (PySem.W.fnOf x x (defArgs st) (defBody st) (defScope st) .none kV doc pm an cdv ct), osl⟩ ∧
    PySem.W.codeIn K cdv x = true ∧ PySem.W.keepIn K (.ref f) = true
theorem def_mk {K : PySem.W.Frag} {x : Str} {st : Stmt} {f : Addr} {oc : Value} {od an : Option Addr} {osl : Array (Option Value)} {kV doc pm cdv ct : Value} (a : PySem.W.nsIn K mainGlobals x = some (some (.ref f)))
    (l : K.lookup f = some ⟨oc, od, .func (PySem.W.fnOf x x (defArgs st) (defBody st) (defScope st) .none kV doc pm an cdv ct), osl⟩) (c : PySem.W.codeIn K cdv x = true) (k : PySem.W.keepIn K (.ref f) = true) : DefAt K x st :=
  ⟨f, oc, od, an, osl, kV, doc, pm, cdv, ct, a, l, c, k⟩
/-- the module's names, as the top leaves them -/
structure Top (K : PySem.W.Frag) (mg : Str → Option Value) : Prop where
  ex : ∃ (h : Heap), K.In h ∧ h.Ns mainGlobals mg
theorem Top.of {K : PySem.W.Frag} {mg : Str → Option Value} (T : Top K mg) {x : Str} {v : Value} (a : PySem.W.nsIn K mainGlobals x = some (some v)) : mg x = some v := by
  obtain ⟨h, X, G⟩ := T.ex
  exact PySem.W.mg_of X G a
theorem Top.none {K : PySem.W.Frag} {mg : Str → Option Value} (T : Top K mg) {x : Str} (a : PySem.W.nsIn K mainGlobals x = some Option.none) : mg x = Option.none := by
  obtain ⟨h, X, G⟩ := T.ex
  exact PySem.W.mg_none_of X G a

section
variable {P : Program} {w : World} {K : PySem.W.Frag} {mg : Str → Option Value} {base : Heap}
abbrev BindOk (x : Str) (st : Stmt) (ps : List Str) : Prop := ∀ (kV doc pm : Value) (an : Option Addr) (cdv ct : Value) (us : List Value), us.length = ps.length →
  bindArgs (PySem.W.fnOf x x (defArgs st) (defBody st) (defScope st) .none kV doc pm an cdv ct) ⟨us, []⟩ = pure (ps.zip us)
/-- a def called by its name keeps sp -/
structure Cal (P : Program) (w : World) (K : PySem.W.Frag) (mg : Str → Option Value) (base : Heap) (CX : CXT) (k : Nat) (x : Str) (sp : Sp) : Prop where
  ex : ∃ (f : Addr) (fd : FuncData) (ps : List Str), FnOk P w K mg base CX k f fd ps sp ∧ mg x = some (.ref f) ∧ PySem.W.keepIn K (.ref f) = true ∧ Binds K fd ps []
theorem Cal.mono {CX : CXT} {j k : Nat} {x : Str} {sp : Sp} (c : Cal P w K mg base CX j x sp) (h : j ≤ k) : Cal P w K mg base CX k x sp := by
  obtain ⟨f, fd, ps, F, r⟩ := c.ex
  exact ⟨f, fd, ps, F.mono h, r⟩
/-- a def that lets no error out -/
theorem cal_of {x : Str} {st : Stmt} {N ps : List Str} {k : Nat} {sp : Sp} (T : Top K mg) (D : DefAt K x st) (S : FnScope N ps (defScope st)) (b : BindOk x st ps) (len : ∀ vs H Q E, sp vs H Q E → vs.length = ps.length)
    (hbody : ∀ (f : Addr) (cdv : Value) (A : Around) (outer : List Env) (s : Shared) (H : Hp) (vs : List V) (Q : VK) (E : XK), Room k (A.deeper (envOfC x (defScope st) s.heap.objs.size f cdv)) → sp vs H Q E →
      ∃ t, PSs (cxOf CX0 P w K mg base N x (defScope st) f cdv A outer s H E).nox (defBody st) t ∧ t { nx := fun _ H' => Q .non H', rt := Q } (start N vs) H) : Cal P w K mg base CX0 (k + 1) x sp := by
  obtain ⟨f, oc, od, an, osl, kV, doc, pm, cdv, ct, a, l, c, kp⟩ := D
  have F := fun_mk (st := st) l c kp
  exact ⟨f, _, ps, F.ok S len (fun cdv A outer s H vs Q E hr h => hbody f cdv A outer s H vs Q E hr h), T.of a, kp, F.binds b⟩
/-- .. that may raise -/
theorem cal_ofX {x : Str} {st : Stmt} {N ps : List Str} {k : Nat} {sp : Sp} (T : Top K mg) (D : DefAt K x st) (S : FnScope N ps (defScope st)) (b : BindOk x st ps) (len : ∀ vs H Q E, sp vs H Q E → vs.length = ps.length)
    (hbody : ∀ (f : Addr) (cdv : Value) (A : Around) (outer : List Env) (s : Shared) (H : Hp) (vs : List V) (Q : VK) (E : XK), Room k (A.deeper (envOfC x (defScope st) s.heap.objs.size f cdv)) → sp vs H Q E →
      ∃ t, PSs (cxOf (L2.CX P w) P w K mg base N x (defScope st) f cdv A outer s H E) (defBody st) t ∧ t { nx := fun _ H' => Q .non H', rt := Q } (start N vs) H) : Cal P w K mg base (L2.CX P w) (k + 1) x sp := by
  obtain ⟨f, oc, od, an, osl, kV, doc, pm, cdv, ct, a, l, c, kp⟩ := D
  have F := fun_mk (st := st) l c kp
  exact ⟨f, _, ps, F.okX S len (fun cdv A outer s H vs Q E hr h => hbody f cdv A outer s H vs Q E hr h), T.of a, kp, F.binds b⟩
end
section
variable {X : Cx} {k j : Nat} {x : Str} {sp : Sp} {p pos : Pos} {e : Expr} {es : List Expr} {t : TA}
/-- f(..), f lets no error out -/
theorem pe_c (c : Cal X.prog X.w X.K X.mg X.base CX0 k x sp) (hr : Room j X.A) (hk : k ≤ j) (hg : Gl X x) (ha : PA X (e :: es) t)
    (hdb : (x == ("__debug__" : Str)) = false := by decide) (he : starEach (e :: es) X.env = (false, eval e X.env) :: starEach es X.env := by rfl) (hpl : (backTo pos (starEach es X.env)).any (·.1) = false := by rfl) :
    PE X (.Call (.Name x p) (e :: es) [] pos) (tCall sp [] E0 t) := by
  obtain ⟨f, fd, ps, F, hm, kp, b⟩ := c.ex
  exact pe_call F (hr.mono hk) hg hm kp b .nil pass0 ha hdb he hpl
/-- f(..), f may raise: what is raised is wished for by W -/
theorem pe_cx {W : WX} (c : Cal X.prog X.w X.K X.mg X.base (L2.CX X.prog X.w) k x sp) (tk : Takes X W) (hr : Room j X.A) (hk : k ≤ j) (hg : Gl X x) (ha : PA X (e :: es) t)
    (hdb : (x == ("__debug__" : Str)) = false := by decide) (he : starEach (e :: es) X.env = (false, eval e X.env) :: starEach es X.env := by rfl) (hpl : (backTo pos (starEach es X.env)).any (·.1) = false := by rfl) :
    PE X (.Call (.Name x p) (e :: es) [] pos) (tCallS sp (WE W) t) := by
  obtain ⟨f, fd, ps, F, hm, kp, b⟩ := c.ex
  exact pe_callS F (hr.mono hk) hg hm kp b (fun σ => passAt tk σ) ha hdb he hpl
/-- .. where it does not raise -/
theorem pe_c0 (c : Cal X.prog X.w X.K X.mg X.base (L2.CX X.prog X.w) k x sp) (hr : Room j X.A) (hk : k ≤ j) (hg : Gl X x) (ha : PA X (e :: es) t)
    (hdb : (x == ("__debug__" : Str)) = false := by decide) (he : starEach (e :: es) X.env = (false, eval e X.env) :: starEach es X.env := by rfl) (hpl : (backTo pos (starEach es X.env)).any (·.1) = false := by rfl) :
    PE X (.Call (.Name x p) (e :: es) [] pos) (tCall sp [] E0 t) := by
  obtain ⟨f, fd, ps, F, hm, kp, b⟩ := c.ex
  exact pe_call F (hr.mono hk) hg hm kp b .nil passL ha hdb he hpl
end

/-! ### places -/
theorem at_in {α : Type} {xs : List α} {i : Int} {v : α} (h0 : 0 ≤ i) (h : xs[i.toNat]? = some v) : atI xs i = some v := by
  have e : i = ((i.toNat : Nat) : Int) := (Int.toNat_of_nonneg h0).symm
  rw [e]
  exact atI_nat (by simpa using h)
theorem at_getD {α : Type} {xs : List α} {i : Int} {d : α} (h0 : 0 ≤ i) (h : i < xs.length) : atI xs i = some (xs.getD i.toNat d) := by
  refine at_in h0 ?_
  have : i.toNat < xs.length := by omega
  rw [List.getD_eq_getElem?_getD, List.getElem?_eq_getElem this]; rfl
theorem at_ints {ns : List Int} {i : Int} (h0 : 0 ≤ i) (h : i < ns.length) : atI (ns.map V.int) i = some (.int (ns.getD i.toNat 0)) := by
  refine at_in h0 ?_
  have : i.toNat < ns.length := by omega
  rw [List.getElem?_map, List.getD_eq_getElem?_getD, List.getElem?_eq_getElem this]; rfl
theorem at_strs {ns : List Str} {i : Int} (h0 : 0 ≤ i) (h : i < ns.length) : atI (ns.map V.str) i = some (.str (ns.getD i.toNat Str.empty)) := by
  refine at_in h0 ?_
  have : i.toNat < ns.length := by omega
  rw [List.getElem?_map, List.getD_eq_getElem?_getD, List.getElem?_eq_getElem this]; rfl
theorem mod_nn (c : Int) {n : Int} (h : 0 < n) : 0 ≤ c % n := Int.emod_nonneg c (by omega)
theorem mod_lt (c : Int) {n : Int} (h : 0 < n) : c % n < n := Int.emod_lt_of_pos c h
theorem at_ints_mod {ns : List Int} (c : Int) {n : Int} (h : 0 < n) (e : (ns.length : Int) = n) : atI (ns.map V.int) (c % n) = some (.int (ns.getD (c % n).toNat 0)) :=
  at_ints (mod_nn c h) (by rw [e]; exact mod_lt c h)
theorem at_strs_mod {ns : List Str} (c : Int) {n : Int} (h : 0 < n) (e : (ns.length : Int) = n) : atI (ns.map V.str) (c % n) = some (.str (ns.getD (c % n).toNat Str.empty)) :=
  at_strs (mod_nn c h) (by rw [e]; exact mod_lt c h)
theorem _root_.L2.Same.sqt {K : PySem.W.Frag} {H H' : Hp} {a : Addr} {xs : List V} (e : Same H H') (h : SqT K H a xs) : SqT K H' a xs := by
  rcases h with (h | ⟨o, h⟩) | h
  · exact .inl (.inl (e _ _ h))
  · exact .inl (.inr ⟨o, e _ _ h⟩)
  · exact .inr h
theorem _root_.L2.Same.new {H : Hp} {p : Addr} {o : HO} (h : H p = none) : Same H (upd H p o) := fun a u e => by
  rw [upd_ne (ne_of_none e h)]
  exact e
theorem _root_.L2.Same.more {H0 H : Hp} {p : Addr} {o : HO} (s : Same H0 H) (h : H p = none) : Same H0 (upd H p o) := s.trans (Same.new h)
/-- an object that H0 does not know changes -/
theorem _root_.L2.Same.mut {H0 H : Hp} {p : Addr} {o : HO} (s : Same H0 H) (h : H0 p = none) : Same H0 (upd H p o) := fun a u e => by
  rw [upd_ne (ne_of_none e h)]
  exact s a u e
/-! ### comprehensions whose elements leave the tracked things as they are -/
/-- the new list keeps: at its address D what is made so far -/
theorem lc_gen {J : It} {g : TG} {tt : TT} {te : TE} {vs : List Nat} {σ : L2.St} {H1 : Hp} {D : Addr} {Qd : Hp → Prop} (n : Nat) (R : Nat → V → Hp → Prop) (fs : Nat → Option V) (hD : H1 D = none) (hz : n < sizeLine)
    (go : ∀ i H, i < n → Same H1 H → J.go i H) (stop : ∀ H, Same H1 H → J.stop n H) (yld : ∀ i H x H', i < n → Same H1 H → J.yld i H x H' → Same H H' ∧ R i x H')
    (hs : ∀ i x H, i < n → Same H1 H → R i x H → ∀ (k1 : VK) (k0 : Hp → Prop), (∀ v H', fs i = some v → Same H H' → k1 v H') → (∀ H', fs i = none → Same H H' → k0 H') →
      g x (wipe σ vs) H fun σ2 H2 => wipe σ2 vs = wipe σ vs ∧ tt σ2 H2 fun b H3 => if b = true then te σ2 H3 k1 else k0 H3)
    (hd : ∀ H, Same H1 H → H D = some (.lst ((List.range n).filterMap fs)) → Qd H) :
    ∃ W : Nat → Nat → Hp → Prop, (∃ m, W 0 m (upd H1 D (.lst []))) ∧ ∀ i m H, W i m H →
      (J.stop i H ∧ Qd H) ∨ (J.go i H ∧ ∃ Nx : Hp → Prop, (∀ H', Nx H' → ∃ m', m' < m ∧ W (i + 1) m' H') ∧ ∀ x H', J.yld i H x H' → g x (wipe σ vs) H' fun σ2 H2 => wipe σ2 vs = wipe σ vs ∧ tt σ2 H2 fun b H3 =>
        if b = true then te σ2 H3 fun y H4 => ∃ acc, H4 D = some (.lst acc) ∧ acc.length < sizeLine ∧ Nx (upd H4 D (.lst (acc ++ [y]))) else Nx H3) := by
  refine ⟨fun i m H => m = n - i ∧ i ≤ n ∧ Same H1 H ∧ H D = some (.lst ((List.range i).filterMap fs)), ⟨n, by simp, Nat.zero_le _, Same.new hD, upd_same⟩, ?_⟩
  rintro i m H ⟨rfl, hi, s1, h1⟩
  by_cases hlt : i < n
  · refine .inr ⟨go i H hlt s1, fun H' => Same H1 H' ∧ H' D = some (.lst ((List.range (i + 1)).filterMap fs)), fun H' p' => ⟨n - (i + 1), by omega, rfl, hlt, p'⟩, fun x H' y => ?_⟩
    obtain ⟨s2, r⟩ := yld i H x H' hlt s1 y
    refine hs i x H' hlt (s1.trans s2) r _ _ (fun v H'' e s3 => ?_) (fun H'' e s3 => ?_)
    · refine ⟨_, s3 _ _ (s2 _ _ h1), ?_, ((s1.trans s2).trans s3).mut hD, ?_⟩
      · exact Nat.lt_of_le_of_lt (Nat.le_trans (List.length_filterMap_le _ _) (by rw [List.length_range]; omega)) hz
      · rw [upd_same, List.range_succ, List.filterMap_append]
        simp [e]
    · refine ⟨(s1.trans s2).trans s3, ?_⟩
      rw [s3 _ _ (s2 _ _ h1), List.range_succ, List.filterMap_append]
      simp [e]
  · have e : i = n := by omega
    subst e
    exact .inl ⟨stop H s1, hd H s1 h1⟩
theorem range_fm {α β : Type} (xs : List α) (f : α → Option β) : (List.range xs.length).filterMap (fun i => (xs[i]?).bind f) = xs.filterMap f := by
  induction xs with
  | nil => rfl
  | cons x xs ih =>
    rw [List.length_cons, List.range_succ_eq_map, List.filterMap_cons, List.filterMap_map, List.filterMap_cons]
    have e : (List.range xs.length).filterMap ((fun i => ((x :: xs)[i]?).bind f) ∘ Nat.succ) = xs.filterMap f := by
      rw [← ih]
      rfl
    rw [e]
    rfl
section
variable {K : PySem.W.Frag} {g : TG} {tt : TT} {te : TE} {vs : List Nat} {σ : L2.St} {H1 : Hp} {D a : Addr} {Qd : Hp → Prop} {xs : List V}
abbrev LcW (J : It) (g : TG) (tt : TT) (te : TE) (vs : List Nat) (σ : L2.St) (H1 : Hp) (D : Addr) (Qd : Hp → Prop) : Prop :=
  ∃ W : Nat → Nat → Hp → Prop, (∃ m, W 0 m (upd H1 D (.lst []))) ∧ ∀ i m H, W i m H →
      (J.stop i H ∧ Qd H) ∨ (J.go i H ∧ ∃ Nx : Hp → Prop, (∀ H', Nx H' → ∃ m', m' < m ∧ W (i + 1) m' H') ∧ ∀ x H', J.yld i H x H' → g x (wipe σ vs) H' fun σ2 H2 => wipe σ2 vs = wipe σ vs ∧ tt σ2 H2 fun b H3 =>
        if b = true then te σ2 H3 fun y H4 => ∃ acc, H4 D = some (.lst acc) ∧ acc.length < sizeLine ∧ Nx (upd H4 D (.lst (acc ++ [y]))) else Nx H3)
abbrev LcTurn (g : TG) (tt : TT) (te : TE) (vs : List Nat) (σ : L2.St) (x : V) (H : Hp) (fx : Option V) : Prop := ∀ (k1 : VK) (k0 : Hp → Prop), (∀ v H', fx = some v → Same H H' → k1 v H') → (∀ H', fx = none → Same H H' → k0 H') →
      g x (wipe σ vs) H fun σ2 H2 => wipe σ2 vs = wipe σ vs ∧ tt σ2 H2 fun b H3 => if b = true then te σ2 H3 k1 else k0 H3
/-- over a list: [f x for x in xs if ..] -/
theorem lc_fl (f : V → Option V) (hD : H1 D = none) (hq : SqL K H1 a xs) (hz : xs.length < sizeLine) (hs : ∀ (i : Nat) x H, xs[i]? = some x → Same H1 H → LcTurn g tt te vs σ x H (f x))
    (hd : ∀ H, Same H1 H → H D = some (.lst (xs.filterMap f)) → Qd H) : LcW (Itl K a) g tt te vs σ H1 D Qd :=
  lc_gen xs.length (fun i x _ => xs[i]? = some x) (fun i => (xs[i]?).bind f) hD hz
    (fun i H hi s => ⟨xs, xs[i], s.seq hq, by simp [hi]⟩) (fun H s => ⟨xs, s.seq hq, Nat.le_refl _⟩) (fun i H x H' hi s y => by
      obtain ⟨e, y⟩ := y
      subst e
      exact ⟨Same.refl _, y xs (s.seq hq)⟩)
    (fun i x H hi s r k1 k0 h1 h0 => hs i x H r s k1 k0 (fun v H' e => h1 v H' (by rw [r]; exact e)) (fun H' e => h0 H' (by rw [r]; exact e))) (fun H s h => hd H s (by rw [h, range_fm]))
/-- over a tuple -/
theorem lc_ft (f : V → Option V) (hD : H1 D = none) (hq : SqT K H1 a xs) (hz : xs.length < sizeLine) (hs : ∀ (i : Nat) x H, xs[i]? = some x → Same H1 H → LcTurn g tt te vs σ x H (f x))
    (hd : ∀ H, Same H1 H → H D = some (.lst (xs.filterMap f)) → Qd H) : LcW (Itt K a) g tt te vs σ H1 D Qd :=
  lc_gen xs.length (fun i x _ => xs[i]? = some x) (fun i => (xs[i]?).bind f) hD hz
    (fun i H hi s => ⟨xs, xs[i], s.sqt hq, by simp [hi]⟩) (fun H s => ⟨xs, s.sqt hq, Nat.le_refl _⟩) (fun i H x H' hi s y => by
      obtain ⟨e, y⟩ := y
      subst e
      exact ⟨Same.refl _, y xs (s.sqt hq)⟩)
    (fun i x H hi s r k1 k0 h1 h0 => hs i x H r s k1 k0 (fun v H' e => h1 v H' (by rw [r]; exact e)) (fun H' e => h0 H' (by rw [r]; exact e))) (fun H s h => hd H s (by rw [h, range_fm]))
/-- over range(lo, lo + n) -/
theorem lc_fr {lo : Int} {n : Nat} (f : Nat → Option V) (hD : H1 D = none) (hz : n < sizeLine) (hs : ∀ (i : Nat) H, i < n → Same H1 H → LcTurn g tt te vs σ (.int (lo + i)) H (f i))
    (hd : ∀ H, Same H1 H → H D = some (.lst ((List.range n).filterMap f)) → Qd H) : LcW (Itr lo n) g tt te vs σ H1 D Qd :=
  lc_gen n (fun i x _ => x = .int (lo + i)) f hD hz (fun i H hi s => hi) (fun H s => Nat.le_refl _) (fun i H x H' hi s y => by
      obtain ⟨e, y⟩ := y
      subst e
      exact ⟨Same.refl _, y⟩)
    (fun i x H hi s r k1 k0 h1 h0 => by subst r; exact hs i H hi s k1 k0 h1 h0) hd
end
/-! ### the law's own def, the end -/
def spLaw (K : PySem.W.Frag) : Sp := fun vs H Q _ => ∃ (a : Addr) (ns : List Int), vs = [.ref a] ∧ SqL K H a (ns.map V.int) ∧ ns.length ≤ 63 ∧ ∀ H', Q (.bl true) H'
abbrev LawOk (P : Program) (w : World) (K : PySem.W.Frag) (mg : Str → Option Value) (k : Nat) : Prop :=
  ∃ (f : Addr) (fd : FuncData), mg "law" = some (.ref f) ∧ (∀ (s : Shared) (v : Value), BindsTo s fd ⟨[v], []⟩ [("_law_script", v)]) ∧ ∀ base : Heap, FnOk P w K mg base CX0 k f fd ["_law_script"] (spLaw K)
theorem law_of {P : Program} {w : World} {K : PySem.W.Frag} {mg : Str → Option Value} {st : Stmt} {N : List Str} {k : Nat} (T : Top K mg) (D : DefAt K "law" st) (S : FnScope N ["_law_script"] (defScope st))
    (b : ∀ (kV doc pm : Value) (an : Option Addr) (cdv ct v : Value), bindArgs (PySem.W.fnOf "law" "law" (defArgs st) (defBody st) (defScope st) .none kV doc pm an cdv ct) ⟨[v], []⟩ = pure [(("_law_script" : Str), v)])
    (hbody : ∀ (base : Heap) (f : Addr) (cdv : Value) (A : Around) (outer : List Env) (s : Shared) (H : Hp) (a : Addr) (ns : List Int) (Q : VK) (E : XK), Room k (A.deeper (envOfC "law" (defScope st) s.heap.objs.size f cdv)) → SqL K H a (ns.map V.int) → ns.length ≤ 63 → (∀ H', Q (.bl true) H') →
      ∃ t, PSs (cxOf CX0 P w K mg base N "law" (defScope st) f cdv A outer s H E).nox (defBody st) t ∧ t { nx := fun _ H' => Q .non H', rt := Q } (start N [.ref a]) H) : LawOk P w K mg (k + 1) := by
  obtain ⟨f, oc, od, an, osl, kV, doc, pm, cdv, ct, a, l, c, kp⟩ := D
  have F := fun_mk (st := st) l c kp
  refine ⟨f, _, T.of a, fun s v => .of_eq (b kV doc pm an cdv ct v), fun base => F.ok S (fun vs H Q E h => ?_) fun cdv A outer s H vs Q E hr h => ?_⟩
  · obtain ⟨_, _, rfl, _⟩ := h
    rfl
  · obtain ⟨a, ns, rfl, h1, h2, h3⟩ := h
    exact hbody base f cdv A outer s H a ns Q E hr h1 h2 h3
theorem walk_end {l : PySem.W.OpenLaw} {q : Program} {loose : List Str} {XP : (Str → Option Value) → Heap → Prop} {YP : World → Heap → Prop} {d : DefRec} {K : Params → PySem.W.Frag} (k : Nat) (hn : l.most = some 63) (hdf : d.params.defaults = []) (hr : Room k callerA) (hd : d.name = "law")
    (hY : ∀ (w : World) (h : Heap), YP w h → (K w.params).In h)
    (F : ∀ (w : World) (mg : Str → Option Value), Top (K w.params) mg → LawOk l.prog w (K w.params) mg k) :
    PySem.W.WalkO q loose XP YP l.row.toRowW d [] (fun f vs => PySem.call f vs) :=
  L2.walk_of (n := 63) (k := k) (x := "_law_script") (CX := fun _ => CX0) (sp := fun w => spLaw (K w.params)) hn (by decide) hdf hr hY (fun w mg fa h X G hm => by
    obtain ⟨f, fd, e, b, ok⟩ := F w mg ⟨h, X, G⟩
    rw [hd, e] at hm
    cases hm
    exact ⟨fd, b, fun base _ _ => ok base⟩) (fun _ _ a ns hl _ hS => ⟨a, ns, rfl, hS, hl, fun _ => rfl⟩) fun _ _ _ _ _ z => z
theorem bl_of {b c : Bool} (h : b = c) : V.bl b = V.bl c := congrArg V.bl h
theorem fm_some {α β : Type} (xs : List α) (f : α → β) : xs.filterMap (fun x => some (f x)) = xs.map f := by
  induction xs with
  | nil => rfl
  | cons x xs ih => simp
/-! ### the helpers every law has -/
def cellAt (ns : List Int) (k : Int) : Int := ns.getD k.toNat 0
def mixed (c : Int) : Int := c * 48271 % 2147483647
def spCellAt (K : PySem.W.Frag) : Sp := fun vs H Q _ => ∃ (a : Addr) (ns : List Int) (k : Int), vs = [.ref a, .int k] ∧ SqL K H a (ns.map V.int) ∧ 0 ≤ k ∧ Q (.int (cellAt ns k)) H
def spMixed : Sp := fun vs H Q _ => ∃ c : Int, vs = [.int c] ∧ Q (.int (mixed c)) H
end Nl

set_option Elab.async false
set_option linter.all false
set_option maxRecDepth 100000
set_option maxHeartbeats 1000000
namespace Nl
open PySem PySem.Spec PySem.Calls PyProof.Rows PySem.W
/-- a, *rest = a list: the rest is a new list -/
theorem star_list {prog : Program} {w : World} {A : Around} {E : Value → Shared → Prop} {s : Shared} {l : Addr} {items : Array Value} {first rest : List Value} {Q : List Value → Shared → Prop}
    (hl : s.heap.IsList l items) (hh : A.handled = none) (hn : 1 ≤ items.size) (hz : items.size ≤ 16384) (h1 : items.toList = first ++ rest) (h2 : first.length = 1)
    (h : ∀ (h₂ : Heap) (tk : Nat), (∀ b o, s.heap.get? b = some o → h₂.get? b = some o) → Q (first ++ [.ref h₂.objs.size]) { s with heap := h₂.push { cls := .type "list", data := .seq rest.toArray 0 }, toks := tk }) :
    wpAny (model prog w) A (unpackItems (.ref l) 2 (some 1)) Q E s := by
  have hlt : l ≠ s.heap.objs.size := by obtain ⟨o, ho, _⟩ := hl; exact Nat.ne_of_lt (Heap.lt_size ho)
  have hsz : items.toList.length = items.size := Array.length_toList
  have ht : items.toList.take 1 = first := by rw [h1, List.take_append_of_le_length (by omega), List.take_of_length_le (by omega)]
  have hd : items.toList.drop 1 = rest := by rw [h1, List.drop_append_of_le_length (by omega), List.drop_of_length_le (by omega)]; rfl
  unfold unpackItems
  refine wpAny_bind ?_
  unfold notIterableAtAll
  refine wpAny_bind (wpAny_specialOf hl.typeIs slot_list_iter.lookup ?_)
  refine wpAny_pure ?_
  simp only [Bool.false_eq_true, if_false]
  refine wpAny_bind (wpAny_holding (wpAny_pyIter_list hl ?_))
  refine wpAny_bind (wpAny_holding (kun_draw hlt 1 0 _ _ ⟨_, Heap.get?_push_size _ rfl, rfl, rfl⟩ (hl.push _) (by omega) fun h₁ hit₁ hs₁ => ?_))
  have hl₁ : h₁.IsList l items := (hl.push _).extBut hs₁.extBut hlt
  rw [Nat.zero_add] at hit₁
  have hit₁' := hit₁
  obtain ⟨oi, hoi, _⟩ := hit₁'
  have hl₁' := hl₁
  obtain ⟨ol, hol, _⟩ := hl₁'
  rw [List.drop_zero, ht]
  rw [if_neg (show ¬ (first.length < 1) by omega)]
  refine wpAny_bind (wpAny_holding (kun_collect (s := { s with heap := h₁ }) (T := "list_iterator") (.inr (.inr (.inl rfl))) (Walks.list (A := A.in1) hh s.heap.objs.size l hlt items) (fun j u st => st.1.typeIs) (k := 1) (by omega) ⟨hit₁, hl₁⟩ (Heap.lt_size hoi) (Heap.lt_size hol) (fun h₂ tk hk => ?_) (by rw [sizeLine_eq]; omega)))
  rw [hd]
  show wpAny _ _ (if rest.length < 0 then _ else _) _ _ _
  rw [if_neg (Nat.not_lt_zero _)]
  show wpAny _ _ (newList (rest.take (rest.length - 0)) >>= fun d => pure (first ++ [d] ++ rest.drop (rest.length - 0))) _ _ _
  rw [Nat.sub_zero, List.take_length, List.drop_length]
  have hr : rest.length ≤ items.size := by rw [← hsz, h1, List.length_append]; omega
  have he : ∀ b o, s.heap.get? b = some o → h₂.get? b = some o := fun b o e =>
    hk b o (Nat.ne_of_lt (Heap.lt_size e)) ((hs₁.2 b (Nat.ne_of_lt (Heap.lt_size e))).trans (Heap.get?_push_of_some _ e))
  refine wpAny_bind (wpAny_newObj_type ?_ (by show rest.toArray.size ≤ sizeLine; rw [List.size_toArray, sizeLine_eq]; omega))
  refine wpAny_pure ?_
  rw [List.append_nil]
  exact h h₂ tk he
end Nl
namespace Nl
open PySem PySem.Spec PyProof.Rows L2
/-- a, *rest = xs, a list; both names in slots -/
def gStar (K : PySem.W.Frag) (i j : Nat) : TG := fun v σ H Q => ∃ a x xs, v = .ref a ∧ SqL K H a (x :: xs) ∧ xs.length < 16384 ∧ ∀ p, H p = none → Q ((σ.set i (some x)).set j (some (.ref p))) (upd H p (.lst xs))
theorem pg_star {X : Cx} {i j : Nat} {x y : Str} {px py pp pos : Pos} {k1 : Nat} (hc : X.calm = true) (hN : X.N.Nodup) (hi : X.N[i]? = some x) (hx : Loc X.env.scope x) (hj : X.N[j]? = some y) (hy : Loc X.env.scope y)
    (fx : X.fn x = true ∨ X.env.scope.names.lookup x = some .local := by first | exact .inl rfl | exact .inr rfl | assumption) (fy : X.fn y = true ∨ X.env.scope.names.lookup y = some .local := by first | exact .inl rfl | exact .inr rfl | assumption) :
    PG X (.Tuple [.Name x px, .Starred (.Name y py) pp] k1 pos) (gStar X.K i j) := by
  refine ⟨fun pins s σ H v u Q I r h => ?_⟩
  obtain ⟨a, x1, xs, rfl, hs, hz, q⟩ := h
  cases r
  obtain ⟨its, rv, pl, hl⟩ := I.list hs
  have el : (x1 :: xs).length = its.length := rv.length
  cases rv with
  | cons r1 rr =>
    rename_i u1 us
    rw [PyProof.Rows.assign_Tuple]
    refine wpAny_bind (wpAny_standAt ?_)
    unfold unpack
    have h1 : (assignEach [.Name x px, .Starred (.Name y py) pp] X.env).length = 2 := rfl
    have h2 : (assignEach [.Name x px, .Starred (.Name y py) pp] X.env).findIdx? (·.1) = some 1 := rfl
    rw [h1, h2]
    refine wpAny_bind (wpAny_holding (star_list (first := [u1]) (rest := us) pl.isList (I.ok.hd hc) (by simp) (by simp at el ⊢; omega) (by simp) rfl fun h₂ tk hk => ?_))
    have I2 : Inv X pins σ H { s with heap := h₂, toks := tk } := I.kept hk
    have I3 := I2.laid (a := h₂.objs.size) (o := .lst xs) (h' := h₂.push { cls := .type "list", data := .seq us.toArray 0 }) (t' := tk) (fun b o e => Heap.get?_push_of_some _ e) (Nat.le_refl _) ⟨(by simp at hl; omega), us, 0, rr, Heap.get?_push_size _ rfl⟩
    have hf : H h₂.objs.size = none := I2.hok.fresh (Nat.le_refl _)
    show wpAny _ _ (assignInOrder [assign (.Name x px) X.env, assign (.Name y py) X.env] [u1, .ref h₂.objs.size]) _ _ _
    refine assignInOrder_cons (wpAny_assign_Name (store_ok I3 hN hi hx r1 (fun s4 I4 => ?_) fx))
    refine assignInOrder_cons (wpAny_assign_Name (store_ok (v := V.ref h₂.objs.size) I4 hN hj hy rfl (fun s5 I5 => assignInOrder_nil ⟨_, _, I5, q _ hf⟩) fy))
end Nl

set_option Elab.async false
set_option linter.all false
set_option maxRecDepth 100000
set_option maxHeartbeats 4000000
namespace Nl
open PySem PySem.Spec PyProof.Rows L2
def top (i : Nat) : Stmt := PySem.Challenge.pw_nearlines_k01_rows_written.main.body.getD i (.Pass ⟨0, 0, 0, 0⟩)
theorem sz_ok {n : Nat} (h : Nat.ble n 1000 = true) : n ≤ sizeLine := Nat.le_trans (Nat.le_of_ble_eq_true h) (by decide)
local macro_rules | `(tactic| walk_at "rd") => `(tactic| first
  | refine ⟨_, rfl, ?_⟩
  | refine ⟨_, _, rfl, rfl, ⟨by decide, by decide⟩, ?_⟩
  | refine ⟨_, _, rfl, rfl, (by show (0 : Int) < _; decide), ?_⟩
  | refine ⟨_, _, rfl, rfl, .inr ⟨by decide, by decide⟩, ?_⟩
  | refine ⟨_, _, rfl, rfl, ?_⟩
  | refine ⟨rfl, ?_⟩)

structure Txt (K : PySem.W.Frag) (w : World) (mg : Str → Option Value) : Prop extends Top K mg where
  len : mg "len" = none
  range : mg "range" = none
  isinstance : mg "isinstance" = none
  all : mg "all" = none
  int : mg "int" = none
  str : mg "str" = none
  bool : mg "bool" = none
  tuple : mg "tuple" = none
section
variable {P : Program} {w : World} {K : PySem.W.Frag} {mg : Str → Option Value} {base : Heap}
abbrev s__law_cell_at : Stmt := top 10
abbrev N__law_cell_at : List Str := ["_law_script", "_law_k"]
theorem S__law_cell_at : FnScope N__law_cell_at ["_law_script", "_law_k"] (defScope s__law_cell_at) := ⟨rfl, rfl, rfl, by decide +kernel, rfl, by decide +kernel, by decide +kernel⟩

theorem c_cell_at (T : Txt K w mg) (D : DefAt K "_law_cell_at" s__law_cell_at) : Cal P w K mg base CX0 1 "_law_cell_at" (spCellAt K) := by
  have S := S__law_cell_at
  refine cal_of T.toTop D S (fun _ _ _ _ _ _ us hl => match us, hl with | [_, _], _ => rfl) (fun vs H Q E h => ?_) (fun f cdv A outer s H vs Q E hr h => ?_)
  · obtain ⟨a, ns, k, rfl, _⟩ := h
    rfl
  · obtain ⟨a, ns, k, rfl, hS, hk, q⟩ := h
    refine ⟨_, (pss_cons (ps_if (pt_cmpR op_lt (pv 1) (pe_callB call_len_seq (by rfl) T.len PySem.boot_len (pa_cons (pv 0) pa_nil)) (nomark _)) (pss_one (ps_ret (pe_ix ix_list (pv 0) (pv 1) (fun _ _ => rfl)))) pss_nil)
  (pss_one (ps_ret pe_int))), ?_⟩
    refine ⟨_, rfl, _, rfl, a, _, rfl, .inl hS, _, _, rfl, rfl, _, rfl, ?_⟩
    rw [List.length_map]
    refine ite2 (fun h => ?_) (fun h => ?_)
    · have h := of_decide_eq_true h
      exact ⟨_, rfl, _, rfl, a, _, _, _, rfl, rfl, hS, at_ints hk h, q⟩
    · have h : ¬ k < (ns.length : Int) := fun z => h (decide_eq_true z)
      have e : cellAt ns k = 0 := by
        unfold cellAt
        rw [List.getD_eq_getElem?_getD, List.getElem?_eq_none (by omega)]; rfl
      rw [e] at q
      exact q

abbrev s__law_mixed : Stmt := top 12
abbrev N__law_mixed : List Str := ["_law_cell"]
theorem S__law_mixed : FnScope N__law_mixed ["_law_cell"] (defScope s__law_mixed) := ⟨rfl, rfl, rfl, by decide +kernel, rfl, by decide +kernel, by decide +kernel⟩

theorem c_mixed (T : Txt K w mg) (D : DefAt K "_law_mixed" s__law_mixed) : Cal P w K mg base CX0 1 "_law_mixed" spMixed := by
  have S := S__law_mixed
  refine cal_of T.toTop D S (fun _ _ _ _ _ _ us hl => match us, hl with | [_], _ => rfl) (fun vs H Q E h => ?_) (fun f cdv A outer s H vs Q E hr h => ?_)
  · obtain ⟨c, rfl, _⟩ := h
    rfl
  · obtain ⟨c, rfl, q⟩ := h
    refine ⟨_, (pss_one (ps_ret (pe_op op_mod (pe_op op_mul (pv 0) pe_int) pe_int))), ?_⟩
    repeat walk_at "rd"
    exact q

def numberBy (c : Int) : Int := [c / 4 % 10, 999999 - c / 4 % 3, c / 4 % 1000000, mixed c % 1000000].getD (c % 4).toNat 0
def spNumberBy : Sp := fun vs H Q _ => ∃ c : Int, vs = [.int c] ∧ ∀ H', Same H H' → Q (.int (numberBy c)) H'
theorem numberBy_lo (c : Int) : 0 ≤ numberBy c := by
  have h : (c % 4).toNat = 0 ∨ (c % 4).toNat = 1 ∨ (c % 4).toNat = 2 ∨ (c % 4).toNat = 3 := by omega
  unfold numberBy
  rcases h with h | h | h | h <;> rw [h] <;> simp only [List.getD_cons_zero, List.getD_cons_succ] <;> omega
theorem numberBy_hi (c : Int) : numberBy c < 1000000 := by
  have h : (c % 4).toNat = 0 ∨ (c % 4).toNat = 1 ∨ (c % 4).toNat = 2 ∨ (c % 4).toNat = 3 := by omega
  unfold numberBy
  rcases h with h | h | h | h <;> rw [h] <;> simp only [List.getD_cons_zero, List.getD_cons_succ] <;> omega
abbrev s__law_number_by : Stmt := top 13
abbrev N__law_number_by : List Str := ["_law_cell"]
theorem S__law_number_by : FnScope N__law_number_by ["_law_cell"] (defScope s__law_number_by) := ⟨rfl, rfl, rfl, by decide +kernel, rfl, by decide +kernel, by decide +kernel⟩

theorem c_number_by (T : Txt K w mg) (D : DefAt K "_law_number_by" s__law_number_by) (C__law_mixed : Cal P w K mg base CX0 1 "_law_mixed" spMixed) : Cal P w K mg base CX0 2 "_law_number_by" spNumberBy := by
  have S := S__law_number_by
  refine cal_of T.toTop D S (fun _ _ _ _ _ _ us hl => match us, hl with | [_], _ => rfl) (fun vs H Q E h => ?_) (fun f cdv A outer s H vs Q E hr h => ?_)
  · obtain ⟨c, rfl, _⟩ := h
    rfl
  · obtain ⟨c, rfl, q⟩ := h
    refine ⟨_, (pss_one (ps_ret (pe_ix ix_list (pe_lst (pa_cons (pe_op op_mod (pe_op op_fdiv (pv 0) pe_int) pe_int) (pa_cons (pe_op op_sub pe_int (pe_op op_mod (pe_op op_fdiv (pv 0) pe_int) pe_int)) (pa_cons (pe_op op_mod (pe_op op_fdiv (pv 0) pe_int) pe_int) (pa_cons (pe_op op_mod (pe_c C__law_mixed hr (by decide) rfl (pa_cons (pv 0) pa_nil)) pe_int) pa_nil))))) (pe_op op_mod (pv 0) pe_int) (fun _ _ => rfl)))), ?_⟩
    repeat walk_at "rd"
    refine ⟨sz_ok rfl, fun p hp => ?_⟩
    repeat walk_at "rd"
    exact ⟨_, _, _, _, rfl, rfl, SqL.of upd_same, at_ints_mod (ns := [_, _, _, _]) c (by decide) rfl, q _ (Same.new hp)⟩

abbrev s__law_whole : Stmt := top 11
abbrev N__law_whole : List Str := ["_law_found"]
theorem S__law_whole : FnScope N__law_whole ["_law_found"] (defScope s__law_whole) := ⟨rfl, rfl, rfl, by decide +kernel, rfl, by decide +kernel, by decide +kernel⟩

/-- the type of a thing that is no object of the program's own -/
def spWhole (K : PySem.W.Frag) : Sp := fun vs H Q _ => ∃ (v : V) (n : String), vs = [v] ∧ TyX K H v (.type n) ∧ kitB n "int" = some (decide (n = "int" ∨ n = "bool")) ∧ kitB n "bool" = some (decide (n = "bool")) ∧ Q (.bl (decide (n = "int"))) H
theorem c_whole (T : Txt K w mg) (D : DefAt K "_law_whole" s__law_whole) : Cal P w K mg base CX0 1 "_law_whole" (spWhole K) := by
  have S := S__law_whole
  refine cal_of T.toTop D S (fun _ _ _ _ _ _ us hl => match us, hl with | [_], _ => rfl) (fun vs H Q E h => ?_) (fun f cdv A outer s H vs Q E hr h => ?_)
  · obtain ⟨v, n, rfl, _⟩ := h
    rfl
  · obtain ⟨v, n, rfl, ty, k1, k2, q⟩ := h
    refine ⟨_, (pss_one (ps_ret (pe_and (pe_callB call_isi (by rfl) T.isinstance (by decide +kernel) (pa_cons (pv 0) (pa_cons ((pe_bltn (v := .ty "int") (u := .type "int") rfl T.int (by decide +kernel) rfl)) pa_nil))) (pe_one (pe_not (pe_callB call_isi (by rfl) T.isinstance (by decide +kernel) (pa_cons (pv 0) (pa_cons ((pe_bltn (v := .ty "bool") (u := .type "bool") rfl T.bool (by decide +kernel) rfl)) pa_nil)))))))), ?_⟩
    refine ⟨_, rfl, _, _, _, _, _, rfl, .ty _, ty, kit_ty k1, _, rfl, ?_⟩
    refine ite2 (fun h => ?_) (fun h => ?_)
    · refine ⟨_, rfl, _, _, _, _, _, rfl, .ty _, ty, kit_ty k2, _, rfl, ?_⟩
      have h := of_decide_eq_true h
      have e : (!decide (n = "bool")) = decide (n = "int") := by
        rcases h with h | h <;> subst h <;> rfl
      show Q (V.bl (!decide (n = "bool"))) H
      rw [e]
      exact q
    · have e : decide (n = "int") = false := decide_eq_false fun z => h (decide_eq_true (.inl z))
      rw [e] at q
      exact q

def isNum (p : Str) : Bool := (Txt.isascii p && Txt.isdigit p) && (decide (p = "0") || (decide (p.length ≤ 6) && !Txt.startswith p "0"))
def spIsNumber : Sp := fun vs H Q _ => ∃ p : Str, vs = [.str p] ∧ p.length ≤ sizeLine ∧ Q (.bl (isNum p)) H
abbrev s__is_number : Stmt := top 8
abbrev N__is_number : List Str := ["part"]
theorem S__is_number : FnScope N__is_number ["part"] (defScope s__is_number) := ⟨rfl, rfl, rfl, by decide +kernel, rfl, by decide +kernel, by decide +kernel⟩

theorem c_is_number (T : Txt K w mg) (D : DefAt K "_is_number" s__is_number) (gFigures : ∃ t, mg "FIGURES" = some (.int 6 t)) : Cal P w K mg base CX0 1 "_is_number" spIsNumber := by
  have S := S__is_number
  obtain ⟨tF, gFigures⟩ := gFigures
  refine cal_of T.toTop D S (fun _ _ _ _ _ _ us hl => match us, hl with | [_], _ => rfl) (fun vs H Q E h => ?_) (fun f cdv A outer s H vs Q E hr h => ?_)
  · obtain ⟨v, rfl, _⟩ := h
    rfl
  · obtain ⟨p, rfl, hz, q⟩ := h
    unfold isNum at q
    refine ⟨_, (pss_cons (ps_if (pt_not (PW.pt (pw_and (pt_val (pe_bm0 PySem.F.plainAttrs_str PySem.F.slot_str_isascii PySem.F.type_str_isascii mt_isascii (pv 0))) (pw_and1 (pt_val (pe_bm0 PySem.F.plainAttrs_str PySem.F.slot_str_isdigit PySem.F.type_str_isdigit mt_isdigit (pv 0))))))) (pss_one (ps_ret pe_bl)) pss_nil)
  (pss_one (ps_ret (pe_or (pe_cmpR op_eq (pv 0) pe_str (nomark _)) (pe_one (pe_and (pe_cmpR op_le (pe_callB call_len_str (by rfl) T.len PySem.boot_len (pa_cons (pv 0) pa_nil)) ((pe_glob (v := .int 6) rfl gFigures ⟨_, rfl⟩)) (nomark _)) (pe_one (pe_not (pe_bm PySem.F.plainAttrs_str PySem.F.slot_str_startswith PySem.F.type_str_startswith mt_startswith (pv 0) (pa_cons pe_str pa_nil)))))))))), ?_⟩
    refine ⟨_, rfl, rfl, _, rfl, rfl, trivial, _, rfl, ?_⟩
    cases e1 : Txt.isascii p with
    | false =>
      rw [e1] at q
      exact q
    | true =>
      refine ⟨_, rfl, rfl, _, rfl, rfl, trivial, _, rfl, ?_⟩
      cases e2 : Txt.isdigit p with
      | false =>
        rw [e1, e2] at q
        exact q
      | true =>
        rw [e1, e2] at q
        refine ⟨_, rfl, rfl, _, rfl, ?_⟩
        have e3 : decide (V.str p = V.str "0") = decide (p = "0") := by simp
        rw [e3]
        cases e4 : decide (p = "0") with
        | true =>
          rw [e4] at q
          exact q
        | false =>
          rw [e4] at q
          refine ⟨_, rfl, _, rfl, hz, _, _, rfl, rfl, _, rfl, ?_⟩
          have e5 : decide ((p.length : Int) ≤ 6) = decide (p.length ≤ 6) := by simp; omega
          rw [e5]
          cases e6 : decide (p.length ≤ 6) with
          | false =>
            rw [e6] at q
            exact q
          | true =>
            rw [e6] at q
            exact ⟨_, rfl, rfl, _, _, rfl, rfl, _, rfl, q⟩

def sTab : List (Str × List Str) := [("set", ["box", "number"]), ("copy", ["box", "box"]), ("add", ["box", "box", "box"]), ("sub", ["box", "box", "box"]), ("fetch", ["box", "box"]), ("store", ["box", "box"]), ("less", ["box", "box", "place"]), ("jump", ["place"]), ("tell", ["box"])]
def shapeOf (z : Str) : Option (List Str) := sTab.lookup z
structure Shapes (K : PySem.W.Frag) (w : World) (mg : Str → Option Value) (dS : Addr) : Prop where
  g : mg "SHAPES" = some (.ref dS)
  d : ∃ es n, KDict K w dS es n
  no : ∀ z, shapeOf z = none → PySem.W.nsIn K dS z = some none
  yes : ∀ z l, shapeOf z = some l → ∃ t, PySem.W.nsIn K dS z = some (some (.ref t)) ∧ ∀ H, SqT K H t (l.map V.str)
theorem Shapes.get {K : PySem.W.Frag} {w : World} {mg : Str → Option Value} {dS : Addr} (Z : Shapes K w mg dS) {z : Str} {l : List Str} (h : shapeOf z = some l) : ∃ t, KDct K w dS z (.ref t) ∧ ∀ H, SqT K H t (l.map V.str) := by
  obtain ⟨es, n, D⟩ := Z.d
  obtain ⟨t, e, q⟩ := Z.yes z l h
  exact ⟨t, ⟨es, n, _, D.at_, D.lit, e, rfl⟩, q⟩
theorem sTab_cases {P : Str → List Str → Prop} (h : ∀ q ∈ sTab, P q.1 q.2) {z : Str} {l : List Str} (e : shapeOf z = some l) : P z l := by
  have m := PySem.mem_of_lookup (show sTab.lookup z = some l from e)
  exact h _ m
theorem shape_len {z : Str} {l : List Str} (e : shapeOf z = some l) : 1 ≤ l.length ∧ l.length ≤ 3 := sTab_cases (P := fun _ l => 1 ≤ l.length ∧ l.length ≤ 3) (by decide) e
theorem shape_word {z : Str} {l : List Str} (e : shapeOf z = some l) : z.length ≤ 5 := sTab_cases (P := fun z _ => z.length ≤ 5) (by decide +kernel) e
structure ExcT (K : PySem.W.Frag) (mg : Str → Option Value) (x : Str) (C : Addr) : Prop where
  g : mg x = some (.ref C)
  x : PySem.W.excIn K C [.type "ValueError", .type "Exception", .type "BaseException", .type "object"] "ValueError.__new__" = true
  k : PySem.W.keepIn K (.ref C) = true
  b : PySem.W.subIn K (.ref C) (.type "BaseException") = some true
  t : PySem.W.typeIn K (.ref C) = some (.type "type")

def txtOf (n : Int) : Str := Str.ofString (toString n)
def rowText (wd : Str) (ns : List Int) : Str := Txt.join " " (wd :: ns.map txtOf)
def spShown (K : PySem.W.Frag) : Sp := fun vs H Q _ => ∃ (a : Addr) (wd : Str) (ns : List Int), vs = [.ref a] ∧ SqT K H a (.str wd :: ns.map V.int) ∧ wd.length ≤ 10 ∧ ns.length ≤ 5 ∧ (∀ n ∈ ns, 0 ≤ n ∧ n < 1000000) ∧ ∀ H', Same H H' → Q (.str (rowText wd ns)) H'
theorem txt_len {n : Int} (h0 : 0 ≤ n) (h1 : n < 1000000) : (txtOf n).length ≤ 6 := by
  have e : n = ((n.toNat : Nat) : Int) := (Int.toNat_of_nonneg h0).symm
  unfold txtOf
  rw [e]
  have q : (TL.tl (Str.ofString (toString ((n.toNat : Nat) : Int)))).length ≤ 6 := by
    rw [TL.tl_num]
    exact TL.numL_len (by decide) (by omega)
  exact q
theorem log_small {n : Int} (h0 : 0 ≤ n) (h1 : n < 1000000) : n.natAbs.log2 < 1920 := by
  have h : n.natAbs < 2 ^ 20 := by omega
  rcases Nat.eq_zero_or_pos n.natAbs with e | e
  · rw [e]; decide
  · have := (Nat.log2_lt (by omega)).mpr h
    omega
theorem txts_size : ∀ l : List Int, (∀ n ∈ l, 0 ≤ n ∧ n < 1000000) → ((l.map txtOf).map (·.length)).sum ≤ 6 * l.length := by
  intro l
  induction l with
  | nil => intro _; simp
  | cons n l ih =>
    intro h
    have h2 := txt_len (h n (List.mem_cons_self)).1 (h n (List.mem_cons_self)).2
    have h3 := ih fun m hm => h m (List.mem_cons_of_mem _ hm)
    simp only [List.map_cons, List.sum_cons, List.length_cons]
    omega
abbrev s_shown : Stmt := top 6
abbrev N_shown : List Str := ["row", "part"]
theorem S_shown : FnScope N_shown ["row"] (defScope s_shown) := ⟨rfl, rfl, rfl, by decide +kernel, rfl, by decide +kernel, by decide +kernel⟩

theorem c_shown (T : Txt K w mg) (D : DefAt K "shown" s_shown) : Cal P w K mg base CX0 1 "shown" (spShown K) := by
  have S := S_shown
  refine cal_of T.toTop D S (fun _ _ _ _ _ _ us hl => match us, hl with | [_], _ => rfl) (fun vs H Q E h => ?_) (fun f cdv A outer s H vs Q E hr h => ?_)
  · obtain ⟨a, wd, ns, rfl, _⟩ := h
    rfl
  · obtain ⟨a, wd, ns, rfl, hT, hw, hl, hb, q⟩ := h
    refine ⟨_, (pss_one (ps_ret (pe_join pe_str (pe_lc (own := [("part", 1)]) (g := gName 1) (tt := tYes) rfl S.nd (pi_tup (pv 0)) (blkOk_by (own := [("part", 1)]) (N := N_shown) (sc := defScope s_shown) (by decide +kernel)) (fun _ _ _ _ _ => pg_name (i := 1) S.nd rfl (Or.inl rfl)) (fun _ _ _ _ _ => pts_nil) (fun _ _ _ _ _ => (pe_callTy (CallR.or SkE.call_str_str call_str_int) (by rfl) T.str (by decide +kernel) (pa_cons (pv 1) pa_nil))))))), ?_⟩
    refine ⟨⟨_, rfl⟩, _, rfl, a, rfl, ⟨_, hT⟩, fun Dl hD => lc_ft (fun x => some (.str (match x with | .str z => z | .int n => txtOf n | _ => Str.empty))) hD hT (small1000 (by simp; omega)) (fun i x H' hi s1 k1 k0 h1 h0 => ?_) (fun H' s1 h1 => ?_)⟩
    · refine ⟨rfl, _, rfl, ?_⟩
      cases i with
      | zero =>
        simp only [List.getElem?_cons_zero, Option.some.injEq] at hi
        subst hi
        exact .inl ⟨wd, rfl, h1 _ _ rfl (Same.refl _)⟩
      | succ i =>
        simp only [List.getElem?_cons_succ, List.getElem?_map] at hi
        cases e : ns[i]? with
        | none => rw [e] at hi; cases hi
        | some n =>
          rw [e] at hi
          simp only [Option.map_some, Option.some.injEq] at hi
          subst hi
          have hm := hb n (List.mem_of_getElem? e)
          exact .inr ⟨n, rfl, log_small hm.1 hm.2, h1 _ _ rfl (Same.refl _)⟩
    · rw [fm_some, show ((V.str wd :: ns.map V.int).map fun x => V.str (match x with | .str z => z | .int n => txtOf n | _ => Str.empty)) = ((wd :: ns.map txtOf).map V.str) by simp] at h1
      refine ⟨" ", Dl, wd :: ns.map txtOf, rfl, rfl, .inl (SqL.of h1), ?_, q _ s1⟩
      have h4 := txts_size ns hb
      have h5 : (" " : Str).length = 1 := rfl
      simp only [List.map_cons, List.sum_cons, List.length_cons, List.length_map, h5]
      omega

def intOf (p : Str) : Int := (PySem.intText? p).getD 0
def parseRow (z : Str) : Option (Str × List Int) := match Txt.split z " " with
  | [] => none
  | wd :: ps => match shapeOf wd with
    | none => none
    | some sh => if ps.length = sh.length ∧ ps.all isNum = true then some (wd, ps.map intOf) else none
def spReadRow (CB : Addr) : Sp := fun vs H Q E => ∃ z : Str, vs = [.str z] ∧ z.length ≤ 1000 ∧
  (∀ wd ns, parseRow z = some (wd, ns) → ∀ H' p, Same H H' → H p = none → H' p = some (.tup (.str wd :: ns.map V.int)) → Q (.ref p) H') ∧ (parseRow z = none → ∀ H', Same H H' → E (.ref CB) none H')
theorem spl_sizes : ∀ (l acc : List Nat), TL.spl [32] 0 acc l ≠ [] ∧ (TL.spl [32] 0 acc l).length ≤ l.length + 1 ∧ ∀ p ∈ TL.spl [32] 0 acc l, p.length ≤ acc.length + l.length
  | [], acc => by
    rw [TL.spl_nil]
    simp
  | c :: r, acc => by
    by_cases h : TL.pre [32] (c :: r) = true
    · rw [TL.spl_hit h]
      obtain ⟨_, h2, h3⟩ := spl_sizes r []
      have e : ([32] : List Nat).length - 1 = 0 := rfl
      rw [e]
      refine ⟨by simp, by simp only [List.length_cons]; omega, fun p hp => ?_⟩
      rcases List.mem_cons.mp hp with rfl | hp
      · omega
      · have := h3 p hp
        simp only [List.length_nil, List.length_cons] at this ⊢
        omega
    · rw [TL.spl_miss (by simpa using h)]
      obtain ⟨h1, h2, h3⟩ := spl_sizes r (acc ++ [c])
      refine ⟨h1, by simp only [List.length_cons]; omega, fun p hp => ?_⟩
      have := h3 p hp
      simp only [List.length_append, List.length_cons, List.length_nil] at this ⊢
      omega
theorem split_tl (z : Str) : (Txt.split z " ").map TL.tl = TL.spl [32] 0 [] (TL.tl z) := TL.split_spl z " " (by decide) (TL.kind_ok (by decide +kernel))
theorem split_sizes (z : Str) : ∃ wd ps, Txt.split z " " = wd :: ps ∧ ps.length ≤ z.length ∧ wd.length ≤ z.length ∧ ∀ p ∈ ps, p.length ≤ z.length := by
  obtain ⟨h1, h2, h3⟩ := spl_sizes (TL.tl z) []
  rw [← split_tl] at h1 h2 h3
  have hz : (TL.tl z).length = z.length := rfl
  cases e : Txt.split z " " with
  | nil => rw [e] at h1; exact absurd rfl h1
  | cons wd ps =>
    rw [e] at h2 h3
    have hl : ∀ p ∈ wd :: ps, p.length ≤ z.length := fun p hp => by
      have q := h3 (TL.tl p) (List.mem_map.mpr ⟨p, hp, rfl⟩)
      have hp2 : (TL.tl p).length = p.length := rfl
      simp only [List.length_nil] at q
      omega
    refine ⟨wd, ps, rfl, ?_, hl wd List.mem_cons_self, fun p hp => hl p (List.mem_cons_of_mem _ hp)⟩
    simp only [List.length_map, List.length_cons] at h2
    omega
theorem isNum_parts {p : Str} (h : isNum p = true) : Txt.isascii p = true ∧ Txt.isdigit p = true ∧ p.length ≤ 6 := by
  unfold isNum at h
  simp only [Bool.and_eq_true, Bool.or_eq_true, decide_eq_true_eq] at h
  obtain ⟨⟨h1, h2⟩, h3⟩ := h
  refine ⟨h1, h2, ?_⟩
  rcases h3 with h3 | h3
  · subst h3; decide
  · exact h3.1
theorem digit_ascii {c : Nat} (h : Unicode.isDigit c = true) (h2 : c < 128) : 48 ≤ c ∧ c ≤ 57 := by
  have : ∀ c, c < 128 → Unicode.isDigit c = true → 48 ≤ c ∧ c ≤ 57 := by decide +kernel
  exact this c h2 h
theorem isNum_digits {p : Str} (h : isNum p = true) : p.cps.toList ≠ [] ∧ NumText.AllDigits p.cps.toList := by
  obtain ⟨h1, h2, _⟩ := isNum_parts h
  unfold Txt.isascii at h1
  unfold Txt.isdigit at h2
  simp only [Bool.and_eq_true, decide_eq_true_eq] at h2
  obtain ⟨h2, h3⟩ := h2
  refine ⟨fun e => ?_, fun c hc => ?_⟩
  · have : p.length = p.cps.toList.length := by simp [Str.length]
    rw [e] at this
    simp at this
    omega
  · have a1 := (Array.all_eq_true_iff_forall_mem.mp h1) c (by simpa using hc)
    have a2 := (Array.all_eq_true_iff_forall_mem.mp h3) c (by simpa using hc)
    exact digit_ascii a2 (by simpa using a1)
theorem isNum_int {p : Str} (h : isNum p = true) : PySem.intText? p = some (intOf p) := by
  obtain ⟨h1, h2⟩ := isNum_digits h
  have e := intText_digits h2 h1 (Nat.le_trans (isNum_parts h).2.2 (by decide))
  unfold intOf
  rw [e]
  rfl
theorem app_sz {a b : Str} {n m k : Nat} (ha : a.length ≤ n) (hb : b.length ≤ m) (h : n + m ≤ k) : (a ++ b).length ≤ k := by
  have e : (a ++ b).length = a.length + b.length := by
    show (a.cps ++ b.cps).size = a.cps.size + b.cps.size
    exact Array.size_append
  omega
theorem parse_no {z wd : Str} {ps : List Str} (es : Txt.split z " " = wd :: ps) (h : shapeOf wd = none) : parseRow z = none := by
  unfold parseRow; rw [es]; simp only [h]
theorem parse_bad {z wd : Str} {ps sh : List Str} (es : Txt.split z " " = wd :: ps) (h : shapeOf wd = some sh) (hb : ¬ (ps.length = sh.length ∧ ps.all isNum = true)) : parseRow z = none := by
  unfold parseRow; rw [es]; simp only [h, if_neg hb]
theorem parse_yes {z wd : Str} {ps sh : List Str} (es : Txt.split z " " = wd :: ps) (h : shapeOf wd = some sh) (hb : ps.length = sh.length ∧ ps.all isNum = true) : parseRow z = some (wd, ps.map intOf) := by
  unfold parseRow; rw [es]; simp only [h, if_pos hb]
abbrev s_read_row : Stmt := top 7
abbrev N_read_row : List Str := ["line", "word", "parts", "numbers", "part"]
theorem S_read_row : FnScope N_read_row ["line"] (defScope s_read_row) := ⟨rfl, rfl, rfl, by decide +kernel, rfl, by decide +kernel, by decide +kernel⟩

theorem c_read_row {dS CB : Addr} (T : Txt K w mg) (Z : Shapes K w mg dS) (X_BadRow : ExcT K mg "BadRow" CB) (gFigures : ∃ t, mg "FIGURES" = some (.int 6 t)) (D : DefAt K "read_row" s_read_row) (C__is_number : Cal P w K mg base CX0 1 "_is_number" spIsNumber) : Cal P w K mg base (L2.CX P w) 2 "read_row" (spReadRow CB) := by
  have S := S_read_row
  obtain ⟨tF, gFigures⟩ := gFigures
  obtain ⟨es, n, dShapes⟩ := Z.d
  have gShapes := Z.g
  refine cal_ofX T.toTop D S (fun _ _ _ _ _ _ us hl => match us, hl with | [_], _ => rfl) (fun vs H Q E h => ?_) (fun f cdv A outer s H vs Q E hr h => ?_)
  · obtain ⟨v, rfl, _⟩ := h
    rfl
  · obtain ⟨z, rfl, hz, hq, he⟩ := h
    obtain ⟨wd, ps, es, hn, hw, hp⟩ := split_sizes z
    refine ⟨_, (pss_cons (ps_asg (pe_split (pv 0) pe_str) (pg_star (i := 1) (j := 2) rfl S.nd rfl (Or.inl rfl) rfl (Or.inl rfl)))
  (pss_cons (ps_if (pt_cmpR (op_notIn_kd dShapes) (pv 1) ((pe_glob (v := .ref dS) rfl gShapes rfl)) (by with_unfolding_all rfl)) (pss_one (ps_raise rfl (takes_of rfl rfl rfl rfl) (SkE.pmk_own1 PySem.F.excBase_ValueError X_BadRow.x X_BadRow.g X_BadRow.k (raises_own X_BadRow.b X_BadRow.t) rfl pe_str))) pss_nil)
  (pss_cons (ps_if (pt_cmpR op_ne (pe_callB call_len_seq (by rfl) T.len PySem.boot_len (pa_cons (pv 2) pa_nil)) (pe_callB call_len_seq (by rfl) T.len PySem.boot_len (pa_cons (pe_ix ix_kdict ((pe_glob (v := .ref dS) rfl gShapes rfl)) (pv 1) (fun _ _ => rfl)) pa_nil)) (nomark _)) (pss_one (ps_raise rfl (takes_of rfl rfl rfl rfl) (SkE.pmk_own1 PySem.F.excBase_ValueError X_BadRow.x X_BadRow.g X_BadRow.k (raises_own X_BadRow.b X_BadRow.t) rfl (pe_joined (.cons pe_str (.cons (pe_fmt (pv 1)) (.cons pe_str (.cons (pe_fmt (pe_callB call_len_seq (by rfl) T.len PySem.boot_len (pa_cons (pe_ix ix_kdict ((pe_glob (v := .ref dS) rfl gShapes rfl)) (pv 1) (fun _ _ => rfl)) pa_nil))) (.cons pe_str .nil))))))))) pss_nil)
  (pss_cons (ps_if (pt_not (pt_val (pe_callB (cr_all rfl) (by rfl) T.all (by decide +kernel) (pa_cons (pe_lc (own := [("part", 4)]) (g := gName 4) (tt := tYes) rfl S.nd (pi_list (pv 2)) (blkOk_by (own := [("part", 4)]) (N := N_read_row) (sc := defScope s_read_row) (by decide +kernel)) (fun _ _ _ _ _ => pg_name (i := 4) S.nd rfl (Or.inl rfl)) (fun _ _ _ _ _ => pts_nil) (fun _ _ _ _ _ => (pe_c C__is_number hr (by decide) rfl (pa_cons (pv 4) pa_nil)))) pa_nil)))) (pss_one (ps_raise rfl (takes_of rfl rfl rfl rfl) (SkE.pmk_own1 PySem.F.excBase_ValueError X_BadRow.x X_BadRow.g X_BadRow.k (raises_own X_BadRow.b X_BadRow.t) rfl (pe_joined (.cons pe_str (.cons (pe_fmt ((pe_glob (v := .int 6) rfl gFigures ⟨_, rfl⟩))) (.cons pe_str .nil))))))) pss_nil)
  (pss_cons (ps_setLc (i := 3) (own := [("part", 4)]) (g := gName 4) (tt := tYes) rfl S.nd rfl rfl (sw_true rfl rfl rfl (by decide +kernel)) (pi_list (pv 2)) (blkOk_by (own := [("part", 4)]) (N := N_read_row) (sc := defScope s_read_row) (by decide +kernel)) (fun _ _ _ _ _ => pg_name (i := 4) S.nd rfl (Or.inl rfl)) (fun _ _ _ _ _ => pts_nil) (fun _ _ _ _ _ => (pe_callTy call_int_str (by rfl) T.int (by decide +kernel) (pa_cons (pv 4) pa_nil))))
  (pss_one (ps_ret (pe_tup (pa_cons (pv 1) (StX.pa_star (pv 3) pa_nil)))))))))), ?_⟩
    refine ⟨_, rfl, ⟨_, rfl⟩, _, _, rfl, rfl, rfl, Nat.le_trans (Nat.add_le_add_right hz 2) (by decide), fun p1 np1 => ?_⟩
    rw [es]
    refine ⟨p1, _, _, rfl, SqL.of upd_same, by rw [List.length_map]; omega, fun p2 np2 => ?_⟩
    have s2 := (Same.new np1).more np2 (o := .lst (ps.map V.str))
    cases eS : shapeOf wd with
    | none => exact ⟨_, rfl, _, _, rfl, rfl, Z.no _ eS, _, rfl, he (parse_no es eS) _ s2⟩
    | some sh =>
      obtain ⟨t, hk, hT⟩ := Z.get eS
      obtain ⟨t', eN, _⟩ := Z.yes _ _ eS
      have hlen := shape_len eS
      have hword := shape_word eS
      refine ⟨_, rfl, _, _, rfl, rfl, eN, false, rfl, ?_⟩
      refine ⟨_, rfl, p2, _, rfl, .inl (SqL.of upd_same), _, rfl, _, _, _, rfl, rfl, hk, t, _, rfl, .inr (hT _), rfl, ?_⟩
      rw [List.length_map, List.length_map]
      by_cases hc : ps.length = sh.length
      · refine ⟨false, congrArg V.bl (by simp [hc]), ?_⟩
        refine ⟨_, rfl, p2, rfl, ⟨_, SqL.of upd_same⟩, fun p3 np3 => lc_fl (fun x => some (.bl (match x with | .str p => isNum p | _ => false))) np3 (SqL.of upd_same) (by rw [List.length_map]; exact small1000 (by omega)) (fun i x H' hi s3 k1 k0 h1 h0 => ?_) (fun H' s3 h3 => ?_)⟩
        · obtain ⟨p, hm, rfl⟩ := List.mem_map.mp (List.mem_of_getElem? hi)
          exact ⟨rfl, _, rfl, p, rfl, Nat.le_trans (hp p hm) (Nat.le_trans hz (by decide)), h1 _ _ rfl (Same.refl _)⟩
        · rw [fm_some, List.map_map, show ps.map ((fun x => V.bl (match x with | .str p => isNum p | _ => false)) ∘ V.str) = (ps.map isNum).map V.bl by rw [List.map_map]; rfl] at h3
          refine ⟨p3, ps.map isNum, rfl, SqL.of h3, ?_⟩
          have ea : (ps.map isNum).all id = ps.all isNum := by simp
          rw [ea]
          have s4 := s2.trans s3
          cases hall : ps.all isNum with
          | false =>
            refine ⟨false, rfl, ?_⟩
            refine ⟨_, rfl, sz_ok rfl, ?_⟩
            refine .inr ⟨6, rfl, by decide, ?_⟩
            refine ⟨_, rfl, by decide +kernel, _, rfl, by decide +kernel, he (parse_bad es eS (by simp [hall])) _ s4⟩
          | true =>
            refine ⟨true, rfl, ?_⟩
            have hall' : ∀ p ∈ ps, isNum p = true := List.all_eq_true.mp hall
            refine ⟨_, rfl, p2, rfl, ⟨_, SqL.of (s3 _ _ upd_same)⟩, fun p4 np4 => lc_fl (fun x => some (.int (match x with | .str p => intOf p | _ => 0))) np4 (SqL.of (s3 _ _ upd_same)) (by rw [List.length_map]; exact small1000 (by omega)) (fun i x H' hi s3 k1 k0 h1 h0 => ?_) (fun H5 s5 h5 => ?_)⟩
            · obtain ⟨p, hm, rfl⟩ := List.mem_map.mp (List.mem_of_getElem? hi)
              exact ⟨rfl, _, rfl, p, _, rfl, isNum_int (hall' p hm), Nat.le_trans (isNum_parts (hall' p hm)).2.2 (by decide), h1 _ _ rfl (Same.refl _)⟩
            · rw [fm_some, List.map_map, show ps.map ((fun x => V.int (match x with | .str p => intOf p | _ => 0)) ∘ V.str) = (ps.map intOf).map V.int by rw [List.map_map]; rfl] at h5
              have s6 := s4.trans s5
              refine ⟨_, rfl, _, rfl, p4, _, rfl, .inr (SqL.of h5), ?_⟩
              refine ⟨?_, fun p6 np6 => hq _ _ (parse_yes es eS ⟨hc, hall⟩) _ p6 (s6.more np6) (s6.free np6) (by rw [upd_same, List.append_nil])⟩
              simp only [List.length_cons, List.length_append, List.length_map, List.length_nil]
              exact Nat.le_trans (by omega : _ ≤ 1003) (by decide)
      · refine ⟨true, congrArg V.bl (by simp; omega), ?_⟩
        refine ⟨_, rfl, by decide +kernel, ?_⟩
        refine ⟨_, rfl, .inl ⟨wd, rfl, Nat.le_trans hword (by decide), wd, rfl, app_sz (n := 7) (m := 5) (by decide +kernel) hword (by decide), ?_⟩⟩
        have g1 : (Str.empty ++ Str.ofString "behind " ++ wd).length ≤ 12 := app_sz (n := 7) (m := 5) (by decide +kernel) hword (by decide)
        refine ⟨_, rfl, app_sz (n := 12) (m := 7) g1 (by decide +kernel) (by decide), ?_⟩
        have g2 : (Str.empty ++ Str.ofString "behind " ++ wd ++ Str.ofString " stand ").length ≤ 19 := app_sz (n := 12) (m := 7) g1 (by decide +kernel) (by decide)
        refine ⟨_, rfl, _, _, _, rfl, rfl, hk, t, _, rfl, .inr (hT _), .inr ⟨_, rfl, log_small (by simp) (by simp; omega), _, rfl, ?_, ?_⟩⟩
        · exact app_sz (n := 19) (m := 6) g2 (txt_len (by simp) (by simp; omega)) (by decide)
        · refine ⟨_, rfl, app_sz (n := 25) (m := 50) (app_sz (n := 19) (m := 6) g2 (txt_len (by simp) (by simp; omega)) (by decide)) (by decide +kernel) (by decide), he (parse_bad es eS (by simp [hc])) _ s2⟩

def wordsL : List Str := ["set", "copy", "add", "sub", "fetch", "store", "less", "jump", "tell"]
def manysL : List Int := [2, 2, 3, 3, 2, 2, 3, 1, 1]
theorem words_shape : ∀ i, i < 9 → ∃ sh, shapeOf (wordsL.getD i Str.empty) = some sh ∧ (sh.length : Int) = manysL.getD i 0 := by
  intro i hi
  have h : ∀ i, i < 9 → ((shapeOf (wordsL.getD i Str.empty)).map fun sh => (sh.length : Int)) = some (manysL.getD i 0) := by decide +kernel
  have e := h i hi
  cases e2 : shapeOf (wordsL.getD i Str.empty) with
  | none => rw [e2] at e; cases e
  | some sh => rw [e2] at e; exact ⟨sh, rfl, Option.some.inj e⟩
theorem words_free : ∀ i, i < 9 → 32 ∉ TL.tl (wordsL.getD i Str.empty) := by decide +kernel
theorem numL_head {n : Nat} (h : 0 < n) : ∃ d r, TL.numL n = d :: r ∧ d ≠ 48 := by
  induction n using Nat.strongRecOn with
  | ind n ih =>
    by_cases h10 : n < 10
    · exact ⟨48 + n, [], TL.numL_lt h10, by omega⟩
    · obtain ⟨d, r, e, hd⟩ := ih (n / 10) (by omega) (by omega)
      exact ⟨d, r ++ [48 + n % 10], by rw [TL.numL_step (by omega), e]; rfl, hd⟩
theorem tl_txt {n : Int} (h0 : 0 ≤ n) : TL.tl (txtOf n) = TL.numL n.toNat := by
  have e : n = ((n.toNat : Nat) : Int) := (Int.toNat_of_nonneg h0).symm
  unfold txtOf
  rw [e, TL.tl_num, Int.toNat_natCast]
theorem digit_is : ∀ c, 48 ≤ c → c ≤ 57 → Unicode.isDigit c = true := by
  have : ∀ c, c < 58 → 48 ≤ c → Unicode.isDigit c = true := by decide +kernel
  exact fun c h1 h2 => this c (by omega) h1
theorem isNum_txt {n : Int} (h0 : 0 ≤ n) (h1 : n < 1000000) : isNum (txtOf n) = true := by
  have hd : NumText.AllDigits (TL.tl (txtOf n)) := by rw [tl_txt h0]; exact TL.numL_digits _
  have hne : TL.tl (txtOf n) ≠ [] := by rw [tl_txt h0]; exact TL.numL_ne _
  have hl := txt_len h0 h1
  have h2 : Txt.isascii (txtOf n) = true := by
    unfold Txt.isascii
    refine Array.all_eq_true_iff_forall_mem.mpr fun c hc => ?_
    have := hd c (by simpa [TL.tl] using hc)
    simp
    omega
  have h3 : Txt.isdigit (txtOf n) = true := by
    unfold Txt.isdigit
    simp only [Bool.and_eq_true, decide_eq_true_eq]
    refine ⟨?_, Array.all_eq_true_iff_forall_mem.mpr fun c hc => ?_⟩
    · have : (txtOf n).length = (TL.tl (txtOf n)).length := rfl
      have := List.length_pos_iff.mpr hne
      omega
    · have := hd c (by simpa [TL.tl] using hc)
      exact digit_is c this.1 this.2
  unfold isNum
  rw [h2, h3]
  simp only [Bool.and_self, Bool.true_and, Bool.or_eq_true, decide_eq_true_eq, Bool.and_eq_true, Bool.not_eq_true']
  by_cases hz : n = 0
  · subst hz
    exact .inl (by decide +kernel)
  · refine .inr ⟨hl, ?_⟩
    obtain ⟨d, r, e, hd48⟩ := numL_head (n := n.toNat) (by omega)
    have e2 : TL.tl (txtOf n) = d :: r := by rw [tl_txt h0, e]
    cases hs : Txt.startswith (txtOf n) "0" with
    | false => rfl
    | true =>
      exfalso
      unfold Txt.startswith at hs
      simp only [Bool.and_eq_true] at hs
      have h5 := hs.2
      unfold Builtin.Str.subAt at h5
      have h6 : (txtOf n).cps.extract 0 (0 + ("0" : Str).length) = ("0" : Str).cps := by simpa using h5
      have h7 := congrArg Array.toList h6
      rw [Array.toList_extract, show (txtOf n).cps.toList = d :: r from e2] at h7
      have h8 : [d] = [48] := h7
      exact hd48 (List.cons.inj h8).1
theorem intOf_txt {n : Int} (h0 : 0 ≤ n) (h1 : n < 1000000) : intOf (txtOf n) = n := by
  unfold intOf txtOf
  rw [PySem.W.KIN.num_reads h0 (by omega)]
  rfl
theorem parse_text {i : Nat} (hi : i < 9) {ns : List Int} (hl : (ns.length : Int) = manysL.getD i 0) (hb : ∀ n ∈ ns, 0 ≤ n ∧ n < 1000000) : parseRow (rowText (wordsL.getD i Str.empty) ns) = some (wordsL.getD i Str.empty, ns) := by
  obtain ⟨sh, e1, e2⟩ := words_shape i hi
  have es : Txt.split (rowText (wordsL.getD i Str.empty) ns) " " = wordsL.getD i Str.empty :: ns.map txtOf := by
    refine TL.split_join (s := 32) (S := []) rfl (by decide +kernel) (by simp) fun p hp => ?_
    rcases List.mem_cons.mp hp with rfl | hp
    · exact words_free i hi
    · obtain ⟨n, hn, rfl⟩ := List.mem_map.mp hp
      rw [tl_txt (hb n hn).1]
      exact TL.numL_free (.inl (by decide))
  have q := parse_yes es e1 ⟨by rw [List.length_map]; omega, List.all_eq_true.mpr fun p hp => by
    obtain ⟨n, hn, rfl⟩ := List.mem_map.mp hp
    exact isNum_txt (hb n hn).1 (hb n hn).2⟩
  rw [q, List.map_map]
  congr 2
  have : ns.map (intOf ∘ txtOf) = ns.map id := List.map_congr_left fun n hn => intOf_txt (hb n hn).1 (hb n hn).2
  rw [this, List.map_id]

def numsOf (ns : List Int) (m : Nat) : List Int := (List.range m).map fun (k : Nat) => numberBy (cellAt ns (1 + (k : Int)))
theorem numsOf_bounds (ns : List Int) (m : Nat) : ∀ n ∈ numsOf ns m, 0 ≤ n ∧ n < 1000000 := fun n h => by
  obtain ⟨k, _, rfl⟩ := List.mem_map.mp h
  exact ⟨numberBy_lo _, numberBy_hi _⟩
theorem joinL_len (S : List Nat) : ∀ l : List (List Nat), (TL.joinL S l).length ≤ (l.map (·.length)).sum + l.length * S.length
  | [] => by simp [TL.joinL]
  | [p] => by simp [TL.joinL]
  | p :: p2 :: l => by
    have ih := joinL_len S (p2 :: l)
    have e : TL.joinL S (p :: p2 :: l) = p ++ (S ++ TL.joinL S (p2 :: l)) := by simp [TL.joinL]
    rw [e]
    simp only [List.length_append, List.map_cons, List.sum_cons, List.length_cons] at ih ⊢
    have : (l.length + 1 + 1) * S.length = (l.length + 1) * S.length + S.length := by rw [Nat.add_mul (l.length + 1) 1, Nat.one_mul]
    omega
theorem rowText_len {wd : Str} {zs : List Int} (hw : wd.length ≤ 10) (hl : zs.length ≤ 5) (hb : ∀ n ∈ zs, 0 ≤ n ∧ n < 1000000) : (rowText wd zs).length ≤ 1000 := by
  have e : (TL.tl (rowText wd zs)).length = (rowText wd zs).length := rfl
  rw [← e]
  unfold rowText
  rw [TL.join_eq, TL.tl_join]
  have h := joinL_len (TL.tl " ") ((wd :: zs.map txtOf).map TL.tl)
  have h4 := txts_size zs hb
  have h5 : (TL.tl " ").length = 1 := rfl
  have h6 : (((wd :: zs.map txtOf).map TL.tl).map (·.length)).sum = wd.length + ((zs.map txtOf).map (·.length)).sum := by
    rw [List.map_map, List.map_cons, List.sum_cons]
    rfl
  rw [h6, h5] at h
  simp only [List.length_map, List.length_cons] at h
  omega
abbrev s_law : Stmt := top 14
abbrev N_law : List Str := ["_law_script", "_law_word", "_law_many", "_law_k", "_law_numbers", "_law_row", "_law_text", "_law_found", "_law_number"]
theorem S_law : FnScope N_law ["_law_script"] (defScope s_law) := ⟨rfl, rfl, rfl, by decide +kernel, rfl, by decide +kernel, by decide +kernel⟩

theorem ok_law {CB : Addr} (T : Txt K w mg) (D : DefAt K "law" s_law)
    (c_cell : ∀ base, Cal P w K mg base CX0 1 "_law_cell_at" (spCellAt K)) (c_num : ∀ base, Cal P w K mg base CX0 2 "_law_number_by" spNumberBy) (c_whole : ∀ base, Cal P w K mg base CX0 1 "_law_whole" (spWhole K))
    (c_shown : ∀ base, Cal P w K mg base CX0 1 "shown" (spShown K)) (c_read : ∀ base, Cal P w K mg base (L2.CX P w) 2 "read_row" (spReadRow CB)) : LawOk P w K mg 4 := by
  have S := S_law
  refine law_of T.toTop D S (fun _ _ _ _ _ _ _ => rfl) (fun base f cdv A outer s H a ns Q E hr hS hlen q => ?_)
  have C__law_cell_at := c_cell base
  have C__law_number_by := c_num base
  have C__law_whole := c_whole base
  have C_shown := c_shown base
  have C_read_row := c_read base
  refine ⟨_, (pss_cons (ps_set (i := 1) S.nd rfl (Or.inl rfl) (pe_ix ix_list (pe_lst (pa_cons pe_str (pa_cons pe_str (pa_cons pe_str (pa_cons pe_str (pa_cons pe_str (pa_cons pe_str (pa_cons pe_str (pa_cons pe_str (pa_cons pe_str pa_nil)))))))))) (pe_op op_mod (pe_c C__law_cell_at hr (by decide) rfl (pa_cons (pv 0) (pa_cons pe_int pa_nil))) pe_int) (fun _ _ => rfl)))
  (pss_cons (ps_set (i := 2) S.nd rfl (Or.inl rfl) (pe_ix ix_list (pe_lst (pa_cons pe_int (pa_cons pe_int (pa_cons pe_int (pa_cons pe_int (pa_cons pe_int (pa_cons pe_int (pa_cons pe_int (pa_cons pe_int (pa_cons pe_int pa_nil)))))))))) (pe_op op_mod (pe_c C__law_cell_at hr (by decide) rfl (pa_cons (pv 0) (pa_cons pe_int pa_nil))) pe_int) (fun _ _ => rfl)))
  (pss_cons (ps_setLc (i := 4) (own := [("_law_k", 3)]) (g := gName 3) (tt := tYes) rfl S.nd rfl rfl (sw_true rfl rfl rfl (by decide +kernel)) (pi_range1 rfl T.range (pa_cons (pv 2) pa_nil)) (blkOk_by (own := [("_law_k", 3)]) (N := N_law) (sc := defScope s_law) (by decide +kernel)) (fun _ _ _ _ _ => pg_name (i := 3) S.nd rfl (Or.inl rfl)) (fun _ _ _ _ _ => pts_nil) (fun _ _ _ _ _ => (pe_c C__law_number_by hr (by decide) rfl (pa_cons (pe_c C__law_cell_at hr (by decide) rfl (pa_cons (pv 0) (pa_cons (pe_op op_add pe_int (pv 3)) pa_nil))) pa_nil))))
  (pss_cons (ps_set (i := 5) S.nd rfl (Or.inl rfl) (pe_op op_catA (pe_tup (pa_cons (pv 1) pa_nil)) (pe_tupleOf (by rfl) T.tuple (pv 4))))
  (pss_cons (ps_set (i := 6) S.nd rfl (Or.inl rfl) (pe_c C_shown hr (by decide) rfl (pa_cons (pv 5) pa_nil)))
  (pss_cons (ps_if (PW.pt (pw_or (pt_not (pt_val (pe_callB call_isi (by rfl) T.isinstance (by decide +kernel) (pa_cons (pv 6) (pa_cons ((pe_bltn (v := .ty "str") (u := .type "str") rfl T.str (by decide +kernel) rfl)) pa_nil))))) (pw_or1 (pt_cmpR op_ne (pv 6) (pe_join pe_str (pe_op op_cat (pe_lst (pa_cons (pv 1) pa_nil)) (pe_lc (own := [("_law_number", 8)]) (g := gName 8) (tt := tYes) rfl S.nd (pi_list (pv 4)) (blkOk_by (own := [("_law_number", 8)]) (N := N_law) (sc := defScope s_law) (by decide +kernel)) (fun _ _ _ _ _ => pg_name (i := 8) S.nd rfl (Or.inl rfl)) (fun _ _ _ _ _ => pts_nil) (fun _ _ _ _ _ => (pe_callTy call_str_int (by rfl) T.str (by decide +kernel) (pa_cons (pv 8) pa_nil)))))) (nomark _))))) (pss_one (ps_ret pe_bl)) pss_nil)
  (pss_cons (ps_set (i := 7) S.nd rfl (Or.inl rfl) (pe_c0 C_read_row hr (by decide) rfl (pa_cons (pv 6) pa_nil)))
  (pss_cons (ps_if (PW.pt (pw_or (pt_not (pt_val (pe_callB call_isi (by rfl) T.isinstance (by decide +kernel) (pa_cons (pv 7) (pa_cons ((pe_bltn (v := .ty "tuple") (u := .type "tuple") rfl T.tuple (by decide +kernel) rfl)) pa_nil))))) (pw_or (pt_cmpR op_ne (pe_callB call_len_seq (by rfl) T.len PySem.boot_len (pa_cons (pv 7) pa_nil)) (pe_op op_add pe_int (pv 2)) (nomark _)) (pw_or (pt_not (pt_val (pe_callB call_isi (by rfl) T.isinstance (by decide +kernel) (pa_cons (pe_ix ix_tup (pv 7) pe_int (fun _ _ => rfl)) (pa_cons ((pe_bltn (v := .ty "str") (u := .type "str") rfl T.str (by decide +kernel) rfl)) pa_nil))))) (pw_or1 (pt_cmpR op_ne (pe_ix ix_tup (pv 7) pe_int (fun _ _ => rfl)) (pv 1) (nomark _))))))) (pss_one (ps_ret pe_bl)) pss_nil)
  (pss_cons (ps_for PassesOwn.never rfl (pi_range1 rfl T.range (pa_cons (pv 2) pa_nil)) (pg_name (i := 3) S.nd rfl (Or.inl rfl))
  (pss_one (ps_if (PW.pt (pw_or (pt_not (pt_val (pe_c C__law_whole hr (by decide) rfl (pa_cons (pe_ix ix_tup (pv 7) (pe_op op_add pe_int (pv 3)) (fun _ _ => rfl)) pa_nil)))) (pw_or1 (pt_cmpR op_ne (pe_ix ix_tup (pv 7) (pe_op op_add pe_int (pv 3)) (fun _ _ => rfl)) (pe_ix ix_list (pv 4) (pv 3) (fun _ _ => rfl)) (nomark _))))) (pss_one (ps_ret pe_bl)) pss_nil)))
  (pss_one (ps_ret pe_bl))))))))))), ?_⟩
  refine ⟨sz_ok rfl, fun p1 n1 => ?_⟩
  have s1 := Same.new (o := .lst [V.str "set", V.str "copy", V.str "add", V.str "sub", V.str "fetch", V.str "store", V.str "less", V.str "jump", V.str "tell"]) n1
  refine ⟨_, rfl, a, ns, 0, rfl, s1.seq hS, by decide, _, _, rfl, rfl, (by show (0 : Int) < 9; decide), _, _, _, _, rfl, rfl, SqL.of upd_same, at_strs_mod (ns := wordsL) (cellAt ns 0) (by decide) rfl, ?_⟩
  refine ⟨sz_ok rfl, fun p2 n2 => ?_⟩
  have s2 := s1.more (o := .lst [V.int 2, V.int 2, V.int 3, V.int 3, V.int 2, V.int 2, V.int 3, V.int 1, V.int 1]) n2
  refine ⟨_, rfl, a, ns, 0, rfl, s2.seq hS, by decide, _, _, rfl, rfl, (by show (0 : Int) < 9; decide), _, _, _, _, rfl, rfl, SqL.of upd_same, at_ints_mod (ns := manysL) (cellAt ns 0) (by decide) rfl, ?_⟩
  have hi9 : (cellAt ns 0 % 9).toNat < 9 := by omega
  generalize (cellAt ns 0 % 9).toNat = i9 at hi9
  obtain ⟨sh, e1, e2⟩ := words_shape i9 hi9
  have hsh := shape_len e1
  generalize eM : manysL.getD i9 0 = m at e2
  have hm : m = ((m.toNat : Nat) : Int) := by omega
  -- the numbers
  refine ⟨_, rfl, _, rfl, by omega, by omega, fun p3 n3 => lc_fr (fun k => some (.int (numberBy (cellAt ns (1 + (k : Int)))))) n3 (small1000 (by omega)) (fun k H' hk s3 k1 k0 h1 h0 => ?_) (fun H3 s3 h3 => ?_)⟩
  · refine ⟨rfl, _, rfl, _, rfl, _, _, rfl, rfl, a, ns, _, rfl, (s2.trans s3).seq hS, by omega, _, rfl, fun H'' s4 => h1 _ _ ?_ s4⟩
    simp only [Int.zero_add]
  · rw [fm_some, show ((List.range m.toNat).map fun (k : Nat) => V.int (numberBy (cellAt ns (1 + (k : Int))))) = (numsOf ns m.toNat).map V.int by unfold numsOf; rw [List.map_map]; rfl] at h3
    have s4 := s2.trans s3
    have hb := numsOf_bounds ns m.toNat
    have hl : (numsOf ns m.toNat).length = m.toNat := by unfold numsOf; simp
    generalize numsOf ns m.toNat = zs at h3 hb hl
    have hz0 : zs ≠ [] := fun z => by rw [z] at hl; simp at hl; omega
    clear s3
    -- the row
    refine ⟨_, rfl, sz_ok rfl, fun p4 n4 => ?_⟩
    have s5 := s4.more (o := .tup [.str (wordsL.getD i9 Str.empty)]) n4
    have h4 : upd H3 p4 (.tup [.str (wordsL.getD i9 Str.empty)]) p4 = some (.tup [.str (wordsL.getD i9 Str.empty)]) := upd_same
    have h3' : upd H3 p4 (.tup [.str (wordsL.getD i9 Str.empty)]) p3 = some (.lst (zs.map V.int)) := Same.new n4 _ _ h3
    generalize upd H3 p4 (.tup [.str (wordsL.getD i9 Str.empty)]) = H4 at s5 h4 h3'
    refine ⟨_, rfl, .inl ⟨p3, _, rfl, SqL.of h3', fun p5 n5 => ?_⟩⟩
    have s6 := s5.more (o := .tup (zs.map V.int)) n5
    have h5 : upd H4 p5 (.tup (zs.map V.int)) p5 = some (.tup (zs.map V.int)) := upd_same
    have h4' : upd H4 p5 (.tup (zs.map V.int)) p4 = some (.tup [.str (wordsL.getD i9 Str.empty)]) := Same.new n5 _ _ h4
    have h3'' : upd H4 p5 (.tup (zs.map V.int)) p3 = some (.lst (zs.map V.int)) := Same.new n5 _ _ h3'
    generalize upd H4 p5 (.tup (zs.map V.int)) = H5 at s6 h5 h4' h3''
    refine ⟨p4, p5, _, _, rfl, rfl, SqT.of h4', SqT.of h5, ?_, fun z => by simp at z, fun _ z => by simp at z; exact absurd z hz0, fun _ _ p6 n6 => ?_⟩
    · simp only [List.length_cons, List.length_map, List.length_nil]
      exact Nat.le_trans (by omega : _ ≤ 1000) (by decide)
    have s7 := s6.more (o := .tup ([V.str (wordsL.getD i9 Str.empty)] ++ zs.map V.int)) n6
    have h6 : upd H5 p6 (.tup ([V.str (wordsL.getD i9 Str.empty)] ++ zs.map V.int)) p6 = some (.tup (V.str (wordsL.getD i9 Str.empty) :: zs.map V.int)) := upd_same
    have h3x := Same.new (o := .tup ([V.str (wordsL.getD i9 Str.empty)] ++ zs.map V.int)) n6 _ _ h3''
    generalize upd H5 p6 (.tup ([V.str (wordsL.getD i9 Str.empty)] ++ zs.map V.int)) = H6 at s7 h6 h3x
    -- shown
    have hwl := shape_word e1
    generalize eW : wordsL.getD i9 Str.empty = wd at *
    refine ⟨_, rfl, p6, wd, zs, rfl, SqT.of h6, by omega, by omega, hb, fun H7 t7 => ?_⟩
    have s8 := s7.trans t7
    have h7 := t7 _ _ h3x
    refine ⟨_, rfl, _, _, _, _, _, rfl, .ty _, .base (.str _), kit_ty (r := true) (by decide +kernel), _, rfl, ?_⟩
    refine ⟨_, rfl, ⟨_, rfl⟩, _, rfl, sz_ok rfl, fun p8 n8 => ?_⟩
    have s9 := s8.more (o := .lst [.str wd]) n8
    have h8 : upd H7 p8 (.lst [.str wd]) p8 = some (.lst [.str wd]) := upd_same
    have h3y := Same.new (o := .lst [.str wd]) n8 _ _ h7
    generalize upd H7 p8 (.lst [.str wd]) = H8 at s9 h8 h3y
    refine ⟨_, rfl, p3, rfl, ⟨_, SqL.of h3y⟩, fun p9 n9 => lc_fl (fun x => some (.str (match x with | .int n => txtOf n | _ => Str.empty))) n9 (SqL.of h3y) (by rw [List.length_map]; exact small1000 (by omega)) (fun i x H' hi s3 k1 k0 h1 h0 => ?_) (fun H9 t9 h9 => ?_)⟩
    · obtain ⟨n, hm, rfl⟩ := List.mem_map.mp (List.mem_of_getElem? hi)
      exact ⟨rfl, _, rfl, n, rfl, log_small (hb n hm).1 (hb n hm).2, h1 _ _ rfl (Same.refl _)⟩
    rw [fm_some, List.map_map, show zs.map ((fun x => V.str (match x with | .int n => txtOf n | _ => Str.empty)) ∘ V.int) = (zs.map txtOf).map V.str by rw [List.map_map]; rfl] at h9
    have h8' := t9 _ _ h8
    have h3z := t9 _ _ h3y
    have s10 := s9.trans t9
    refine ⟨p8, p9, _, _, rfl, rfl, h8', h9, ?_, fun p10 n10 => ?_⟩
    · simp only [List.length_cons, List.length_map, List.length_nil]
      exact Nat.le_trans (by omega : _ ≤ 1000) (by decide)
    have s11 := s10.more (o := .lst ([V.str wd] ++ (zs.map txtOf).map V.str)) n10
    have h10 : upd H9 p10 (.lst ([V.str wd] ++ (zs.map txtOf).map V.str)) p10 = some (.lst ((wd :: zs.map txtOf).map V.str)) := upd_same
    have h3w := Same.new (o := .lst ([V.str wd] ++ (zs.map txtOf).map V.str)) n10 _ _ h3z
    generalize upd H9 p10 (.lst ([V.str wd] ++ (zs.map txtOf).map V.str)) = H10 at s11 h10 h3w
    refine ⟨" ", p10, wd :: zs.map txtOf, rfl, rfl, .inl (SqL.of h10), ?_, rfl, false, bl_of (by simp [rowText]), ?_⟩
    · have h4 := txts_size zs hb
      have h5 : (" " : Str).length = 1 := rfl
      simp only [List.map_cons, List.sum_cons, List.length_cons, List.length_map, h5]
      omega
    -- read_row
    have hparse : parseRow (rowText wd zs) = some (wd, zs) := by
      rw [← eW]
      exact parse_text hi9 (by rw [eM]; omega) hb
    refine ⟨_, rfl, rowText wd zs, rfl, ?_, fun wd' ns' e' => ?_, fun z => by rw [hparse] at z; cases z⟩
    · exact rowText_len (by omega) (by omega) hb
    rw [hparse] at e'
    cases e'
    intro H11 p11 t11 n11 h11
    have s12 := s11.trans t11
    have h3v := t11 _ _ h3w
    refine ⟨_, rfl, _, _, _, _, _, rfl, .ty _, .base (.tup h11), kit_ty (r := true) (by decide +kernel), _, rfl, ?_⟩
    refine ⟨_, rfl, p11, _, rfl, .inr (SqT.of h11), _, rfl, _, _, rfl, rfl, rfl, false, bl_of (by simp; omega), ?_⟩
    refine ⟨_, rfl, p11, _, _, _, rfl, rfl, SqT.of h11, at_in (v := .str wd) (by decide) rfl, _, _, _, _, _, rfl, .ty _, .base (.str _), kit_ty (r := true) (by decide +kernel), _, rfl, ?_⟩
    refine ⟨_, rfl, p11, _, _, _, rfl, rfl, SqT.of h11, at_in (v := .str wd) (by decide) rfl, _, rfl, rfl, false, bl_of (by simp), ?_⟩
    -- the numbers, one by one
    refine ⟨_, rfl, _, rfl, by omega, by omega, for_range (n := m.toNat) (fun k σ H' => H' = H11 ∧ ∃ v, σ = [some (.ref a), some (.str wd), some (.int m), v, some (.ref p3), some (.ref p6), some (.str (rowText wd zs)), some (.ref p11), none]) ⟨rfl, _, rfl⟩ (fun k σ H' hk ⟨eH, v, eσ⟩ => ?_) (fun σ H' ⟨eH, v, eσ⟩ => q H')⟩
    subst eH eσ
    have hkz : zs[k]? = some (zs.getD k 0) := by
      rw [List.getD_eq_getElem?_getD, List.getElem?_eq_getElem (by omega)]; rfl
    have hat : atI (V.str wd :: zs.map V.int) (1 + (0 + (k : Int))) = some (.int (zs.getD k 0)) := by
      refine at_in (by omega) ?_
      rw [show (1 + (0 + (k : Int))).toNat = k + 1 by omega, List.getElem?_cons_succ, List.getElem?_map, hkz]; rfl
    refine ⟨_, rfl, _, rfl, _, _, rfl, rfl, p11, _, _, _, rfl, rfl, SqT.of h11, hat, _, "int", rfl, .base (.int _), by decide +kernel, by decide +kernel, _, rfl, ?_⟩
    refine ⟨_, rfl, _, rfl, _, _, rfl, rfl, p11, _, _, _, rfl, rfl, SqT.of h11, hat, _, rfl, _, rfl, p3, _, _, _, rfl, rfl, SqL.of h3v, at_ints (by omega) (by omega), rfl, false, bl_of ?_, ?_⟩
    · simp
    · exact ⟨rfl, _, rfl⟩

theorem isStr_lit (x z : Str) (t : Tok) : (Value.str x t).isStr z = decide (z = x) := by
  have h : (Value.str x t).isStr z = (x == z) := rfl
  rw [h, Bool.eq_iff_iff, beq_iff_eq, decide_eq_true_eq]
  exact eq_comm
/-- a written dict of tuples of texts, entry by entry -/
def TabOk (K : PySem.W.Frag) : List DictEntry → List (Str × List Str) → Prop
  | [], [] => True
  | e :: es, (k, l) :: r => (∃ t a, e.key = .str k t ∧ e.val = .ref a ∧ ∀ H, SqT K H a (l.map V.str)) ∧ e.refKey = false ∧ TabOk K es r
  | _, _ => False
theorem sqt_mk {K : PySem.W.Frag} {a : Addr} {dd : Option Addr} {us : Array Value} {n : Nat} {sl : Array (Option Value)} {xs : List V} (h : K.lookup a = some ⟨.type "tuple", dd, .seq us n, sl⟩) (hz : Nat.ble us.size 1000 = true) (hv : Vals xs us.toList) : ∀ H, SqT K H a xs :=
  fun H => .inr ⟨_, us, n, h, rfl, rfl, sz_ok hz, hv⟩
theorem tab_get {K : PySem.W.Frag} : ∀ {es : List DictEntry} {r : List (Str × List Str)}, TabOk K es r → ∀ z, (r.lookup z = none ∧ es.find? (·.key.isStr z) = none) ∨ ∃ l e a, r.lookup z = some l ∧ es.find? (·.key.isStr z) = some e ∧ e.val = .ref a ∧ ∀ H, SqT K H a (l.map V.str)
  | [], [], _, z => .inl ⟨rfl, rfl⟩
  | e :: es, (k, l) :: r, h, z => by
    obtain ⟨⟨t, a, hk, hv, hs⟩, _, hr⟩ := h
    by_cases hz : z = k
    · subst hz
      refine .inr ⟨l, e, a, by rw [List.lookup_cons]; simp, ?_, hv, hs⟩
      have h1 : e.key.isStr z = true := by rw [hk, isStr_lit]; exact decide_eq_true rfl
      exact List.find?_cons_of_pos (p := fun (x : DictEntry) => x.key.isStr z) h1
    · have e1 : ((k, l) :: r).lookup z = r.lookup z := by
        rw [List.lookup_cons, show (z == k) = false from beq_eq_false_iff_ne.mpr hz]
      have e2 : (e :: es).find? (·.key.isStr z) = es.find? (·.key.isStr z) := by
        have h1 : ¬ e.key.isStr z = true := by rw [hk, isStr_lit]; simp [hz]
        exact List.find?_cons_of_neg (p := fun (x : DictEntry) => x.key.isStr z) h1
      rw [e1, e2]
      exact tab_get hr z
  | [], _ :: _, h, _ => h.elim
  | _ :: _, [], h, _ => h.elim
theorem tab_ref {K : PySem.W.Frag} : ∀ {es : List DictEntry} {r : List (Str × List Str)}, TabOk K es r → es.any (·.refKey) = false
  | [], [], _ => rfl
  | e :: es, (k, l) :: r, h => by
    obtain ⟨_, h2, hr⟩ := h
    rw [List.any_cons, h2, tab_ref hr]
    rfl
  | [], _ :: _, h => h.elim
  | _ :: _, [], h => h.elim
theorem glob_mk {K : PySem.W.Frag} {x : Str} {v : V} {u : Value} (h : PySem.W.nsIn K mainGlobals x = some (some u)) (r : RelV v u) : ∃ u, PySem.W.nsIn K mainGlobals x = some (some u) ∧ RelV v u := ⟨u, h, r⟩
/-- the table of the rows' words, by its nine entries -/
theorem shapes_mk {K : PySem.W.Frag} {w : World} {mg : Str → Option Value} {dS : Addr} {es : Array DictEntry} {n : Nat} (g : mg "SHAPES" = some (.ref dS)) (at_ : K.lookup dS = some ⟨.type "dict", none,   .dict es n, #[]⟩) (low : (dS == sysModules) = false)
    (lit : PySem.W.KeysLit w.params es.toList) (tab : TabOk K es.toList sTab) : Shapes K w mg dS := by
  have hr := tab_ref tab
  have ns1 : ∀ z e, es.toList.find? (·.key.isStr z) = some e → PySem.W.nsIn K dS z = some (some e.val) := fun z e h => by
    unfold PySem.W.nsIn
    rw [at_]
    simp only [h]
  have ns0 : ∀ z, es.toList.find? (·.key.isStr z) = none → PySem.W.nsIn K dS z = some none := fun z h => by
    unfold PySem.W.nsIn
    rw [at_]
    simp only [h, hr]
    rfl
  refine ⟨g, ⟨es, n, at_, lit, low⟩, fun z hz => ?_, fun z l hz => ?_⟩
  · rcases tab_get tab z with ⟨_, h⟩ | ⟨l, e, a, h, _⟩
    · exact ns0 z h
    · rw [show shapeOf z = some l from h] at hz; cases hz
  · rcases tab_get tab z with ⟨h, _⟩ | ⟨l', e, a, h, h2, h3, h4⟩
    · rw [show shapeOf z = none from h] at hz; cases hz
    · rw [show shapeOf z = some l' from h] at hz
      cases hz
      exact ⟨a, by rw [ns1 z e h2, h3], h4⟩

theorem k01_all {dS CB : Addr} (T : Top K mg) (D1 : DefAt K "_law_cell_at" s__law_cell_at) (D2 : DefAt K "_law_mixed" s__law_mixed) (D3 : DefAt K "_law_number_by" s__law_number_by) (D4 : DefAt K "_law_whole" s__law_whole)
    (D5 : DefAt K "_is_number" s__is_number) (D6 : DefAt K "shown" s_shown) (D7 : DefAt K "read_row" s_read_row) (D8 : DefAt K "law" s_law)
    (m1 : PySem.W.nsIn K mainGlobals "len" = some none) (m2 : PySem.W.nsIn K mainGlobals "range" = some none) (m3 : PySem.W.nsIn K mainGlobals "isinstance" = some none) (m4 : PySem.W.nsIn K mainGlobals "all" = some none)
    (m5 : PySem.W.nsIn K mainGlobals "int" = some none) (m6 : PySem.W.nsIn K mainGlobals "str" = some none) (m7 : PySem.W.nsIn K mainGlobals "bool" = some none) (m8 : PySem.W.nsIn K mainGlobals "tuple" = some none)
    (gF : ∃ u, PySem.W.nsIn K mainGlobals "FIGURES" = some (some u) ∧ RelV (.int 6) u) (Z : (mg "SHAPES" = some (.ref dS)) → Shapes K w mg dS) (gS : PySem.W.nsIn K mainGlobals "SHAPES" = some (some (.ref dS)))
    (gB : PySem.W.nsIn K mainGlobals "BadRow" = some (some (.ref CB))) (xB : PySem.W.excIn K CB [.type "ValueError", .type "Exception", .type "BaseException", .type "object"] "ValueError.__new__" = true) (kB : PySem.W.keepIn K (.ref CB) = true)
    (bB : PySem.W.subIn K (.ref CB) (.type "BaseException") = some true) (tB : PySem.W.typeIn K (.ref CB) = some (.type "type")) : LawOk P w K mg 4 := by
  have X : Txt K w mg := ⟨T, T.none m1, T.none m2, T.none m3, T.none m4, T.none m5, T.none m6, T.none m7, T.none m8⟩
  obtain ⟨_, gF, tF, rfl⟩ := gF
  have c1 := fun base => c_cell_at (P := P) (base := base) X D1
  have c2 := fun base => c_mixed (P := P) (base := base) X D2
  have c3 := fun base => c_number_by (P := P) (base := base) X D3 (c2 base)
  have c4 := fun base => c_whole (P := P) (base := base) X D4
  have c5 := fun base => c_is_number (P := P) (base := base) X D5 ⟨tF, T.of gF⟩
  have c6 := fun base => c_shown (P := P) (base := base) X D6
  have c7 := fun base => c_read_row (P := P) (base := base) X (Z (T.of gS)) ⟨T.of gB, xB, kB, bB, tB⟩ ⟨tF, T.of gF⟩ D7 (c5 base)
  exact ok_law X D8 c1 c3 c4 c6 c7

end
end Nl
open PySem PySem.W PyProof.Rows in
set_option maxRecDepth 100000 in
set_option maxHeartbeats 0 in
theorem PySem.Challenge.cw_nearlines_k01_rows_written_holds : PySem.Challenge.rw_nearlines_k01_rows_written.Holds := by
  w_on; o_law; k_head; (case hw => w_witness2)
  k_fill
  refine Nl.walk_end (l := PySem.Challenge.rw_nearlines_k01_rows_written) 4 rfl rfl ⟨rfl, by decide, by decide⟩ rfl (fun w h Y => PySem.W.kIn_of Y) fun w mg T => ?F
  case F =>
    refine' Nl.k01_all T ?D1 ?D2 ?D3 ?D4 ?D5 ?D6 ?D7 ?D8 ?m1 ?m2 ?m3 ?m4 ?m5 ?m6 ?m7 ?m8 ?gF ?Z ?gS ?gB ?xB ?kB ?bB ?tB
    (case D1 => (refine' Nl.def_mk ?a ?l ?c ?k; (case a => k_is); (case l => k_is); (case c => k_is); (case k => k_is)))
    (case D2 => (refine' Nl.def_mk ?a ?l ?c ?k; (case a => k_is); (case l => k_is); (case c => k_is); (case k => k_is)))
    (case D3 => (refine' Nl.def_mk ?a ?l ?c ?k; (case a => k_is); (case l => k_is); (case c => k_is); (case k => k_is)))
    (case D4 => (refine' Nl.def_mk ?a ?l ?c ?k; (case a => k_is); (case l => k_is); (case c => k_is); (case k => k_is)))
    (case D5 => (refine' Nl.def_mk ?a ?l ?c ?k; (case a => k_is); (case l => k_is); (case c => k_is); (case k => k_is)))
    (case D6 => (refine' Nl.def_mk ?a ?l ?c ?k; (case a => k_is); (case l => k_is); (case c => k_is); (case k => k_is)))
    (case D7 => (refine' Nl.def_mk ?a ?l ?c ?k; (case a => k_is); (case l => k_is); (case c => k_is); (case k => k_is)))
    (case D8 => (refine' Nl.def_mk ?a ?l ?c ?k; (case a => k_is); (case l => k_is); (case c => k_is); (case k => k_is)))
    (case m1 => k_is)
    (case m2 => k_is)
    (case m3 => k_is)
    (case m4 => k_is)
    (case m5 => k_is)
    (case m6 => k_is)
    (case m7 => k_is)
    (case m8 => k_is)
    (case gF => (refine' Nl.glob_mk ?h ?r; (case h => k_is); (case r => exact ⟨_, rfl⟩)))
    (case gB => k_is)
    (case xB => k_exc)
    (case kB => k_is)
    (case bB => k_is)
    (case tB => k_is)
    (case gS => k_is)
    case Z =>
      intro g
      refine' Nl.shapes_mk g ?at_ ?low ?lit ?tab
      (case at_ => k_is)
      (case low => rfl)
      (case lit => exact ⟨⟨_, _, rfl, rfl⟩, ⟨_, _, rfl, rfl⟩, ⟨_, _, rfl, rfl⟩, ⟨_, _, rfl, rfl⟩, ⟨_, _, rfl, rfl⟩, ⟨_, _, rfl, rfl⟩, ⟨_, _, rfl, rfl⟩, ⟨_, _, rfl, rfl⟩, ⟨_, _, rfl, rfl⟩, trivial⟩)
      case tab =>
        refine' ⟨⟨_, _, rfl, rfl, ?s0⟩, rfl, ⟨_, _, rfl, rfl, ?s1⟩, rfl, ⟨_, _, rfl, rfl, ?s2⟩, rfl, ⟨_, _, rfl, rfl, ?s3⟩, rfl, ⟨_, _, rfl, rfl, ?s4⟩, rfl, ⟨_, _, rfl, rfl, ?s5⟩, rfl, ⟨_, _, rfl, rfl, ?s6⟩, rfl, ⟨_, _, rfl, rfl, ?s7⟩, rfl, ⟨_, _, rfl, rfl, ?s8⟩, rfl, trivial⟩
        (case s0 => (refine' Nl.sqt_mk ?h ?z ?v; (case h => k_is); (case z => rfl); (case v => exact (.cons ⟨_, rfl⟩ (.cons ⟨_, rfl⟩ .nil)))))
        (case s1 => (refine' Nl.sqt_mk ?h ?z ?v; (case h => k_is); (case z => rfl); (case v => exact (.cons ⟨_, rfl⟩ (.cons ⟨_, rfl⟩ .nil)))))
        (case s2 => (refine' Nl.sqt_mk ?h ?z ?v; (case h => k_is); (case z => rfl); (case v => exact (.cons ⟨_, rfl⟩ (.cons ⟨_, rfl⟩ (.cons ⟨_, rfl⟩ .nil))))))
        (case s3 => (refine' Nl.sqt_mk ?h ?z ?v; (case h => k_is); (case z => rfl); (case v => exact (.cons ⟨_, rfl⟩ (.cons ⟨_, rfl⟩ (.cons ⟨_, rfl⟩ .nil))))))
        (case s4 => (refine' Nl.sqt_mk ?h ?z ?v; (case h => k_is); (case z => rfl); (case v => exact (.cons ⟨_, rfl⟩ (.cons ⟨_, rfl⟩ .nil)))))
        (case s5 => (refine' Nl.sqt_mk ?h ?z ?v; (case h => k_is); (case z => rfl); (case v => exact (.cons ⟨_, rfl⟩ (.cons ⟨_, rfl⟩ .nil)))))
        (case s6 => (refine' Nl.sqt_mk ?h ?z ?v; (case h => k_is); (case z => rfl); (case v => exact (.cons ⟨_, rfl⟩ (.cons ⟨_, rfl⟩ (.cons ⟨_, rfl⟩ .nil))))))
        (case s7 => (refine' Nl.sqt_mk ?h ?z ?v; (case h => k_is); (case z => rfl); (case v => exact (.cons ⟨_, rfl⟩ .nil))))
        (case s8 => (refine' Nl.sqt_mk ?h ?z ?v; (case h => k_is); (case z => rfl); (case v => exact (.cons ⟨_, rfl⟩ .nil))))

