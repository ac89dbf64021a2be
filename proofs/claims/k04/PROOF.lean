import PyProof.Rows.All
import Wide.All
import OpenK.AllK
import Wide.FinOn
import HandS.ForMost
import HandS.Codes
import HandS.Exc
import HandS.ExcOwn
import HandS.TryOnly
import HandS.WordsExc
import HandS.IsInst
import HandS.RaiseMore
import HandS.Small
import HandS.FStr
import HandS.Star
import HandS.TupAny
import HandS.Deep
import HandS.Zip
import HandS.Conv
import HandS.HotCalls
import HandS.StrMore
import HandS.Flow
import KE.KUnpackStar
import HandS.ExcIs
import HandS.SetFor
import HandS.Replace
import PyProof.RulesMatch
import PyProof.RulesMatchSeq
import PyProof.Rows.MatchSeqLen
import PySem.Challenge.RW_nearlines_k04_a_row_done
set_option Elab.async false
set_option linter.all false
set_option maxRecDepth 100000
/-! the layer of our own over the hand layer -/
namespace Nl
open PySem PySem.Spec PyProof.Rows L2

/-! ### a def of the top, as it stands -/
def DefAt (K : PySem.W.Frag) (x : Str) (st : Stmt) : Prop :=
  ∃ (f : Addr) (oc : Value) (od an : Option Addr) (osl : Array (Option Value)) (kV doc pm cdv ct : Value),
    PySem.W.nsIn K mainGlobals x = some (some (.ref f)) ∧
    K.lookup f = some ⟨oc, od, .func (PySem.W.fnOf x x (defArgs st) (defBody st) (defScope st) .none kV doc pm an cdv ct), osl⟩ ∧
    PySem.W.codeIn K cdv x = true ∧ PySem.W.keepIn K (.ref f) = true
theorem def_mk {K : PySem.W.Frag} {x : Str} {st : Stmt} {f : Addr} {oc : Value} {od an : Option Addr} {osl : Array (Option Value)} {kV doc pm cdv ct : Value} (a : PySem.W.nsIn K mainGlobals x = some (some (.ref f)))
    (l : K.lookup f = some ⟨oc, od, .func (PySem.W.fnOf x x (defArgs st) (defBody st) (defScope st) .none kV doc pm an cdv ct), osl⟩) (c : PySem.W.codeIn K cdv x = true) (k : PySem.W.keepIn K (.ref f) = true) : DefAt K x st :=
  ⟨f, oc, od, an, osl, kV, doc, pm, cdv, ct, a, l, c, k⟩
/-- the module's names, as the top leaves them -/
structure Top (K : PySem.W.Frag) (mg : Str → Option Value) : Prop where
  ex : ∃ (h : Heap), K.In h ∧ h.Ns mainGlobals mg
theorem Top.of {K : PySem.W.Frag} {mg : Str → Option Value} (T : Top K mg) {x : Str} {v : Value} (a : PySem.W.nsIn K mainGlobals x = some (some v)) : mg x = some v := by
  obtain ⟨h, X, G⟩ := T.ex
  exact PySem.W.mg_of X G a
theorem Top.none {K : PySem.W.Frag} {mg : Str → Option Value} (T : Top K mg) {x : Str} (a : PySem.W.nsIn K mainGlobals x = some Option.none) : mg x = Option.none := by
  obtain ⟨h, X, G⟩ := T.ex
  exact PySem.W.mg_none_of X G a

section
variable {P : Program} {w : World} {K : PySem.W.Frag} {mg : Str → Option Value} {base : Heap}
abbrev BindOk (x : Str) (st : Stmt) (ps : List Str) : Prop := ∀ (kV doc pm : Value) (an : Option Addr) (cdv ct : Value) (us : List Value), us.length = ps.length →
  bindArgs (PySem.W.fnOf x x (defArgs st) (defBody st) (defScope st) .none kV doc pm an cdv ct) ⟨us, []⟩ = pure (ps.zip us)
/-- a def called by its name keeps sp -/
structure Cal (P : Program) (w : World) (K : PySem.W.Frag) (mg : Str → Option Value) (base : Heap) (CX : CXT) (k : Nat) (x : Str) (sp : Sp) : Prop where
  ex : ∃ (f : Addr) (fd : FuncData) (ps : List Str), FnOk P w K mg base CX k f fd ps sp ∧ mg x = some (.ref f) ∧ PySem.W.keepIn K (.ref f) = true ∧ Binds K fd ps []
theorem Cal.mono {CX : CXT} {j k : Nat} {x : Str} {sp : Sp} (c : Cal P w K mg base CX j x sp) (h : j ≤ k) : Cal P w K mg base CX k x sp := by
  obtain ⟨f, fd, ps, F, r⟩ := c.ex
  exact ⟨f, fd, ps, F.mono h, r⟩
/-- a def that lets no error out -/
theorem cal_of {x : Str} {st : Stmt} {N ps : List Str} {k : Nat} {sp : Sp} (T : Top K mg) (D : DefAt K x st) (S : FnScope N ps (defScope st)) (b : BindOk x st ps) (len : ∀ vs H Q E, sp vs H Q E → vs.length = ps.length)
    (hbody : ∀ (f : Addr) (cdv : Value) (A : Around) (outer : List Env) (s : Shared) (H : Hp) (vs : List V) (Q : VK) (E : XK), Room k (A.deeper (envOfC x (defScope st) s.heap.objs.size f cdv)) → sp vs H Q E →
      ∃ t, PSs (cxOf CX0 P w K mg base N x (defScope st) f cdv A outer s H E).nox (defBody st) t ∧ t { nx := fun _ H' => Q .non H', rt := Q } (start N vs) H) : Cal P w K mg base CX0 (k + 1) x sp := by
  obtain ⟨f, oc, od, an, osl, kV, doc, pm, cdv, ct, a, l, c, kp⟩ := D
  have F := fun_mk (st := st) l c kp
  exact ⟨f, _, ps, F.ok S len (fun cdv A outer s H vs Q E hr h => hbody f cdv A outer s H vs Q E hr h), T.of a, kp, F.binds b⟩
/-- .. that may raise -/
theorem cal_ofX {x : Str} {st : Stmt} {N ps : List Str} {k : Nat} {sp : Sp} (T : Top K mg) (D : DefAt K x st) (S : FnScope N ps (defScope st)) (b : BindOk x st ps) (len : ∀ vs H Q E, sp vs H Q E → vs.length = ps.length)
    (hbody : ∀ (f : Addr) (cdv : Value) (A : Around) (outer : List Env) (s : Shared) (H : Hp) (vs : List V) (Q : VK) (E : XK), Room k (A.deeper (envOfC x (defScope st) s.heap.objs.size f cdv)) → sp vs H Q E →
      ∃ t, PSs (cxOf (L2.CX P w) P w K mg base N x (defScope st) f cdv A outer s H E) (defBody st) t ∧ t { nx := fun _ H' => Q .non H', rt := Q } (start N vs) H) : Cal P w K mg base (L2.CX P w) (k + 1) x sp := by
  obtain ⟨f, oc, od, an, osl, kV, doc, pm, cdv, ct, a, l, c, kp⟩ := D
  have F := fun_mk (st := st) l c kp
  exact ⟨f, _, ps, F.okX S len (fun cdv A outer s H vs Q E hr h => hbody f cdv A outer s H vs Q E hr h), T.of a, kp, F.binds b⟩
end
section
variable {X : Cx} {k j : Nat} {x : Str} {sp : Sp} {p pos : Pos} {e : Expr} {es : List Expr} {t : TA}
/-- f(..), f lets no error out -/
theorem pe_c (c : Cal X.prog X.w X.K X.mg X.base CX0 k x sp) (hr : Room j X.A) (hk : k ≤ j) (hg : Gl X x) (ha : PA X (e :: es) t)
    (hdb : (x == ("__debug__" : Str)) = false := by decide) (he : starEach (e :: es) X.env = (false, eval e X.env) :: starEach es X.env := by rfl) (hpl : (backTo pos (starEach es X.env)).any (·.1) = false := by rfl) :
    PE X (.Call (.Name x p) (e :: es) [] pos) (tCall sp [] E0 t) := by
  obtain ⟨f, fd, ps, F, hm, kp, b⟩ := c.ex
  exact pe_call F (hr.mono hk) hg hm kp b .nil pass0 ha hdb he hpl
/-- f(..), f may raise: what is raised is wished for by W -/
theorem pe_cx {W : WX} (c : Cal X.prog X.w X.K X.mg X.base (L2.CX X.prog X.w) k x sp) (tk : Takes X W) (hr : Room j X.A) (hk : k ≤ j) (hg : Gl X x) (ha : PA X (e :: es) t)
    (hdb : (x == ("__debug__" : Str)) = false := by decide) (he : starEach (e :: es) X.env = (false, eval e X.env) :: starEach es X.env := by rfl) (hpl : (backTo pos (starEach es X.env)).any (·.1) = false := by rfl) :
    PE X (.Call (.Name x p) (e :: es) [] pos) (tCallS sp (WE W) t) := by
  obtain ⟨f, fd, ps, F, hm, kp, b⟩ := c.ex
  exact pe_callS F (hr.mono hk) hg hm kp b (fun σ => passAt tk σ) ha hdb he hpl
/-- .. where it does not raise -/
theorem pe_c0 (c : Cal X.prog X.w X.K X.mg X.base (L2.CX X.prog X.w) k x sp) (hr : Room j X.A) (hk : k ≤ j) (hg : Gl X x) (ha : PA X (e :: es) t)
    (hdb : (x == ("__debug__" : Str)) = false := by decide) (he : starEach (e :: es) X.env = (false, eval e X.env) :: starEach es X.env := by rfl) (hpl : (backTo pos (starEach es X.env)).any (·.1) = false := by rfl) :
    PE X (.Call (.Name x p) (e :: es) [] pos) (tCall sp [] E0 t) := by
  obtain ⟨f, fd, ps, F, hm, kp, b⟩ := c.ex
  exact pe_call F (hr.mono hk) hg hm kp b .nil passL ha hdb he hpl
end

/-! ### places -/
theorem at_in {α : Type} {xs : List α} {i : Int} {v : α} (h0 : 0 ≤ i) (h : xs[i.toNat]? = some v) : atI xs i = some v := by
  have e : i = ((i.toNat : Nat) : Int) := (Int.toNat_of_nonneg h0).symm
  rw [e]
  exact atI_nat (by simpa using h)
theorem at_getD {α : Type} {xs : List α} {i : Int} {d : α} (h0 : 0 ≤ i) (h : i < xs.length) : atI xs i = some (xs.getD i.toNat d) := by
  refine at_in h0 ?_
  have : i.toNat < xs.length := by omega
  rw [List.getD_eq_getElem?_getD, List.getElem?_eq_getElem this]; rfl
theorem at_ints {ns : List Int} {i : Int} (h0 : 0 ≤ i) (h : i < ns.length) : atI (ns.map V.int) i = some (.int (ns.getD i.toNat 0)) := by
  refine at_in h0 ?_
  have : i.toNat < ns.length := by omega
  rw [List.getElem?_map, List.getD_eq_getElem?_getD, List.getElem?_eq_getElem this]; rfl
theorem at_strs {ns : List Str} {i : Int} (h0 : 0 ≤ i) (h : i < ns.length) : atI (ns.map V.str) i = some (.str (ns.getD i.toNat Str.empty)) := by
  refine at_in h0 ?_
  have : i.toNat < ns.length := by omega
  rw [List.getElem?_map, List.getD_eq_getElem?_getD, List.getElem?_eq_getElem this]; rfl
theorem mod_nn (c : Int) {n : Int} (h : 0 < n) : 0 ≤ c % n := Int.emod_nonneg c (by omega)
theorem mod_lt (c : Int) {n : Int} (h : 0 < n) : c % n < n := Int.emod_lt_of_pos c h
theorem at_ints_mod {ns : List Int} (c : Int) {n : Int} (h : 0 < n) (e : (ns.length : Int) = n) : atI (ns.map V.int) (c % n) = some (.int (ns.getD (c % n).toNat 0)) :=
  at_ints (mod_nn c h) (by rw [e]; exact mod_lt c h)
theorem at_strs_mod {ns : List Str} (c : Int) {n : Int} (h : 0 < n) (e : (ns.length : Int) = n) : atI (ns.map V.str) (c % n) = some (.str (ns.getD (c % n).toNat Str.empty)) :=
  at_strs (mod_nn c h) (by rw [e]; exact mod_lt c h)
theorem _root_.L2.Same.sqt {K : PySem.W.Frag} {H H' : Hp} {a : Addr} {xs : List V} (e : Same H H') (h : SqT K H a xs) : SqT K H' a xs := by
  rcases h with (h | ⟨o, h⟩) | h
  · exact .inl (.inl (e _ _ h))
  · exact .inl (.inr ⟨o, e _ _ h⟩)
  · exact .inr h
theorem _root_.L2.Same.new {H : Hp} {p : Addr} {o : HO} (h : H p = none) : Same H (upd H p o) := fun a u e => by
  rw [upd_ne (ne_of_none e h)]
  exact e
theorem _root_.L2.Same.more {H0 H : Hp} {p : Addr} {o : HO} (s : Same H0 H) (h : H p = none) : Same H0 (upd H p o) := s.trans (Same.new h)
/-- an object that H0 does not know changes -/
theorem _root_.L2.Same.mut {H0 H : Hp} {p : Addr} {o : HO} (s : Same H0 H) (h : H0 p = none) : Same H0 (upd H p o) := fun a u e => by
  rw [upd_ne (ne_of_none e h)]
  exact s a u e
/-! ### comprehensions whose elements leave the tracked things as they are -/
/-- the new list keeps: at its address D what is made so far -/
theorem lc_gen {J : It} {g : TG} {tt : TT} {te : TE} {vs : List Nat} {σ : L2.St} {H1 : Hp} {D : Addr} {Qd : Hp → Prop} (n : Nat) (R : Nat → V → Hp → Prop) (fs : Nat → Option V) (hD : H1 D = none) (hz : n < sizeLine)
    (go : ∀ i H, i < n → Same H1 H → J.go i H) (stop : ∀ H, Same H1 H → J.stop n H) (yld : ∀ i H x H', i < n → Same H1 H → J.yld i H x H' → Same H H' ∧ R i x H')
    (hs : ∀ i x H, i < n → Same H1 H → R i x H → ∀ (k1 : VK) (k0 : Hp → Prop), (∀ v H', fs i = some v → Same H H' → k1 v H') → (∀ H', fs i = none → Same H H' → k0 H') →
      g x (wipe σ vs) H fun σ2 H2 => wipe σ2 vs = wipe σ vs ∧ tt σ2 H2 fun b H3 => if b = true then te σ2 H3 k1 else k0 H3)
    (hd : ∀ H, Same H1 H → H D = some (.lst ((List.range n).filterMap fs)) → Qd H) :
    ∃ W : Nat → Nat → Hp → Prop, (∃ m, W 0 m (upd H1 D (.lst []))) ∧ ∀ i m H, W i m H →
      (J.stop i H ∧ Qd H) ∨ (J.go i H ∧ ∃ Nx : Hp → Prop, (∀ H', Nx H' → ∃ m', m' < m ∧ W (i + 1) m' H') ∧ ∀ x H', J.yld i H x H' → g x (wipe σ vs) H' fun σ2 H2 => wipe σ2 vs = wipe σ vs ∧ tt σ2 H2 fun b H3 =>
        if b = true then te σ2 H3 fun y H4 => ∃ acc, H4 D = some (.lst acc) ∧ acc.length < sizeLine ∧ Nx (upd H4 D (.lst (acc ++ [y]))) else Nx H3) := by
  refine ⟨fun i m H => m = n - i ∧ i ≤ n ∧ Same H1 H ∧ H D = some (.lst ((List.range i).filterMap fs)), ⟨n, by simp, Nat.zero_le _, Same.new hD, upd_same⟩, ?_⟩
  rintro i m H ⟨rfl, hi, s1, h1⟩
  by_cases hlt : i < n
  · refine .inr ⟨go i H hlt s1, fun H' => Same H1 H' ∧ H' D = some (.lst ((List.range (i + 1)).filterMap fs)), fun H' p' => ⟨n - (i + 1), by omega, rfl, hlt, p'⟩, fun x H' y => ?_⟩
    obtain ⟨s2, r⟩ := yld i H x H' hlt s1 y
    refine hs i x H' hlt (s1.trans s2) r _ _ (fun v H'' e s3 => ?_) (fun H'' e s3 => ?_)
    · refine ⟨_, s3 _ _ (s2 _ _ h1), ?_, ((s1.trans s2).trans s3).mut hD, ?_⟩
      · exact Nat.lt_of_le_of_lt (Nat.le_trans (List.length_filterMap_le _ _) (by rw [List.length_range]; omega)) hz
      · rw [upd_same, List.range_succ, List.filterMap_append]
        simp [e]
    · refine ⟨(s1.trans s2).trans s3, ?_⟩
      rw [s3 _ _ (s2 _ _ h1), List.range_succ, List.filterMap_append]
      simp [e]
  · have e : i = n := by omega
    subst e
    exact .inl ⟨stop H s1, hd H s1 h1⟩
theorem range_fm {α β : Type} (xs : List α) (f : α → Option β) : (List.range xs.length).filterMap (fun i => (xs[i]?).bind f) = xs.filterMap f := by
  induction xs with
  | nil => rfl
  | cons x xs ih =>
    rw [List.length_cons, List.range_succ_eq_map, List.filterMap_cons, List.filterMap_map, List.filterMap_cons]
    have e : (List.range xs.length).filterMap ((fun i => ((x :: xs)[i]?).bind f) ∘ Nat.succ) = xs.filterMap f := by
      rw [← ih]
      rfl
    rw [e]
    rfl
section
variable {K : PySem.W.Frag} {g : TG} {tt : TT} {te : TE} {vs : List Nat} {σ : L2.St} {H1 : Hp} {D a : Addr} {Qd : Hp → Prop} {xs : List V}
abbrev LcW (J : It) (g : TG) (tt : TT) (te : TE) (vs : List Nat) (σ : L2.St) (H1 : Hp) (D : Addr) (Qd : Hp → Prop) : Prop :=
  ∃ W : Nat → Nat → Hp → Prop, (∃ m, W 0 m (upd H1 D (.lst []))) ∧ ∀ i m H, W i m H →
      (J.stop i H ∧ Qd H) ∨ (J.go i H ∧ ∃ Nx : Hp → Prop, (∀ H', Nx H' → ∃ m', m' < m ∧ W (i + 1) m' H') ∧ ∀ x H', J.yld i H x H' → g x (wipe σ vs) H' fun σ2 H2 => wipe σ2 vs = wipe σ vs ∧ tt σ2 H2 fun b H3 =>
        if b = true then te σ2 H3 fun y H4 => ∃ acc, H4 D = some (.lst acc) ∧ acc.length < sizeLine ∧ Nx (upd H4 D (.lst (acc ++ [y]))) else Nx H3)
abbrev LcTurn (g : TG) (tt : TT) (te : TE) (vs : List Nat) (σ : L2.St) (x : V) (H : Hp) (fx : Option V) : Prop := ∀ (k1 : VK) (k0 : Hp → Prop), (∀ v H', fx = some v → Same H H' → k1 v H') → (∀ H', fx = none → Same H H' → k0 H') →
      g x (wipe σ vs) H fun σ2 H2 => wipe σ2 vs = wipe σ vs ∧ tt σ2 H2 fun b H3 => if b = true then te σ2 H3 k1 else k0 H3
/-- over a list: [f x for x in xs if ..] -/
theorem lc_fl (f : V → Option V) (hD : H1 D = none) (hq : SqL K H1 a xs) (hz : xs.length < sizeLine) (hs : ∀ (i : Nat) x H, xs[i]? = some x → Same H1 H → LcTurn g tt te vs σ x H (f x))
    (hd : ∀ H, Same H1 H → H D = some (.lst (xs.filterMap f)) → Qd H) : LcW (Itl K a) g tt te vs σ H1 D Qd :=
  lc_gen xs.length (fun i x _ => xs[i]? = some x) (fun i => (xs[i]?).bind f) hD hz
    (fun i H hi s => ⟨xs, xs[i], s.seq hq, by simp [hi]⟩) (fun H s => ⟨xs, s.seq hq, Nat.le_refl _⟩) (fun i H x H' hi s y => by
      obtain ⟨e, y⟩ := y
      subst e
      exact ⟨Same.refl _, y xs (s.seq hq)⟩)
    (fun i x H hi s r k1 k0 h1 h0 => hs i x H r s k1 k0 (fun v H' e => h1 v H' (by rw [r]; exact e)) (fun H' e => h0 H' (by rw [r]; exact e))) (fun H s h => hd H s (by rw [h, range_fm]))
/-- over a tuple -/
theorem lc_ft (f : V → Option V) (hD : H1 D = none) (hq : SqT K H1 a xs) (hz : xs.length < sizeLine) (hs : ∀ (i : Nat) x H, xs[i]? = some x → Same H1 H → LcTurn g tt te vs σ x H (f x))
    (hd : ∀ H, Same H1 H → H D = some (.lst (xs.filterMap f)) → Qd H) : LcW (Itt K a) g tt te vs σ H1 D Qd :=
  lc_gen xs.length (fun i x _ => xs[i]? = some x) (fun i => (xs[i]?).bind f) hD hz
    (fun i H hi s => ⟨xs, xs[i], s.sqt hq, by simp [hi]⟩) (fun H s => ⟨xs, s.sqt hq, Nat.le_refl _⟩) (fun i H x H' hi s y => by
      obtain ⟨e, y⟩ := y
      subst e
      exact ⟨Same.refl _, y xs (s.sqt hq)⟩)
    (fun i x H hi s r k1 k0 h1 h0 => hs i x H r s k1 k0 (fun v H' e => h1 v H' (by rw [r]; exact e)) (fun H' e => h0 H' (by rw [r]; exact e))) (fun H s h => hd H s (by rw [h, range_fm]))
/-- over range(lo, lo + n) -/
theorem lc_fr {lo : Int} {n : Nat} (f : Nat → Option V) (hD : H1 D = none) (hz : n < sizeLine) (hs : ∀ (i : Nat) H, i < n → Same H1 H → LcTurn g tt te vs σ (.int (lo + i)) H (f i))
    (hd : ∀ H, Same H1 H → H D = some (.lst ((List.range n).filterMap f)) → Qd H) : LcW (Itr lo n) g tt te vs σ H1 D Qd :=
  lc_gen n (fun i x _ => x = .int (lo + i)) f hD hz (fun i H hi s => hi) (fun H s => Nat.le_refl _) (fun i H x H' hi s y => by
      obtain ⟨e, y⟩ := y
      subst e
      exact ⟨Same.refl _, y⟩)
    (fun i x H hi s r k1 k0 h1 h0 => by subst r; exact hs i H hi s k1 k0 h1 h0) hd
end
/-! ### the law's own def, the end -/
def spLaw (K : PySem.W.Frag) : Sp := fun vs H Q _ => ∃ (a : Addr) (ns : List Int), vs = [.ref a] ∧ SqL K H a (ns.map V.int) ∧ ns.length ≤ 63 ∧ ∀ H', Q (.bl true) H'
abbrev LawOk (P : Program) (w : World) (K : PySem.W.Frag) (mg : Str → Option Value) (k : Nat) : Prop :=
  ∃ (f : Addr) (fd : FuncData), mg "law" = some (.ref f) ∧ (∀ (s : Shared) (v : Value), BindsTo s fd ⟨[v], []⟩ [("_law_script", v)]) ∧ ∀ base : Heap, FnOk P w K mg base CX0 k f fd ["_law_script"] (spLaw K)
theorem law_of {P : Program} {w : World} {K : PySem.W.Frag} {mg : Str → Option Value} {st : Stmt} {N : List Str} {k : Nat} (T : Top K mg) (D : DefAt K "law" st) (S : FnScope N ["_law_script"] (defScope st))
    (b : ∀ (kV doc pm : Value) (an : Option Addr) (cdv ct v : Value), bindArgs (PySem.W.fnOf "law" "law" (defArgs st) (defBody st) (defScope st) .none kV doc pm an cdv ct) ⟨[v], []⟩ = pure [(("_law_script" : Str), v)])
    (hbody : ∀ (base : Heap) (f : Addr) (cdv : Value) (A : Around) (outer : List Env) (s : Shared) (H : Hp) (a : Addr) (ns : List Int) (Q : VK) (E : XK), Room k (A.deeper (envOfC "law" (defScope st) s.heap.objs.size f cdv)) → SqL K H a (ns.map V.int) → ns.length ≤ 63 → (∀ H', Q (.bl true) H') →
      ∃ t, PSs (cxOf CX0 P w K mg base N "law" (defScope st) f cdv A outer s H E).nox (defBody st) t ∧ t { nx := fun _ H' => Q .non H', rt := Q } (start N [.ref a]) H) : LawOk P w K mg (k + 1) := by
  obtain ⟨f, oc, od, an, osl, kV, doc, pm, cdv, ct, a, l, c, kp⟩ := D
  have F := fun_mk (st := st) l c kp
  refine ⟨f, _, T.of a, fun s v => .of_eq (b kV doc pm an cdv ct v), fun base => F.ok S (fun vs H Q E h => ?_) fun cdv A outer s H vs Q E hr h => ?_⟩
  · obtain ⟨_, _, rfl, _⟩ := h
    rfl
  · obtain ⟨a, ns, rfl, h1, h2, h3⟩ := h
    exact hbody base f cdv A outer s H a ns Q E hr h1 h2 h3
theorem walk_end {l : PySem.W.OpenLaw} {q : Program} {loose : List Str} {XP : (Str → Option Value) → Heap → Prop} {YP : World → Heap → Prop} {d : DefRec} {K : Params → PySem.W.Frag} (k : Nat) (hn : l.most = some 63) (hdf : d.params.defaults = []) (hr : Room k callerA) (hd : d.name = "law")
    (hY : ∀ (w : World) (h : Heap), YP w h → (K w.params).In h)
    (F : ∀ (w : World) (mg : Str → Option Value), Top (K w.params) mg → LawOk l.prog w (K w.params) mg k) :
    PySem.W.WalkO q loose XP YP l.row.toRowW d [] (fun f vs => PySem.call f vs) :=
  L2.walk_of (n := 63) (k := k) (x := "_law_script") (CX := fun _ => CX0) (sp := fun w => spLaw (K w.params)) hn (by decide) hdf hr hY (fun w mg fa h X G hm => by
    obtain ⟨f, fd, e, b, ok⟩ := F w mg ⟨h, X, G⟩
    rw [hd, e] at hm
    cases hm
    exact ⟨fd, b, fun base _ _ => ok base⟩) (fun _ _ a ns hl _ hS => ⟨a, ns, rfl, hS, hl, fun _ => rfl⟩) fun _ _ _ _ _ z => z
/-! ### a block cut in two: P is what holds between -/
def tCut (D : Ends) (P : L2.St → Hp → Prop) : TS := fun D' σ H => D' = D ∧ P σ H
theorem pss_cut {X : Cx} {rest : List Stmt} {D : Ends} {P : L2.St → Hp → Prop} (h : ∃ u, PSs X rest u ∧ ∀ σ H, P σ H → u D σ H) : PSs X rest (tCut D P) := by
  obtain ⟨u, hu, hP⟩ := h
  refine ⟨fun pins s σ H D' I h => ?_⟩
  obtain ⟨e, h⟩ := h
  subst e
  exact hu.run pins s σ H D' I (hP σ H h)
/-! ### texts -/
/-- for c in a text -/
theorem for_its {x : Str} {g : TG} {tb : TS} {D : Ends} {σ : L2.St} {H : Hp} (Pv : Nat → L2.St → Hp → Prop) (h0 : Pv 0 σ H)
    (hs : ∀ i c σ H, x.cps[i]? = some c → Pv i σ H → g (.str ⟨#[c]⟩) σ H fun σ2 H2 => tb { D with nx := Pv (i + 1), ct := Pv (i + 1), bk := D.nx } σ2 H2) (hd : ∀ σ H, Pv x.cps.size σ H → D.nx σ H) :
    ∃ W : Nat → Nat → L2.St → Hp → Prop, (∃ m, W 0 m σ H) ∧ ∀ i m σ H, W i m σ H →
      ((Its x).stop i H ∧ D.nx σ H) ∨ ((Its x).go i H ∧ ∃ N : L2.St → Hp → Prop, (∀ σ' H', N σ' H' → ∃ m', m' < m ∧ W (i + 1) m' σ' H') ∧ ∀ y H', (Its x).yld i H y H' → g y σ H' fun σ2 H2 => tb { D with nx := N, ct := N, bk := D.nx } σ2 H2) := by
  refine ⟨fun i m σ H => m = x.cps.size - i ∧ i ≤ x.cps.size ∧ Pv i σ H, ⟨x.cps.size, by simp, Nat.zero_le _, h0⟩, ?_⟩
  rintro i m σ H ⟨rfl, hi, p⟩
  by_cases hlt : i < x.cps.size
  · refine .inr ⟨hlt, Pv (i + 1), fun σ' H' p' => ⟨x.cps.size - (i + 1), by omega, rfl, hlt, p'⟩, fun y H' q => ?_⟩
    obtain ⟨e, c, hc, ey⟩ := q
    subst e ey
    exact hs i c σ _ hc p
  · have e : i = x.cps.size := by omega
    subst e
    exact .inl ⟨Nat.le_refl _, hd σ H p⟩
theorem cutS_len (z : Str) (lo hi : Option Int) : (cutS z lo hi).length ≤ z.length := by
  show (((z.cps.toList.drop _).take _).toArray).size ≤ z.cps.size
  rw [List.size_toArray, List.length_take, List.length_drop, Array.length_toList]
  omega
theorem app_len (a b : Str) : (a ++ b).length = a.length + b.length := by
  show (a.cps ++ b.cps).size = a.cps.size + b.cps.size
  exact Array.size_append
/-- a text some times over -/
theorem op_repS {X : Cx} : OpR X (binaryOp .Mult) (fun x y H Q => ∃ (z : Str) (n : Int), x = .str z ∧ y = .int n ∧ PySem.MulOk z n ∧ Q (.str (Txt.mul z n)) H) := by
  intro pins s σ H x y v u Q I rx ry h
  obtain ⟨z, n, rfl, rfl, ok, q⟩ := h
  obtain ⟨t, rfl⟩ := rx
  obtain ⟨t', rfl⟩ := ry
  exact PySem.SB.mul ok fun t2 k => ⟨.str _, H, I.tok k, ⟨t2, rfl⟩, q⟩
theorem bl_of {b c : Bool} (h : b = c) : V.bl b = V.bl c := congrArg V.bl h
theorem fm_some {α β : Type} (xs : List α) (f : α → β) : xs.filterMap (fun x => some (f x)) = xs.map f := by
  induction xs with
  | nil => rfl
  | cons x xs ih => simp
/-! ### the helpers every law has -/
def cellAt (ns : List Int) (k : Int) : Int := ns.getD k.toNat 0
def mixed (c : Int) : Int := c * 48271 % 2147483647
def spCellAt (K : PySem.W.Frag) : Sp := fun vs H Q _ => ∃ (a : Addr) (ns : List Int) (k : Int), vs = [.ref a, .int k] ∧ SqL K H a (ns.map V.int) ∧ 0 ≤ k ∧ Q (.int (cellAt ns k)) H
def spMixed : Sp := fun vs H Q _ => ∃ c : Int, vs = [.int c] ∧ Q (.int (mixed c)) H
end Nl

set_option Elab.async false
set_option linter.all false
set_option maxRecDepth 100000
set_option maxHeartbeats 1000000
namespace Nl
open PySem PySem.Spec PySem.Calls PyProof.Rows PySem.W
/-- a, *rest = a list: the rest is a new list -/
theorem star_list {prog : Program} {w : World} {A : Around} {E : Value → Shared → Prop} {s : Shared} {l : Addr} {items : Array Value} {first rest : List Value} {Q : List Value → Shared → Prop}
    (hl : s.heap.IsList l items) (hh : A.handled = none) (hn : 1 ≤ items.size) (hz : items.size ≤ 16384) (h1 : items.toList = first ++ rest) (h2 : first.length = 1)
    (h : ∀ (h₂ : Heap) (tk : Nat), (∀ b o, s.heap.get? b = some o → h₂.get? b = some o) → Q (first ++ [.ref h₂.objs.size]) { s with heap := h₂.push { cls := .type "list", data := .seq rest.toArray 0 }, toks := tk }) :
    wpAny (model prog w) A (unpackItems (.ref l) 2 (some 1)) Q E s := by
  have hlt : l ≠ s.heap.objs.size := by obtain ⟨o, ho, _⟩ := hl; exact Nat.ne_of_lt (Heap.lt_size ho)
  have hsz : items.toList.length = items.size := Array.length_toList
  have ht : items.toList.take 1 = first := by rw [h1, List.take_append_of_le_length (by omega), List.take_of_length_le (by omega)]
  have hd : items.toList.drop 1 = rest := by rw [h1, List.drop_append_of_le_length (by omega), List.drop_of_length_le (by omega)]; rfl
  unfold unpackItems
  refine wpAny_bind ?_
  unfold notIterableAtAll
  refine wpAny_bind (wpAny_specialOf hl.typeIs slot_list_iter.lookup ?_)
  refine wpAny_pure ?_
  simp only [Bool.false_eq_true, if_false]
  refine wpAny_bind (wpAny_holding (wpAny_pyIter_list hl ?_))
  refine wpAny_bind (wpAny_holding (kun_draw hlt 1 0 _ _ ⟨_, Heap.get?_push_size _ rfl, rfl, rfl⟩ (hl.push _) (by omega) fun h₁ hit₁ hs₁ => ?_))
  have hl₁ : h₁.IsList l items := (hl.push _).extBut hs₁.extBut hlt
  rw [Nat.zero_add] at hit₁
  have hit₁' := hit₁
  obtain ⟨oi, hoi, _⟩ := hit₁'
  have hl₁' := hl₁
  obtain ⟨ol, hol, _⟩ := hl₁'
  rw [List.drop_zero, ht]
  rw [if_neg (show ¬ (first.length < 1) by omega)]
  refine wpAny_bind (wpAny_holding (kun_collect (s := { s with heap := h₁ }) (T := "list_iterator") (.inr (.inr (.inl rfl))) (Walks.list (A := A.in1) hh s.heap.objs.size l hlt items) (fun j u st => st.1.typeIs) (k := 1) (by omega) ⟨hit₁, hl₁⟩ (Heap.lt_size hoi) (Heap.lt_size hol) (fun h₂ tk hk => ?_) (by rw [sizeLine_eq]; omega)))
  rw [hd]
  show wpAny _ _ (if rest.length < 0 then _ else _) _ _ _
  rw [if_neg (Nat.not_lt_zero _)]
  show wpAny _ _ (newList (rest.take (rest.length - 0)) >>= fun d => pure (first ++ [d] ++ rest.drop (rest.length - 0))) _ _ _
  rw [Nat.sub_zero, List.take_length, List.drop_length]
  have hr : rest.length ≤ items.size := by rw [← hsz, h1, List.length_append]; omega
  have he : ∀ b o, s.heap.get? b = some o → h₂.get? b = some o := fun b o e =>
    hk b o (Nat.ne_of_lt (Heap.lt_size e)) ((hs₁.2 b (Nat.ne_of_lt (Heap.lt_size e))).trans (Heap.get?_push_of_some _ e))
  refine wpAny_bind (wpAny_newObj_type ?_ (by show rest.toArray.size ≤ sizeLine; rw [List.size_toArray, sizeLine_eq]; omega))
  refine wpAny_pure ?_
  rw [List.append_nil]
  exact h h₂ tk he
end Nl
namespace Nl
open PySem PySem.Spec PyProof.Rows L2
/-- a, *rest = xs, a list; both names in slots -/
def gStar (K : PySem.W.Frag) (i j : Nat) : TG := fun v σ H Q => ∃ a x xs, v = .ref a ∧ SqL K H a (x :: xs) ∧ xs.length < 16384 ∧ ∀ p, H p = none → Q ((σ.set i (some x)).set j (some (.ref p))) (upd H p (.lst xs))
theorem pg_star {X : Cx} {i j : Nat} {x y : Str} {px py pp pos : Pos} {k1 : Nat} (hc : X.calm = true) (hN : X.N.Nodup) (hi : X.N[i]? = some x) (hx : Loc X.env.scope x) (hj : X.N[j]? = some y) (hy : Loc X.env.scope y)
    (fx : X.fn x = true ∨ X.env.scope.names.lookup x = some .local := by first | exact .inl rfl | exact .inr rfl | assumption) (fy : X.fn y = true ∨ X.env.scope.names.lookup y = some .local := by first | exact .inl rfl | exact .inr rfl | assumption) :
    PG X (.Tuple [.Name x px, .Starred (.Name y py) pp] k1 pos) (gStar X.K i j) := by
  refine ⟨fun pins s σ H v u Q I r h => ?_⟩
  obtain ⟨a, x1, xs, rfl, hs, hz, q⟩ := h
  cases r
  obtain ⟨its, rv, pl, hl⟩ := I.list hs
  have el : (x1 :: xs).length = its.length := rv.length
  cases rv with
  | cons r1 rr =>
    rename_i u1 us
    rw [PyProof.Rows.assign_Tuple]
    refine wpAny_bind (wpAny_standAt ?_)
    unfold unpack
    have h1 : (assignEach [.Name x px, .Starred (.Name y py) pp] X.env).length = 2 := rfl
    have h2 : (assignEach [.Name x px, .Starred (.Name y py) pp] X.env).findIdx? (·.1) = some 1 := rfl
    rw [h1, h2]
    refine wpAny_bind (wpAny_holding (star_list (first := [u1]) (rest := us) pl.isList (I.ok.hd hc) (by simp) (by simp at el ⊢; omega) (by simp) rfl fun h₂ tk hk => ?_))
    have I2 : Inv X pins σ H { s with heap := h₂, toks := tk } := I.kept hk
    have I3 := I2.laid (a := h₂.objs.size) (o := .lst xs) (h' := h₂.push { cls := .type "list", data := .seq us.toArray 0 }) (t' := tk) (fun b o e => Heap.get?_push_of_some _ e) (Nat.le_refl _) ⟨(by simp at hl; omega), us, 0, rr, Heap.get?_push_size _ rfl⟩
    have hf : H h₂.objs.size = none := I2.hok.fresh (Nat.le_refl _)
    show wpAny _ _ (assignInOrder [assign (.Name x px) X.env, assign (.Name y py) X.env] [u1, .ref h₂.objs.size]) _ _ _
    refine assignInOrder_cons (wpAny_assign_Name (store_ok I3 hN hi hx r1 (fun s4 I4 => ?_) fx))
    refine assignInOrder_cons (wpAny_assign_Name (store_ok (v := V.ref h₂.objs.size) I4 hN hj hy rfl (fun s5 I5 => assignInOrder_nil ⟨_, _, I5, q _ hf⟩) fy))
end Nl

set_option Elab.async false
set_option linter.all false
set_option maxRecDepth 100000
set_option maxHeartbeats 1000000
namespace Nl
open PySem PySem.Spec PyProof.Rows L2 L2H
/-! ### a def that is called while an error of the class at D, that stands at p, is handled -/
structure FnS (P : Program) (w : World) (K : PySem.W.Frag) (mg : Str → Option Value) (base : Heap) (k : Nat) (f : Addr) (fd : FuncData) (ps : List Str) (sp : Addr → Addr → Sp) : Prop where
  len : ∀ D a vs H Q E, sp D a vs H Q E → vs.length = ps.length
  run : ∀ (A : Around) (outer : List Env) (s : Shared) (H : Hp) (args : Args) (us : List Value) (vs : List V) (Q : VK) (E : XK) (p : Addr × Obj) (D : Addr), RoomH k A → Zc (.ref D) none p.2 → (∃ fs, p.2.data = .fields fs) → PinOk outer H s p → Env0 P w K mg base A outer s H →
    BindsTo s fd args (ps.zip us) → Vals vs us → sp D p.1 vs H Q E → codeAny (model P w) A (.call (.ref f) args) (CR CX0 outer P w H s Q E) s
theorem fn_ofS {P : Program} {w : World} {K : PySem.W.Frag} {mg : Str → Option Value} {base : Heap} {k : Nat} {f : Addr} {name qual : Str} {params : Arguments} {body : List Stmt} {scope : Scope} {dV kV doc pm cdv ct oc : Value} {an od : Option Addr}
    {osl : Array (Option Value)} {N ps : List Str} {sp : Addr → Addr → Sp} (lk : K.lookup f = some ⟨oc, od, .func (PySem.W.fnOf name qual params body scope dV kV doc pm an cdv ct), osl⟩) (hcd : PySem.W.codeIn K cdv qual = true) (S : FnScope N ps scope)
    (len : ∀ D a vs H Q E, sp D a vs H Q E → vs.length = ps.length)
    (hbody : ∀ (A : Around) (outer : List Env) (s : Shared) (H : Hp) (vs : List V) (Q : VK) (E : XK) (p : Addr × Obj) (D : Addr), Zc (.ref D) none p.2 → (∃ fs, p.2.data = .fields fs) → RoomH k (A.deeper (envOfC qual scope s.heap.objs.size f cdv)) → sp D p.1 vs H Q E →
      ∃ t, PSs (cxH CX0 P w K mg base N qual scope f cdv A outer s H E p) body t ∧ t { nx := fun _ H' => Q .non H', rt := Q } (L2.start N vs) H) :
    FnS P w K mg base (k + 1) f (PySem.W.fnOf name qual params body scope dV kV doc pm an cdv ct) ps sp := by
  refine ⟨len, fun A outer s H args us vs Q E p D hr hz hf hpin e0 hb r hsp => ?_⟩
  have hl := len _ _ _ _ _ _ hsp
  have stay := fun b o e => (e0.bs b o e).1
  have hkind : ∀ y ∈ ps.zip us, scope.names.lookup y.1 = some .local ∨ (scope.names.lookup y.1 = some .cell ∧ ((cellsFrom (s.heap.objs.size + 1) scope.names []).lookup y.1).isSome = true) := fun ⟨n, v⟩ hy =>
    (S.par n (List.of_mem_zip hy).1).elim (fun q => .inl q) fun q => .inr ⟨q, PySem.W.cellsFrom_some _ _ _ (.inl q)⟩
  have KX : K.In s.heap := e0.mod.kin.keeps stay
  have lim : s.heap.NoLimit := e0.mod.nolimit.keeps stay
  refine codeAny_call_function hr.depth (KX _ _ lk) rfl S.co S.gen rfl (PySem.W.codeRec_of KX hcd) (hb _ _ _ _ ?_)
  refine wpAny_newFunctionEnv_cells S.kind hkind fun env he s1 x => ?_
  subst he
  refine ⟨lim.keeps x.toInCall.keep, codeAny_func ?_⟩
  obtain ⟨t, ht, hq⟩ := hbody A outer s H vs Q E p D hz hf (hr.deeper _) hsp
  refine wpAny_mono (ht.run [] s1 (L2.start N vs) H _ (inv_startH S hpin e0 hl r x) hq) (fun fl s' hs => ?_) fun e s' hs => hs
  cases fl with
  | ret u =>
    obtain ⟨v, σ', H', J, rv, q⟩ := hs
    exact ⟨v, H', J.os, J.bare, J.base, J.hok, rv, q⟩
  | next =>
    obtain ⟨σ', H', J, q⟩ := hs
    exact ⟨V.non, H', J.os, J.bare, J.base, J.hok, rfl, q⟩
  | brk =>
    obtain ⟨_, _, _, q⟩ := hs
    exact q.elim
  | cont =>
    obtain ⟨_, _, _, q⟩ := hs
    exact q.elim
structure CalS (P : Program) (w : World) (K : PySem.W.Frag) (mg : Str → Option Value) (base : Heap) (k : Nat) (x : Str) (sp : Addr → Addr → Sp) : Prop where
  ex : ∃ (f : Addr) (fd : FuncData) (ps : List Str), FnS P w K mg base k f fd ps sp ∧ mg x = some (.ref f) ∧ PySem.W.keepIn K (.ref f) = true ∧ Binds K fd ps []
theorem calS_of {P : Program} {w : World} {K : PySem.W.Frag} {mg : Str → Option Value} {base : Heap} {x : Str} {st : Stmt} {N ps : List Str} {k : Nat} {sp : Addr → Addr → Sp} (T : Top K mg) (D : DefAt K x st) (S : FnScope N ps (defScope st)) (b : BindOk x st ps)
    (len : ∀ D a vs H Q E, sp D a vs H Q E → vs.length = ps.length)
    (hbody : ∀ (f : Addr) (cdv : Value) (A : Around) (outer : List Env) (s : Shared) (H : Hp) (vs : List V) (Q : VK) (E : XK) (p : Addr × Obj) (D : Addr), Zc (.ref D) none p.2 → (∃ fs, p.2.data = .fields fs) → RoomH k (A.deeper (envOfC x (defScope st) s.heap.objs.size f cdv)) → sp D p.1 vs H Q E →
      ∃ t, PSs (cxH CX0 P w K mg base N x (defScope st) f cdv A outer s H E p) (defBody st) t ∧ t { nx := fun _ H' => Q .non H', rt := Q } (L2.start N vs) H) : CalS P w K mg base (k + 1) x sp := by
  obtain ⟨f, oc, od, an, osl, kV, doc, pm, cdv, ct, a, l, c, kp⟩ := D
  have F := fun_mk (st := st) l c kp
  exact ⟨f, _, ps, fn_ofS l c S len fun A outer s H vs Q E p D hz hf hr h => hbody f cdv A outer s H vs Q E p D hz hf hr h, T.of a, kp, F.binds b⟩
section
variable {X : Cx} {k j : Nat} {x : Str} {sp : Addr → Addr → Sp} {p pos : Pos} {e : Expr} {es : List Expr} {t : TA}
/-- f(..) within the suite of a clause; the error at a, of the class cls -/
def tCallSu (sp : Addr → Addr → Sp) (a : Addr) (cls : Value) (d : Option Addr) (t : TA) : TE := fun σ H Q => t σ H fun vs H1 => ∃ D, cls = .ref D ∧ d = none ∧ sp D a vs H1 Q E0
theorem pe_su {a : Addr} {oe : Obj} {cls : Value} {d : Option Addr} {pn : List (Addr × Obj)} (c : CalS X.prog X.w X.K X.mg X.base k x sp) (hz : Zc cls d oe) (hf : ∃ fs, oe.data = .fields fs) (hr : Room j X.A) (hk : k ≤ j) (hg : Gl X x) (ha : PA (X.suite a ((a, oe) :: pn)) (e :: es) t)
    (hdb : (x == ("__debug__" : Str)) = false := by decide) (he : starEach (e :: es) X.env = (false, eval e X.env) :: starEach es X.env := by rfl) (hpl : (backTo pos (starEach es X.env)).any (·.1) = false := by rfl) :
    PE (X.suite a ((a, oe) :: pn)) (.Call (.Name x p) (e :: es) [] pos) (tCallSu sp a cls d t) := by
  obtain ⟨f, fd, ps, F, hm, kp, hb⟩ := c.ex
  refine ⟨fun pins s σ H Q I h => ?_⟩
  refine wpAny_Call_Name_kw (ld_glob I hg hm ?_ hdb)
  refine PySem.W.callWith_K (h₀ := X.base) I.ok.mod.kin kp (thn (ha.run pos pins s σ H _ I h) fun us s1 ⟨vs, H1, I1, r, D, ec, ed, q⟩ => ⟨I1.kIn, ?_⟩) he hpl
  subst ec ed
  have hl : us.length = ps.length := by rw [← r.length]; exact F.len _ _ _ _ _ _ q
  have b := hb s1 us I1.kIn (by rw [List.append_nil]; exact hl)
  rw [List.append_nil] at b
  have P1 := I1.pin (a, oe) (List.mem_append_left _ List.mem_cons_self)
  have hpin : PinOk (X.suite a ((a, oe) :: pn)).stack H1 s1 (a, oe) := ⟨P1.1, P1.2.1, fun hm => (List.mem_cons.mp (I1.stkSub a hm)).elim P1.2.2.1 P1.2.2.2.1, P1.2.2.2.2⟩
  have hr2 : RoomH k (X.suite a ((a, oe) :: pn)).A := ⟨(hr.mono hk).dp, (hr.mono hk).un⟩
  refine wpAny_call (codeAny_mono (F.run _ _ s1 H1 ⟨us, []⟩ us vs Q E0 (a, oe) D hr2 hz hf hpin I1.env0 b r q) fun r s' hq => ?_)
  cases r with
  | error e => exact hq.elim
  | ok fl =>
    cases fl with
    | ret u => exact I1.after hq
    | next => exact hq.elim
    | brk => exact hq.elim
    | cont => exact hq.elim
/-- isinstance of an error that is pinned -/
theorem call_isP {q : Addr × Obj} {D : Addr} (hq : q ∈ X.pn) (C : ExcC X.K D) (hz : Zc (.ref D) none q.2) (hf : ∃ fs, q.2.data = .fields fs) : CallR X (.builtin "isinstance") (rIsE X.K D q.1) := by
  intro pins s σ H xs us Q I r h
  obtain ⟨c, cv, b, rfl, hcv, e, k⟩ := h
  cases r with
  | cons rx rr =>
    cases rr with
    | cons rt rr =>
      cases rr
      cases rx
      have ec := hcv _ rt
      subst ec
      have hget := (I.pin q (List.mem_append_left _ hq)).1
      have J : PySem.W.InstAt s.heap q.1 q.2 D none := by
        obtain ⟨fs, hv⟩ := hf
        obtain ⟨a, oc, od, oda, osl⟩ := q
        obtain ⟨h1, h2⟩ := hz
        dsimp only at h1 h2 hv
        subst h1 h2 hv
        exact ⟨hget, rfl, rfl, trivial⟩
      exact PySem.W.kia_one (PySem.W.handS_kitx_exc C.hg C.hk C.hs C.hd C.ha C.hn C.ht C.hm) I.kIn J e (fun z => nomatch z) fun tk => ⟨.bl b, H, I.kept (t' := tk) fun _ _ z => z, rfl, k⟩
/-- xs.count(x), all of them plain -/
def rCntV (K : PySem.W.Frag) : V → List V → Hp → VK → Prop := fun x xs H Q => ∃ (p : Addr) (ys : List V) (y : V), x = .ref p ∧ xs = [y] ∧ SqL K H p ys ∧ flatV y = true ∧ ys.all flatV = true ∧ Q (.int (ys.countP (fun z => eqV z y) : Nat)) H
theorem countU {x : V} : ∀ {ys : List V} {us : List Value}, Vals ys us → ys.all flatV = true → us.countP (eqU x) = ys.countP fun z => eqV z x
  | _, _, .nil, _ => rfl
  | _, _, .cons r t, f => by
    rw [List.all_cons, Bool.and_eq_true] at f
    rw [List.countP_cons, List.countP_cons, countU t f.2, eqU_of r f.1]
theorem mt_countV : MtR X "list.count" (rCntV X.K) := by
  intro pins s σ H x xs v us Q I rx rxs h
  obtain ⟨p, ys, y, rfl, rfl, hs, fy, fl, q⟩ := h
  cases rx
  obtain ⟨u, rfl, ru⟩ := rxs.one
  obtain ⟨its, rv, ⟨⟨cls, dd, data, sl⟩, n, ho, hc, hdn, hd⟩, hlen⟩ := I.list hs
  simp only at hc hd
  subst hc hd
  refine call_meets PySem.F.slot_list_count ⟨_, ho, rfl⟩ PySem.F.entry_list_count (PySem.F.args_list_count_2 _ _) (SeqAt.list_countAt p its.toArray n dd sl u (eqU y)) ⟨ho, fun z hz => mem_eqAt ru fy rv fl z (by simpa using hz), ?_⟩
  have ec : its.toArray.toList.countP (eqU y) = ys.countP (fun z => eqV z y) := by rw [List.toList_toArray]; exact countU rv fl
  rw [ec]
  exact ⟨.int _, H, I.tok _, ⟨s.toks, rfl⟩, q⟩
end
/-! ### isinstance of one of the five refusals -/
structure AloneAt (K : PySem.W.Frag) (cs : List Addr) (cL : Addr) (D : Addr) (own : Nat) : Prop where
  ex : ExcC K D
  k : ∀ j c, cs[j]? = some c → PySem.W.kitOne K (.ref D) (.ref c) = some (decide (j = own))
  line : PySem.W.kitOne K (.ref D) (.ref cL) = some true
  val : PySem.W.kitOne K (.ref D) (.type "ValueError") = some true
/-- an error of the class D is the own-th of the five and none else -/
def spAlone (K : PySem.W.Frag) (cs : List Addr) (cL : Addr) : Addr → Addr → Sp := fun D a vs H Q _ => ∃ own : Nat, vs = [.ref a, .int (own : Nat)] ∧ own < 5 ∧ AloneAt K cs cL D own ∧ ∀ H', Same H H' → Q (.bl true) H'
/-! ### plain values as data -/
def dOf : V → PyData
  | .bl b => .bool b
  | .int i => .int i
  | .str x => .str x
  | _ => .none
theorem dp_flat {K : PySem.W.Frag} {H : Hp} {v : V} (h : flatV v = true) : Dp K H v (dOf v) := by
  cases v with
  | non => exact .non
  | bl b => exact .bl b
  | int i => exact .int i
  | str x => exact .str x
  | _ => cases h
theorem dpAll_flat {K : PySem.W.Frag} {H : Hp} : ∀ {xs : List V}, xs.all flatV = true → DpAll K H xs (xs.map dOf)
  | [], _ => .nil
  | x :: xs, h => by
    rw [List.all_cons, Bool.and_eq_true] at h
    exact .cons (dp_flat h.1) (dpAll_flat h.2)
theorem dp_tup {K : PySem.W.Frag} {H : Hp} {p : Addr} {xs : List V} (h : SqT K H p xs) (f : xs.all flatV = true) : Dp K H (.ref p) (.tuple (xs.map dOf)) := .tup h (dpAll_flat f)
theorem dp_lst {K : PySem.W.Frag} {H : Hp} {p : Addr} {xs : List V} (h : SqL K H p xs) (f : xs.all flatV = true) : Dp K H (.ref p) (.list (xs.map dOf)) := .lst h (dpAll_flat f)
theorem depth_flat : ∀ xs : List V, PyData.depthAll (xs.map dOf) = 0
  | [] => rfl
  | x :: xs => by
    have e : (dOf x).depth = 0 := by cases x <;> rfl
    rw [List.map_cons, PyData.depthAll, e, depth_flat xs]
    rfl
theorem shaped_tup {xs : List V} (h : PyData.canLayAll0 (xs.map dOf) = true) : SeqAt.shaped (.tuple (xs.map dOf)) = true := by
  have e : PyData.depth (.tuple (xs.map dOf)) = 1 := by rw [PyData.depth, depth_flat]
  unfold SeqAt.shaped
  rw [e]
  show (PyData.canLayAll0 (xs.map dOf) && _) = true
  rw [h]
  rfl
theorem shaped_lst {xs : List V} (h : PyData.canLayAll0 (xs.map dOf) = true) : SeqAt.shaped (.list (xs.map dOf)) = true := by
  have e : PyData.depth (.list (xs.map dOf)) = 1 := by rw [PyData.depth, depth_flat]
  unfold SeqAt.shaped
  rw [e]
  show (PyData.canLayAll0 (xs.map dOf) && _) = true
  rw [h]
  rfl
theorem lay_ints : ∀ ns : List Int, PyData.canLayAll0 ((ns.map V.int).map dOf) = true
  | [] => rfl
  | n :: ns => by
    show (true && PyData.canLayAll0 ((ns.map V.int).map dOf)) = true
    rw [lay_ints ns]
    rfl
theorem eqv_same {d : PyData} (h : SeqAt.shaped d = true) : PyData.eqv d d = true := PySem.SeqAt.eqv_refl d (SeqAt.canLay_of_shaped h)
end Nl

set_option Elab.async false
set_option linter.all false
set_option maxRecDepth 100000
set_option maxHeartbeats 4000000
namespace Nl
open PySem PySem.Spec PyProof.Rows L2 L2H
/-! ### data at any depth -/
mutual
theorem dp_same {K : PySem.W.Frag} {H H' : Hp} (s : Same H H') : ∀ (d : PyData) (v : V), Dp K H v d → Dp K H' v d
  | .none, _, h => by cases h; exact .non
  | .bool _, _, h => by cases h; exact .bl _
  | .int _, _, h => by cases h; exact .int _
  | .str _, _, h => by cases h; exact .str _
  | .list ds, _, h => by
    cases h with
    | lst q a => exact .lst (s.seq q) (dpAll_same s ds _ a)
  | .tuple ds, _, h => by
    cases h with
    | tup q a => exact .tup (s.sqt q) (dpAll_same s ds _ a)
  | .dict _, _, h => by cases h
theorem dpAll_same {K : PySem.W.Frag} {H H' : Hp} (s : Same H H') : ∀ (ds : List PyData) (vs : List V), DpAll K H vs ds → DpAll K H' vs ds
  | [], _, h => by cases h; exact .nil
  | d :: ds, _, h => by
    cases h with
    | cons a b => exact .cons (dp_same s d _ a) (dpAll_same s ds _ b)
end
theorem dpA_len {K : PySem.W.Frag} {H : Hp} : ∀ {vs : List V} {ds : List PyData}, DpAll K H vs ds → vs.length = ds.length
  | _, _, .nil => rfl
  | _, _, .cons _ h => by simp only [List.length_cons, dpA_len h]
theorem dpA_get {K : PySem.W.Frag} {H : Hp} : ∀ {vs : List V} {ds : List PyData} {i : Nat} {v : V}, DpAll K H vs ds → vs[i]? = some v → ∃ d, ds[i]? = some d ∧ Dp K H v d
  | _, _, i, v, .nil, e => by simp at e
  | _, _, 0, v, .cons (d := d) a h, e => by
    rw [List.getElem?_cons_zero] at e
    cases e
    exact ⟨d, rfl, a⟩
  | _, _, i + 1, v, .cons a h, e => by
    rw [List.getElem?_cons_succ] at e
    obtain ⟨d, e2, q⟩ := dpA_get h e
    exact ⟨d, by rw [List.getElem?_cons_succ]; exact e2, q⟩
theorem dpA_set {K : PySem.W.Frag} {H : Hp} {v : V} {d : PyData} (q : Dp K H v d) : ∀ {vs : List V} {ds : List PyData} {i : Nat}, DpAll K H vs ds → DpAll K H (vs.set i v) (ds.set i d)
  | _, _, _, .nil => .nil
  | _, _, 0, .cons a h => .cons q h
  | _, _, i + 1, .cons a h => .cons a (dpA_set q h)
theorem dpA_app {K : PySem.W.Frag} {H : Hp} {v : V} {d : PyData} (q : Dp K H v d) : ∀ {vs : List V} {ds : List PyData}, DpAll K H vs ds → DpAll K H (vs ++ [v]) (ds ++ [d])
  | _, _, .nil => .cons q .nil
  | _, _, .cons a h => .cons a (dpA_app q h)
theorem dpAll_flat2 {K : PySem.W.Frag} {H : Hp} : ∀ {xs : List V}, xs.all flatV = true → DpAll K H xs (xs.map dOf)
  | [], _ => .nil
  | x :: xs, h => by
    rw [List.all_cons, Bool.and_eq_true] at h
    exact .cons (dp_flat h.1) (dpAll_flat2 h.2)
def tyN : PyData → String
  | .none => "NoneType" | .bool _ => "bool" | .int _ => "int" | .str _ => "str" | .list _ => "list" | .tuple _ => "tuple" | .dict _ => "dict"
theorem ty_l {K : PySem.W.Frag} {H : Hp} {a : Addr} {xs : List V} (h : SqL K H a xs) : TyX K H (.ref a) (.type "list") := by
  rcases h with (h | ⟨_, h⟩) | ⟨_, _, _, h, c, _⟩
  · exact .base (.lst h)
  · exact .base (.frz h)
  · exact .kList h c
theorem ty_t {K : PySem.W.Frag} {H : Hp} {a : Addr} {xs : List V} (h : SqT K H a xs) : TyX K H (.ref a) (.type "tuple") := by
  rcases h with (h | ⟨_, h⟩) | ⟨_, _, _, h, c, _⟩
  · exact .base (.tup h)
  · exact .fTuple h
  · exact .kTuple h c
theorem dp_ty {K : PySem.W.Frag} {H : Hp} {v : V} {d : PyData} (h : Dp K H v d) : TyX K H v (.type (tyN d)) := by
  cases h with
  | non => exact .base .non
  | bl b => exact .base (.bl b)
  | int i => exact .base (.int i)
  | str x => exact .base (.str x)
  | lst h _ => exact ty_l h
  | tup h _ => exact ty_t h
theorem tyN_in (d : PyData) : tyN d ∈ ["NoneType", "bool", "int", "str", "list", "tuple", "dict"] := by
  cases d <;> simp [tyN]
theorem kit_d {n : String} (h : ∀ a ∈ ["NoneType", "bool", "int", "str", "list", "tuple", "dict"], kitB a n = some (decide (a = n))) (d : PyData) : kitB (tyN d) n = some (decide (tyN d = n)) := h _ (tyN_in d)
theorem kit_int (d : PyData) : kitB (tyN d) "int" = some (decide (tyN d = "int" ∨ tyN d = "bool")) :=
  (by decide +kernel : ∀ a ∈ ["NoneType", "bool", "int", "str", "list", "tuple", "dict"], kitB a "int" = some (decide (a = "int" ∨ a = "bool"))) _ (tyN_in d)
theorem kit_bool (d : PyData) : kitB (tyN d) "bool" = some (decide (tyN d = "bool")) := kit_d (by decide +kernel) d
theorem kit_tup (d : PyData) : kitB (tyN d) "tuple" = some (decide (tyN d = "tuple")) := kit_d (by decide +kernel) d
theorem kit_str (d : PyData) : kitB (tyN d) "str" = some (decide (tyN d = "str")) := kit_d (by decide +kernel) d
/-- for x in an iterator -/
theorem for_gen {J : It} {g : TG} {tb : TS} {D : Ends} {σ : L2.St} {H : Hp} (n : Nat) (Pv : Nat → L2.St → Hp → Prop) (h0 : Pv 0 σ H) (go : ∀ i σ H, i < n → Pv i σ H → J.go i H) (stop : ∀ σ H, Pv n σ H → J.stop n H)
    (hs : ∀ i σ H y H', i < n → Pv i σ H → J.yld i H y H' → g y σ H' fun σ2 H2 => tb { D with nx := Pv (i + 1), ct := Pv (i + 1), bk := D.nx } σ2 H2) (hd : ∀ σ H, Pv n σ H → D.nx σ H) :
    ∃ W : Nat → Nat → L2.St → Hp → Prop, (∃ m, W 0 m σ H) ∧ ∀ i m σ H, W i m σ H →
      (J.stop i H ∧ D.nx σ H) ∨ (J.go i H ∧ ∃ N : L2.St → Hp → Prop, (∀ σ' H', N σ' H' → ∃ m', m' < m ∧ W (i + 1) m' σ' H') ∧ ∀ y H', J.yld i H y H' → g y σ H' fun σ2 H2 => tb { D with nx := N, ct := N, bk := D.nx } σ2 H2) := by
  refine ⟨fun i m σ H => m = n - i ∧ i ≤ n ∧ Pv i σ H, ⟨n, by simp, Nat.zero_le _, h0⟩, ?_⟩
  rintro i m σ H ⟨rfl, hi, p⟩
  by_cases hlt : i < n
  · exact .inr ⟨go i σ H hlt p, Pv (i + 1), fun σ' H' p' => ⟨n - (i + 1), by omega, rfl, hlt, p'⟩, fun y H' q => hs i σ H y H' hlt p q⟩
  · have e : i = n := by omega
    subst e
    exact .inl ⟨stop σ H p, hd σ H p⟩
/-- a whole number within the bounds, True and False are none -/
def wholeIn (d : PyData) (lo hi : Int) : Bool := match d with
  | .int i => decide (lo ≤ i) && decide (i ≤ hi)
  | _ => false
def lastOf (size count : Int) (k : Str) : Int := if k = "box" then size - 1 else if k = "number" then 999999 else count
def fitK (size count : Int) (l : List Str) (ps : List PyData) : Bool := (List.range l.length).all fun k => wholeIn (ps.getD k .none) 0 (lastOf size count (l.getD k Str.empty))
theorem cutV_1 (x : V) (xs : List V) : cutV (x :: xs) (some 1) none = xs := by
  unfold cutV
  have h1 : HT.sIx (x :: xs).length 0 (some 1) = 1 := by
    have := HT.sIx_nat (x :: xs).length 0 1
    simp only [List.length_cons] at this ⊢
    rw [show ((1 : Nat) : Int) = 1 from rfl] at this
    rw [this]
    omega
  rw [h1, HT.sIx_none]
  simp
theorem dpA_by {K : PySem.W.Frag} {H : Hp} : ∀ {vs : List V} {ds : List PyData}, vs.length = ds.length → (∀ (j : Nat) (v : V), vs[j]? = some v → ∃ d, ds[j]? = some d ∧ Dp K H v d) → DpAll K H vs ds
  | [], [], _, _ => .nil
  | v :: vs, d :: ds, hl, h => by
    refine .cons ?_ (dpA_by (Nat.succ.inj hl) fun j v' e => ?_)
    · obtain ⟨d', e, q⟩ := h 0 v rfl
      cases e
      exact q
    · obtain ⟨d', e', q⟩ := h (j + 1) v' (by rw [List.getElem?_cons_succ]; exact e)
      exact ⟨d', by rw [List.getElem?_cons_succ] at e'; exact e', q⟩
  | [], _ :: _, hl, _ => by cases hl
  | _ :: _, [], hl, _ => by cases hl
/-- [a new tuple for k in range(..)] -/
theorem lc_tr {g : TG} {tt : TT} {te : TE} {vs : List Nat} {σ : L2.St} {H1 : Hp} {D : Addr} {Qd : Hp → Prop} {lo : Int} {n : Nat} (fx : Nat → List V) (hD : H1 D = none) (hz : n < sizeLine)
    (hs : ∀ i H, i < n → Same H1 H → ∀ (k1 : VK) (k0 : Hp → Prop), (∀ p H', H' p = some (.tup (fx i)) → Same H H' → k1 (.ref p) H') →
      g (.int (lo + (i : Nat))) (wipe σ vs) H fun σ2 H2 => wipe σ2 vs = wipe σ vs ∧ tt σ2 H2 fun b H3 => if b = true then te σ2 H3 k1 else k0 H3)
    (hd : ∀ H acc, Same H1 H → H D = some (.lst acc) → acc.length = n → (∀ j, j < n → ∃ p, acc[j]? = some (.ref p) ∧ H p = some (.tup (fx j))) → Qd H) : LcW (Itr lo n) g tt te vs σ H1 D Qd := by
  refine ⟨fun i m H => m = n - i ∧ i ≤ n ∧ Same H1 H ∧ ∃ acc, H D = some (.lst acc) ∧ acc.length = i ∧ ∀ j, j < i → ∃ p, acc[j]? = some (.ref p) ∧ H p = some (.tup (fx j)), ⟨n, by simp, Nat.zero_le _, Same.new hD, [], upd_same, rfl, fun j h => absurd h (Nat.not_lt_zero _)⟩, ?_⟩
  rintro i m H ⟨rfl, hi, s1, acc, h1, hl, ha⟩
  by_cases hlt : i < n
  · refine .inr ⟨hlt, fun H' => Same H1 H' ∧ ∃ acc, H' D = some (.lst acc) ∧ acc.length = i + 1 ∧ ∀ j, j < i + 1 → ∃ p, acc[j]? = some (.ref p) ∧ H' p = some (.tup (fx j)), fun H' p' => ⟨n - (i + 1), by omega, rfl, hlt, p'⟩, fun x H' y => ?_⟩
    obtain ⟨e, y⟩ := y
    subst e y
    refine hs i _ hlt s1 _ _ (fun p H'' hp s3 => ?_)
    refine ⟨acc, s3 _ _ h1, by omega, (s1.trans s3).mut hD, acc ++ [.ref p], upd_same, by rw [List.length_append, hl]; rfl, fun j hj => ?_⟩
    have hne : ∀ q u, H'' q = some (.tup u) → q ≠ D := fun q u e z => by
      rw [z, s3 _ _ h1] at e
      cases e
    by_cases h : j < i
    · obtain ⟨q, e1, e2⟩ := ha j h
      have e3 := s3 _ _ e2
      exact ⟨q, by rw [List.getElem?_append_left (by omega)]; exact e1, by rw [upd_ne (hne q _ e3)]; exact e3⟩
    · have : j = i := by omega
      subst this
      exact ⟨p, by rw [List.getElem?_append_right (by omega), hl, Nat.sub_self]; rfl, by rw [upd_ne (hne p _ hp)]; exact hp⟩
  · have e : i = n := by omega
    subst e
    exact .inl ⟨Nat.le_refl _, hd H acc s1 h1 hl ha⟩
end Nl

set_option Elab.async false
set_option linter.all false
set_option maxRecDepth 100000
set_option maxHeartbeats 4000000
namespace Nl
open PySem PySem.Spec PyProof.Rows L2 L2H
/-! ### match over a tuple whose first item is a text -/
/-- the cases of a match, by the subject -/
structure PMs (X : Cx) (cs : List MatchCase) (t : V → TS) : Prop where
  run : ∀ (pins : List (Addr × Obj)) (s : Shared) (σ : L2.St) (H : Hp) (D : Ends) (v : V) (u : Value) (first : Bool), Inv X pins σ H s → RelV v u → t v D σ H → wpAny (model X.prog X.w) X.A (matchCases cs X.env u first) (SP X pins D) X.xe s
def mNil : V → TS := fun _ D σ H => D.nx σ H
theorem pm_nil {X : Cx} : PMs X [] mNil := ⟨fun pins s σ H D v u first I r h => wpAny_matchCases_nil ⟨σ, H, I, h⟩⟩
/-- the names of the other items go to their slots -/
def setAll : List Nat → List V → L2.St → L2.St
  | i :: is, y :: ys, σ => setAll is ys (σ.set i (some y))
  | _, _, σ => σ
inductive Caps (X : Cx) : List Pattern → List Nat → Prop
  | nil : Caps X [] []
  | cons {x : Str} {p : Pos} {ps : List Pattern} {i : Nat} {is : List Nat} (hi : X.N[i]? = some x) (hx : Loc X.env.scope x) (hf : X.fn x = true ∨ X.env.scope.names.lookup x = some .local) (h : Caps X ps is) : Caps X (.MatchAs none (some x) p :: ps) (i :: is)
def capB : List Pattern → List Value → List (Str × Value)
  | .MatchAs none (some x) _ :: ps, u :: us => (x, u) :: capB ps us
  | _, _ => []
theorem Caps.len {X : Cx} {ps : List Pattern} {is : List Nat} (c : Caps X ps is) : ps.length = is.length := by
  induction c with
  | nil => rfl
  | cons _ _ _ _ ih => rw [List.length_cons, List.length_cons, ih]
theorem caps_each {X : Cx} {M : Model} {A : Around} {E : Value → Shared → Prop} {env : Env} {ps : List Pattern} {is : List Nat} (c : Caps X ps is) : ∀ {us : List Value} {s : Shared} {Q : Option (List (Str × Value)) → Shared → Prop}, us.length = ps.length → Q (some (capB ps us)) s → wpAny M A (matchEach ps env us) Q E s := by
  induction c with
  | nil => exact fun _ h => wpAny_matchEach_nil h
  | cons hi hx hf c ih =>
    intro us s Q hl h
    cases us with
    | nil => cases hl
    | cons u us =>
      refine wpAny_matchEach_cons (wpAny_matchPattern_Capture ?_)
      exact ih (Nat.succ.inj hl) h
theorem caps_set {X : Cx} (hN : X.N.Nodup) {pins : List (Addr × Obj)} {H : Hp} {ps : List Pattern} {is : List Nat} (c : Caps X ps is) : ∀ {ys : List V} {us : List Value} {σ : L2.St} {s : Shared} {Q : Unit → Shared → Prop}, Vals ys us → us.length = ps.length → Inv X pins σ H s → (∀ s', Inv X pins (setAll is ys σ) H s' → Q () s') →
    wpAny (model X.prog X.w) X.A (assignInOrder ((capB ps us).map fun (n, _) => bindName X.env n) ((capB ps us).map (·.2))) Q X.xe s := by
  induction c with
  | nil => exact fun r hl I h => wpAny_assignInOrder_none (by
      cases r with
      | nil => exact h _ I
      | cons _ _ => cases hl)
  | cons hi hx hf c ih =>
    intro ys us σ s Q r hl I h
    cases r with
    | nil => cases hl
    | cons r rr =>
      refine wpAny_assignInOrder_more (wpAny_bindName (store_ok I hN hi hx r (fun s1 I1 => ?_) hf))
      exact ih rr (Nat.succ.inj hl) I1 h
def mSeq (K : PySem.W.Frag) (x : Str) (is : List Nat) (b : TS) (r : V → TS) : V → TS := fun v D σ H => ∃ (a : Addr) (z : Str) (ys : List V), v = .ref a ∧ SqT K H a (.str z :: ys) ∧ (ys.length = is.length ∧ z = x → b D (setAll is ys σ) H) ∧ (¬ (ys.length = is.length ∧ z = x) → r v D σ H)
theorem pm_seq {X : Cx} (hc : X.calm = true) (hN : X.N.Nodup) {x : Str} {j : Nat} {p1 p2 p3 : Pos} {ps : List Pattern} {is : List Nat} {body : List Stmt} {rest : List MatchCase} {b : TS} {r : V → TS} (hC : Caps X ps is) (hb : PSs X body b) (hr : PMs X rest r)
    (hs : (Pattern.MatchValue (.Constant (.str x) j p1) p2 :: ps).findIdx? (·.isStar) = none := by rfl) (hw : ((Pattern.MatchValue (.Constant (.str x) j p1) p2 :: ps).all fun p => p.isWildcard || (p.isStar && p.names.isEmpty)) = false := by rfl) :
    PMs X (⟨.MatchSequence (.MatchValue (.Constant (.str x) j p1) p2 :: ps) p3, none, body⟩ :: rest) (mSeq X.K x is b r) := by
  refine ⟨fun pins s σ H D v u first I rv h => ?_⟩
  obtain ⟨a, z, ys, rfl, hS, h1, h0⟩ := h
  cases (show u = Value.ref a from rv)
  obtain ⟨its, ri, ht, hz⟩ := I.tuple hS
  have hfit : ((its.toArray.size : Nat) : Int) < 2 ^ 63 := by
    have e := ri.length
    rw [List.size_toArray, ← e]
    have : sizeLine < 2 ^ 63 := by decide
    omega
  cases ri with
  | @cons _ v0 _ us r0 rr =>
    have hlen := rr.length
    refine wpAny_matchCases_cons ?_
    by_cases hn : ys.length = is.length
    · have hps : (v0 :: us).toArray.size = (Pattern.MatchValue (.Constant (.str x) j p1) p2 :: ps).length := by
        rw [List.size_toArray, List.length_cons, List.length_cons, hC.len]
        omega
      refine matchSeq_tuple_hit ht hfit hps ?_ hs hw
      rw [← hps]
      refine unpackItems_tuple (I.ok.hd hc) ht fun h' hx => ?_
      have I1 : Inv X pins σ H { s with heap := h', toks := s.toks + 1 + 1 } := I.kept (t' := s.toks + 1 + 1) fun b o e => hx b o (Nat.ne_of_lt (Heap.lt_size e)) e
      refine wpAny_matchEach_cons (wpAny_matchPattern_Value ?_)
      refine thn ((pe_str (x := x) (j := j) (pos := p1)).run pins _ σ H (fun y H1 => y = .str x ∧ H1 = H) I1 ⟨rfl, rfl⟩) fun u1 s1 ⟨y, H1, I2, ry, ey, eH⟩ => ?_
      subst ey eH
      refine thn (op_eq pins s1 σ _ (.str z) (.str x) v0 u1 (fun q H2 => q = .bl (decide (V.str z = V.str x)) ∧ H2 = H1) I2 r0 ry ⟨rfl, rfl, rfl⟩) fun c s2 ⟨q, H2, I3, rq, eq, eH⟩ => ?_
      subst eq eH
      cases rq
      refine wpAny_truthy_bool ?_
      by_cases hzx : z = x
      · rw [if_pos (decide_eq_true (congrArg V.str hzx))]
        refine caps_each hC (by rw [hC.len]; omega) ?_
        refine caps_set hN hC rr (by rw [hC.len]; omega) I3 fun s3 I4 => ?_
        exact hb.run pins s3 _ _ D I4 (h1 ⟨hn, hzx⟩)
      · rw [if_neg (fun e => hzx (V.str.inj (of_decide_eq_true e)))]
        exact hr.run pins s2 σ _ D (.ref a) _ _ I3 rfl (h0 fun e => hzx e.2)
    · have hps : (v0 :: us).toArray.size ≠ (Pattern.MatchValue (.Constant (.str x) j p1) p2 :: ps).length := by
        rw [List.size_toArray, List.length_cons, List.length_cons, hC.len]
        omega
      exact matchSeq_tuple_miss ht hfit hps (hr.run pins _ σ _ D (.ref a) _ _ (I.tok _) rfl (h0 fun e => hn e.1)) hs hw
/-- match e: .. -/
def tMatch (te : TE) (t : V → TS) : TS := fun D σ H => te σ H fun v H1 => t v D σ H1
theorem ps_match {X : Cx} {e : Expr} {cs : List MatchCase} {pos : Pos} {te : TE} {t : V → TS} (he : PE X e te) (hm : PMs X cs t) : PS X (.Match e cs pos) (tMatch te t) := by
  refine ⟨fun pins s σ H D I h => ?_⟩
  exact wpAny_Match (thn (he.run pins s σ H _ I h) fun u s1 ⟨v, H1, I1, r, q⟩ => hm.run pins s1 σ H1 D v u true I1 r q)
end Nl

set_option Elab.async false
set_option linter.all false
set_option maxRecDepth 100000
set_option maxHeartbeats 4000000
namespace Nl
open PySem PySem.Spec PyProof.Rows L2 L2H
/-! ### a method of a class of the top, as it stands -/
def MethAt (K : PySem.W.Frag) (C : Addr) (m qual : Str) (st : Stmt) : Prop :=
  ∃ (f : Addr) (oc : Value) (od an : Option Addr) (osl : Array (Option Value)) (kV doc pm cdv ct : Value),
    PySem.W.findIn K (.ref C) m = some (some (.ref f)) ∧ PySem.W.isFn K (.ref f) = true ∧
    K.lookup f = some ⟨oc, od, .func (PySem.W.fnOf m qual (defArgs st) (defBody st) (defScope st) .none kV doc pm an cdv ct), osl⟩ ∧
    PySem.W.codeIn K cdv qual = true ∧ PySem.W.keepIn K (.ref f) = true
theorem meth_mk {K : PySem.W.Frag} {C : Addr} {m qual : Str} {st : Stmt} {f : Addr} {oc : Value} {od an : Option Addr} {osl : Array (Option Value)} {kV doc pm cdv ct : Value} (a : PySem.W.findIn K (.ref C) m = some (some (.ref f))) (i : PySem.W.isFn K (.ref f) = true)
    (l : K.lookup f = some ⟨oc, od, .func (PySem.W.fnOf m qual (defArgs st) (defBody st) (defScope st) .none kV doc pm an cdv ct), osl⟩) (c : PySem.W.codeIn K cdv qual = true) (k : PySem.W.keepIn K (.ref f) = true) : MethAt K C m qual st :=
  ⟨f, oc, od, an, osl, kV, doc, pm, cdv, ct, a, i, l, c, k⟩
theorem cls_mk {K : PySem.W.Frag} {C : Addr} (pg : PySem.W.plainGet K C Str.empty = true) (hd : PySem.W.hasDictIn K C = true) (po : PySem.W.plainOver K C = true) (sa : PySem.W.findIn K (.ref C) "__setattr__" = some (some (.builtin "object.__setattr__"))) : Cls K C := ⟨pg, hd, po, sa⟩
section
variable {P : Program} {w : World} {K : PySem.W.Frag} {mg : Str → Option Value} {base : Heap}
abbrev BindM (m qual : Str) (st : Stmt) (ps : List Str) : Prop := ∀ (kV doc pm : Value) (an : Option Addr) (cdv ct : Value) (us : List Value), us.length = ps.length →
  bindArgs (PySem.W.fnOf m qual (defArgs st) (defBody st) (defScope st) .none kV doc pm an cdv ct) ⟨us, []⟩ = pure (ps.zip us)
theorem met_of {C : Addr} {m qual : Str} {st : Stmt} {N ps : List Str} {k : Nat} {sp : Sp} (c : Cls K C) (D : MethAt K C m qual st) (S : FnScope N ps (defScope st)) (b : BindM m qual st ps) (len : ∀ vs H Q E, sp vs H Q E → vs.length = ps.length)
    (hbody : ∀ (f : Addr) (cdv : Value) (A : Around) (outer : List Env) (s : Shared) (H : Hp) (vs : List V) (Q : VK) (E : XK), Room k (A.deeper (envOfC qual (defScope st) s.heap.objs.size f cdv)) → sp vs H Q E →
      ∃ t, PSs (cxOf CX0 P w K mg base N qual (defScope st) f cdv A outer s H E).nox (defBody st) t ∧ t { nx := fun _ H' => Q .non H', rt := Q } (start N vs) H) : C8.Met P w K mg base (k + 1) C m sp [] := by
  obtain ⟨f, oc, od, an, osl, kV, doc, pm, cdv, ct, a, i, l, cc, kp⟩ := D
  have F := fun_mk (st := st) l cc kp
  exact ⟨f, _, ps, [], c, ⟨a, i, kp⟩, F.ok S len (fun cdv A outer s H vs Q E hr h => hbody f cdv A outer s H vs Q E hr h), F.binds b, .nil⟩
theorem mak_of {C : Addr} {x qual : Str} {st : Stmt} {N ps : List Str} {k : Nat} {sp : Sp} (mk : PySem.W.makesIn K C = true) (kc : PySem.W.keepIn K (.ref C) = true) (hm : mg x = some (.ref C)) (D : MethAt K C "__init__" qual st) (S : FnScope N ps (defScope st)) (b : BindM "__init__" qual st ps) (len : ∀ vs H Q E, sp vs H Q E → vs.length = ps.length)
    (hbody : ∀ (f : Addr) (cdv : Value) (A : Around) (outer : List Env) (s : Shared) (H : Hp) (vs : List V) (Q : VK) (E : XK), Room k (A.deeper (envOfC qual (defScope st) s.heap.objs.size f cdv)) → sp vs H Q E →
      ∃ t, PSs (cxOf CX0 P w K mg base N qual (defScope st) f cdv A outer s H E).nox (defBody st) t ∧ t { nx := fun _ H' => Q .non H', rt := Q } (start N vs) H) : C8.Mak P w K mg base (k + 1) x C sp [] := by
  obtain ⟨f, oc, od, an, osl, kV, doc, pm, cdv, ct, a, i, l, cc, kp⟩ := D
  have F := fun_mk (st := st) l cc kp
  exact ⟨f, _, ps, [], ⟨mk, a, i, kc⟩, F.ok S len (fun cdv A outer s H vs Q E hr h => hbody f cdv A outer s H vs Q E hr h), hm, F.binds b, .nil⟩
end
/-- all but two objects stay -/
def Fr (H H' : Hp) (a b : Addr) : Prop := ∀ q o, H q = some o → q ≠ a → q ≠ b → H' q = some o
end Nl

set_option Elab.async false
set_option linter.all false
set_option maxRecDepth 100000
set_option maxHeartbeats 4000000
namespace Nl
open PySem PySem.Spec PyProof.Rows L2 L2H
section
variable {P : Program} {w : World} {K : PySem.W.Frag} {mg : Str → Option Value} {base : Heap}
theorem Cal.imp {CX : CXT} {k : Nat} {x : Str} {sp sp2 : Sp} (c : Cal P w K mg base CX k x sp) (h : ∀ vs H Q E, sp2 vs H Q E → sp vs H Q E) : Cal P w K mg base CX k x sp2 := by
  obtain ⟨f, fd, ps, F, r⟩ := c.ex
  exact ⟨f, fd, ps, F.imp h, r⟩
end
/-- the type of a thing that is no object of the program's own -/
def spWhole (K : PySem.W.Frag) : Sp := fun vs H Q _ => ∃ (v : V) (n : String), vs = [v] ∧ TyX K H v (.type n) ∧ kitB n "int" = some (decide (n = "int" ∨ n = "bool")) ∧ kitB n "bool" = some (decide (n = "bool")) ∧ Q (.bl (decide (n = "int"))) H
/-- a whole number from lo to hi, any thing at all -/
def wholeV (v : V) (lo hi : Int) : Bool := match v with
  | .int i => decide (lo ≤ i) && decide (i ≤ hi)
  | _ => false
/-- what is asked of a thing of any type that is no object of the program's own -/
def AnyT (K : PySem.W.Frag) (H : Hp) (v : V) : Prop := ∃ n : String, TyX K H v (.type n) ∧ kitB n "int" = some (decide (n = "int" ∨ n = "bool")) ∧ kitB n "bool" = some (decide (n = "bool")) ∧ (n = "int" → ∃ i, v = .int i) ∧ ∀ i, v = .int i → n = "int"
def spIsWholeV (K : PySem.W.Frag) : Sp := fun vs H Q _ => ∃ (v : V) (lo hi : Int), vs = [v, .int lo, .int hi] ∧ AnyT K H v ∧ Q (.bl (wholeV v lo hi)) H
def spIsWhole (K : PySem.W.Frag) : Sp := fun vs H Q _ => ∃ (v : V) (d : PyData) (lo hi : Int), vs = [v, .int lo, .int hi] ∧ Dp K H v d ∧ Q (.bl (wholeIn d lo hi)) H
theorem any_dp {K : PySem.W.Frag} {H : Hp} {v : V} {d : PyData} (h : Dp K H v d) : AnyT K H v := by
  refine ⟨tyN d, dp_ty h, kit_int d, kit_bool d, fun e => ?_, fun i e => ?_⟩
  · cases h with
    | int i => exact ⟨i, rfl⟩
    | _ => simp [tyN] at e
  · subst e
    cases h
    rfl
theorem any_int {K : PySem.W.Frag} {H : Hp} (i : Int) : AnyT K H (.int i) := any_dp (.int i)
theorem whole_dp {K : PySem.W.Frag} {H : Hp} {v : V} {d : PyData} (h : Dp K H v d) (lo hi : Int) : wholeV v lo hi = wholeIn d lo hi := by
  cases h <;> rfl
/-- readings by their names, for a comprehension -/
def rLen (K : PySem.W.Frag) : List V → Hp → VK → Prop := fun xs H Q => ∃ p ys, xs = [V.ref p] ∧ (SqL K H p ys ∨ SqT K H p ys) ∧ Q (V.int ys.length) H
def rListOf (K : PySem.W.Frag) : List V → Hp → VK → Prop := fun xs H Q => ∃ p ys, xs = [.ref p] ∧ (SqL K H p ys ∨ SqT K H p ys) ∧ ∀ l, H l = none → Q (.ref l) (upd H l (.lst ys))
/-! ### data that may be laid -/
theorem canAll {ds : List PyData} (h : ∀ d ∈ ds, PyData.canLay0 d = true) : PyData.canLayAll0 ds = true := by
  induction ds with
  | nil => rfl
  | cons d ds ih =>
    show (PyData.canLay0 d && PyData.canLayAll0 ds) = true
    rw [h d List.mem_cons_self, ih fun e he => h e (List.mem_cons_of_mem _ he)]
    rfl
theorem depAll {n : Nat} {ds : List PyData} (h : ∀ d ∈ ds, PyData.depth d ≤ n) : PyData.depthAll ds ≤ n := by
  induction ds with
  | nil => exact Nat.zero_le _
  | cons d ds ih =>
    rw [PyData.depthAll]
    exact Nat.max_le.mpr ⟨h d List.mem_cons_self, ih fun e he => h e (List.mem_cons_of_mem _ he)⟩
/-- texts that may be laid, not deeper than n -/
def okD (n : Nat) (d : PyData) : Prop := PyData.canLay0 d = true ∧ PyData.depth d ≤ n
theorem okD.mono {n m : Nat} {d : PyData} (h : okD n d) (e : n ≤ m) : okD m d := ⟨h.1, Nat.le_trans h.2 e⟩
theorem okD.tup {n : Nat} {ds : List PyData} (h : ∀ d ∈ ds, okD n d) : okD (n + 1) (.tuple ds) :=
  ⟨canAll fun d hd => (h d hd).1, by rw [PyData.depth]; exact Nat.succ_le_succ (depAll fun d hd => (h d hd).2)⟩
theorem okD.lst {n : Nat} {ds : List PyData} (h : ∀ d ∈ ds, okD n d) : okD (n + 1) (.list ds) :=
  ⟨canAll fun d hd => (h d hd).1, by rw [PyData.depth]; exact Nat.succ_le_succ (depAll fun d hd => (h d hd).2)⟩
theorem okD.shaped {n : Nat} {d : PyData} (h : okD n d) (e : n ≤ 64) : SeqAt.shaped d = true := by
  unfold SeqAt.shaped
  rw [h.1, decide_eq_true (Nat.le_trans h.2 e)]
  rfl
theorem okD.int (n : Nat) (i : Int) : okD n (.int i) := ⟨rfl, Nat.zero_le _⟩
theorem okD.bl (n : Nat) (i : Bool) : okD n (.bool i) := ⟨rfl, Nat.zero_le _⟩
theorem okD.non (n : Nat) : okD n .none := ⟨rfl, Nat.zero_le _⟩
theorem okD.str (n : Nat) {z : Str} (h : PyData.strOk z = true) : okD n (.str z) := ⟨h, Nat.zero_le _⟩
theorem okD.ints {n : Nat} (ns : List Int) : ∀ d ∈ (ns.map V.int).map dOf, okD n d := fun d hd => by
  rw [List.map_map] at hd
  obtain ⟨i, _, rfl⟩ := List.mem_map.mp hd
  exact .int _ _
theorem dpA_int {K : PySem.W.Frag} {H : Hp} (ns : List Int) : DpAll K H (ns.map V.int) ((ns.map V.int).map dOf) := dpAll_flat2 (by rw [List.all_map]; exact List.all_eq_true.mpr fun _ _ => rfl)
/-- of each place one thing: a list of them -/
theorem choose_list {α : Type} (P : Nat → α → Prop) : ∀ n : Nat, (∀ j, j < n → ∃ x, P j x) → ∃ l : List α, l.length = n ∧ ∀ j x, l[j]? = some x → P j x
  | 0, _ => ⟨[], rfl, fun j x e => by simp at e⟩
  | n + 1, h => by
    obtain ⟨l, hl, hp⟩ := choose_list P n fun j hj => h j (Nat.lt_succ_of_lt hj)
    obtain ⟨y, hy⟩ := h n (Nat.lt_succ_self n)
    refine ⟨l ++ [y], by rw [List.length_append, hl]; rfl, fun j x e => ?_⟩
    by_cases hj : j < l.length
    · rw [List.getElem?_append_left hj] at e
      exact hp j x e
    · rw [List.getElem?_append_right (by omega)] at e
      have h0 : j - l.length = 0 := by
        have := (List.getElem?_eq_some_iff.mp e).1
        simp only [List.length_singleton] at this
        omega
      rw [h0] at e
      cases e
      rw [show j = n by omega]
      exact hy
/-- [a new tuple for x in a list]; of each tuple R is known -/
theorem lc_le {K : PySem.W.Frag} {g : TG} {tt : TT} {te : TE} {vs : List Nat} {σ : L2.St} {H1 : Hp} {D a : Addr} {Qd : Hp → Prop} {xs : List V} (R : Nat → List V → Prop) (hD : H1 D = none) (hq : SqL K H1 a xs) (hz : xs.length < sizeLine)
    (hs : ∀ i x H, xs[i]? = some x → Same H1 H → ∀ (k1 : VK) (k0 : Hp → Prop), (∀ p fx H', R i fx → H' p = some (.tup fx) → Same H H' → k1 (.ref p) H') →
      g x (wipe σ vs) H fun σ2 H2 => wipe σ2 vs = wipe σ vs ∧ tt σ2 H2 fun b H3 => if b = true then te σ2 H3 k1 else k0 H3)
    (hd : ∀ H acc, Same H1 H → H D = some (.lst acc) → acc.length = xs.length → (∀ j, j < xs.length → ∃ p fx, acc[j]? = some (.ref p) ∧ H p = some (.tup fx) ∧ R j fx) → Qd H) : LcW (Itl K a) g tt te vs σ H1 D Qd := by
  refine ⟨fun i m H => m = xs.length - i ∧ i ≤ xs.length ∧ Same H1 H ∧ ∃ acc, H D = some (.lst acc) ∧ acc.length = i ∧ ∀ j, j < i → ∃ p fx, acc[j]? = some (.ref p) ∧ H p = some (.tup fx) ∧ R j fx, ⟨xs.length, by simp, Nat.zero_le _, Same.new hD, [], upd_same, rfl, fun j h => absurd h (Nat.not_lt_zero _)⟩, ?_⟩
  rintro i m H ⟨rfl, hi, s1, acc, h1, hl, ha⟩
  by_cases hlt : i < xs.length
  · refine .inr ⟨⟨xs, xs[i], s1.seq hq, by simp [hlt]⟩, fun H' => Same H1 H' ∧ ∃ acc, H' D = some (.lst acc) ∧ acc.length = i + 1 ∧ ∀ j, j < i + 1 → ∃ p fx, acc[j]? = some (.ref p) ∧ H' p = some (.tup fx) ∧ R j fx, fun H' p' => ⟨xs.length - (i + 1), by omega, rfl, hlt, p'⟩, fun x H' y => ?_⟩
    obtain ⟨e, y⟩ := y
    subst e
    refine hs i x _ (y xs (s1.seq hq)) s1 _ _ (fun p fx H'' hR hp s3 => ?_)
    refine ⟨acc, s3 _ _ h1, by omega, (s1.trans s3).mut hD, acc ++ [.ref p], upd_same, by rw [List.length_append, hl]; rfl, fun j hj => ?_⟩
    have hne : ∀ q u, H'' q = some (.tup u) → q ≠ D := fun q u e z => by
      rw [z, s3 _ _ h1] at e
      cases e
    by_cases h : j < i
    · obtain ⟨q, fy, e1, e2, e4⟩ := ha j h
      have e3 := s3 _ _ e2
      exact ⟨q, fy, by rw [List.getElem?_append_left (by omega)]; exact e1, by rw [upd_ne (hne q _ e3)]; exact e3, e4⟩
    · have : j = i := by omega
      subst this
      exact ⟨p, fx, by rw [List.getElem?_append_right (by omega), hl, Nat.sub_self]; rfl, by rw [upd_ne (hne p _ hp)]; exact hp, hR⟩
  · have e : i = xs.length := by omega
    subst e
    exact .inl ⟨⟨xs, s1.seq hq, Nat.le_refl _⟩, hd H acc s1 h1 hl ha⟩
/-- a slice of a list of whole numbers -/
theorem cutV_int (ns : List Int) (lo hi : Option Int) : ∃ cs : List Int, cutV (ns.map V.int) lo hi = cs.map V.int ∧ cs.length ≤ ns.length := by
  unfold cutV
  rw [← List.map_drop, ← List.map_take]
  refine ⟨_, rfl, ?_⟩
  rw [List.length_take, List.length_drop]
  omega
end Nl

set_option Elab.async false
set_option linter.all false
set_option maxRecDepth 100000
set_option maxHeartbeats 4000000
namespace Nl
open PySem PySem.Spec PyProof.Rows L2 L2H
def top (i : Nat) : Stmt := PySem.Challenge.pw_nearlines_k04_a_row_done.main.body.getD i (.Pass ⟨0, 0, 0, 0⟩)
def inClass (st : Stmt) (i : Nat) : Stmt := match st with
  | .ClassDef (body := b) .. => b.getD i (.Pass ⟨0, 0, 0, 0⟩)
  | _ => .Pass ⟨0, 0, 0, 0⟩
theorem sz_ok {n : Nat} (h : Nat.ble n 1000 = true) : n ≤ sizeLine := Nat.le_trans (Nat.le_of_ble_eq_true h) (by decide)
local macro_rules | `(tactic| walk_at "rd") => `(tactic| first
  | refine ⟨_, rfl, ?_⟩
  | refine ⟨_, _, rfl, rfl, ⟨by decide, by decide⟩, ?_⟩
  | refine ⟨_, _, rfl, rfl, (by show (0 : Int) < _; decide), ?_⟩
  | refine ⟨_, _, rfl, rfl, .inr ⟨by decide, by decide⟩, ?_⟩
  | refine ⟨_, _, rfl, rfl, ?_⟩
  | refine ⟨rfl, ?_⟩)
theorem hu64_of {k : Nat} {A : Around} (hr : Room k A) : A.units + 64 < cLine := by
  have := hr.un
  omega

structure Txt (K : PySem.W.Frag) (w : World) (mg : Str → Option Value) : Prop extends Top K mg where
  len : mg "len" = none
  range : mg "range" = none
  isinstance : mg "isinstance" = none
  all : mg "all" = none
  int : mg "int" = none
  str : mg "str" = none
  bool : mg "bool" = none
  tuple : mg "tuple" = none
  list : mg "list" = none
  zip : mg "zip" = none
  enumerate : mg "enumerate" = none
section
variable {P : Program} {w : World} {K : PySem.W.Frag} {mg : Str → Option Value} {base : Heap}
abbrev s__law_cell_at : Stmt := top 23
abbrev N__law_cell_at : List Str := ["_law_script", "_law_k"]
theorem S__law_cell_at : FnScope N__law_cell_at ["_law_script", "_law_k"] (defScope s__law_cell_at) := ⟨rfl, rfl, rfl, by decide +kernel, rfl, by decide +kernel, by decide +kernel⟩

theorem c_cell_at (T : Txt K w mg) (D : DefAt K "_law_cell_at" s__law_cell_at) : Cal P w K mg base CX0 1 "_law_cell_at" (spCellAt K) := by
  have S := S__law_cell_at
  refine cal_of T.toTop D S (fun _ _ _ _ _ _ us hl => match us, hl with | [_, _], _ => rfl) (fun vs H Q E h => ?_) (fun f cdv A outer s H vs Q E hr h => ?_)
  · obtain ⟨a, ns, k, rfl, _⟩ := h
    rfl
  · obtain ⟨a, ns, k, rfl, hS, hk, q⟩ := h
    refine ⟨_, (pss_cons (ps_if (pt_cmpR op_lt (pv 1) (pe_callB call_len_seq (by rfl) T.len PySem.boot_len (pa_cons (pv 0) pa_nil)) (nomark _)) (pss_one (ps_ret (pe_ix ix_list (pv 0) (pv 1) (fun _ _ => rfl)))) pss_nil)
  (pss_one (ps_ret pe_int))), ?_⟩
    refine ⟨_, rfl, _, rfl, a, _, rfl, .inl hS, _, _, rfl, rfl, _, rfl, ?_⟩
    rw [List.length_map]
    refine ite2 (fun h => ?_) (fun h => ?_)
    · have h := of_decide_eq_true h
      exact ⟨_, rfl, _, rfl, a, _, _, _, rfl, rfl, hS, at_ints hk h, q⟩
    · have h : ¬ k < (ns.length : Int) := fun z => h (decide_eq_true z)
      have e : cellAt ns k = 0 := by
        unfold cellAt
        rw [List.getD_eq_getElem?_getD, List.getElem?_eq_none (by omega)]; rfl
      rw [e] at q
      exact q

abbrev s__law_mixed : Stmt := top 26
abbrev N__law_mixed : List Str := ["_law_cell"]
theorem S__law_mixed : FnScope N__law_mixed ["_law_cell"] (defScope s__law_mixed) := ⟨rfl, rfl, rfl, by decide +kernel, rfl, by decide +kernel, by decide +kernel⟩

theorem c_mixed (T : Txt K w mg) (D : DefAt K "_law_mixed" s__law_mixed) : Cal P w K mg base CX0 1 "_law_mixed" spMixed := by
  have S := S__law_mixed
  refine cal_of T.toTop D S (fun _ _ _ _ _ _ us hl => match us, hl with | [_], _ => rfl) (fun vs H Q E h => ?_) (fun f cdv A outer s H vs Q E hr h => ?_)
  · obtain ⟨c, rfl, _⟩ := h
    rfl
  · obtain ⟨c, rfl, q⟩ := h
    refine ⟨_, (pss_one (ps_ret (pe_op op_mod (pe_op op_mul (pv 0) pe_int) pe_int))), ?_⟩
    repeat walk_at "rd"
    exact q

abbrev s__law_whole : Stmt := top 24
abbrev N__law_whole : List Str := ["_law_found"]
theorem S__law_whole : FnScope N__law_whole ["_law_found"] (defScope s__law_whole) := ⟨rfl, rfl, rfl, by decide +kernel, rfl, by decide +kernel, by decide +kernel⟩

theorem c_whole (T : Txt K w mg) (D : DefAt K "_law_whole" s__law_whole) : Cal P w K mg base CX0 1 "_law_whole" (spWhole K) := by
  have S := S__law_whole
  refine cal_of T.toTop D S (fun _ _ _ _ _ _ us hl => match us, hl with | [_], _ => rfl) (fun vs H Q E h => ?_) (fun f cdv A outer s H vs Q E hr h => ?_)
  · obtain ⟨v, n, rfl, _⟩ := h
    rfl
  · obtain ⟨v, n, rfl, ty, k1, k2, q⟩ := h
    refine ⟨_, (pss_one (ps_ret (pe_and (pe_callB call_isi (by rfl) T.isinstance (by decide +kernel) (pa_cons (pv 0) (pa_cons ((pe_bltn (v := .ty "int") (u := .type "int") rfl T.int (by decide +kernel) rfl)) pa_nil))) (pe_one (pe_not (pe_callB call_isi (by rfl) T.isinstance (by decide +kernel) (pa_cons (pv 0) (pa_cons ((pe_bltn (v := .ty "bool") (u := .type "bool") rfl T.bool (by decide +kernel) rfl)) pa_nil)))))))), ?_⟩
    refine ⟨_, rfl, _, _, _, _, _, rfl, .ty _, ty, kit_ty k1, _, rfl, ?_⟩
    refine ite2 (fun h => ?_) (fun h => ?_)
    · refine ⟨_, rfl, _, _, _, _, _, rfl, .ty _, ty, kit_ty k2, _, rfl, ?_⟩
      have h := of_decide_eq_true h
      have e : (!decide (n = "bool")) = decide (n = "int") := by
        rcases h with h | h <;> subst h <;> rfl
      show Q (V.bl (!decide (n = "bool"))) H
      rw [e]
      exact q
    · have e : decide (n = "int") = false := decide_eq_false fun z => h (decide_eq_true (.inl z))
      rw [e] at q
      exact q

def numberBy (c : Int) : Int := [c / 4 % 10, 999999 - c / 4 % 3, c / 4 % 1000000, mixed c % 1000000].getD (c % 4).toNat 0
def spNumberBy : Sp := fun vs H Q _ => ∃ c : Int, vs = [.int c] ∧ ∀ H', Same H H' → Q (.int (numberBy c)) H'
theorem numberBy_lo (c : Int) : 0 ≤ numberBy c := by
  have h : (c % 4).toNat = 0 ∨ (c % 4).toNat = 1 ∨ (c % 4).toNat = 2 ∨ (c % 4).toNat = 3 := by omega
  unfold numberBy
  rcases h with h | h | h | h <;> rw [h] <;> simp only [List.getD_cons_zero, List.getD_cons_succ] <;> omega
theorem numberBy_hi (c : Int) : numberBy c < 1000000 := by
  have h : (c % 4).toNat = 0 ∨ (c % 4).toNat = 1 ∨ (c % 4).toNat = 2 ∨ (c % 4).toNat = 3 := by omega
  unfold numberBy
  rcases h with h | h | h | h <;> rw [h] <;> simp only [List.getD_cons_zero, List.getD_cons_succ] <;> omega
abbrev s__law_number_by : Stmt := top 27
abbrev N__law_number_by : List Str := ["_law_cell"]
theorem S__law_number_by : FnScope N__law_number_by ["_law_cell"] (defScope s__law_number_by) := ⟨rfl, rfl, rfl, by decide +kernel, rfl, by decide +kernel, by decide +kernel⟩

theorem c_number_by (T : Txt K w mg) (D : DefAt K "_law_number_by" s__law_number_by) (C__law_mixed : Cal P w K mg base CX0 1 "_law_mixed" spMixed) : Cal P w K mg base CX0 2 "_law_number_by" spNumberBy := by
  have S := S__law_number_by
  refine cal_of T.toTop D S (fun _ _ _ _ _ _ us hl => match us, hl with | [_], _ => rfl) (fun vs H Q E h => ?_) (fun f cdv A outer s H vs Q E hr h => ?_)
  · obtain ⟨c, rfl, _⟩ := h
    rfl
  · obtain ⟨c, rfl, q⟩ := h
    refine ⟨_, (pss_one (ps_ret (pe_ix ix_list (pe_lst (pa_cons (pe_op op_mod (pe_op op_fdiv (pv 0) pe_int) pe_int) (pa_cons (pe_op op_sub pe_int (pe_op op_mod (pe_op op_fdiv (pv 0) pe_int) pe_int)) (pa_cons (pe_op op_mod (pe_op op_fdiv (pv 0) pe_int) pe_int) (pa_cons (pe_op op_mod (pe_c C__law_mixed hr (by decide) rfl (pa_cons (pv 0) pa_nil)) pe_int) pa_nil))))) (pe_op op_mod (pv 0) pe_int) (fun _ _ => rfl)))), ?_⟩
    repeat walk_at "rd"
    refine ⟨sz_ok rfl, fun p hp => ?_⟩
    repeat walk_at "rd"
    exact ⟨_, _, _, _, rfl, rfl, SqL.of upd_same, at_ints_mod (ns := [_, _, _, _]) c (by decide) rfl, q _ (Same.new hp)⟩

def sTab : List (Str × List Str) := [("set", ["box", "number"]), ("copy", ["box", "box"]), ("add", ["box", "box", "box"]), ("sub", ["box", "box", "box"]), ("fetch", ["box", "box"]), ("store", ["box", "box"]), ("less", ["box", "box", "place"]), ("jump", ["place"]), ("tell", ["box"])]
def shapeOf (z : Str) : Option (List Str) := sTab.lookup z
structure Shapes (K : PySem.W.Frag) (w : World) (mg : Str → Option Value) (dS : Addr) : Prop where
  g : mg "SHAPES" = some (.ref dS)
  d : ∃ es n, KDict K w dS es n
  no : ∀ z, shapeOf z = none → PySem.W.nsIn K dS z = some none
  yes : ∀ z l, shapeOf z = some l → ∃ t, PySem.W.nsIn K dS z = some (some (.ref t)) ∧ ∀ H, SqT K H t (l.map V.str)
theorem Shapes.get {K : PySem.W.Frag} {w : World} {mg : Str → Option Value} {dS : Addr} (Z : Shapes K w mg dS) {z : Str} {l : List Str} (h : shapeOf z = some l) : ∃ t, KDct K w dS z (.ref t) ∧ ∀ H, SqT K H t (l.map V.str) := by
  obtain ⟨es, n, D⟩ := Z.d
  obtain ⟨t, e, q⟩ := Z.yes z l h
  exact ⟨t, ⟨es, n, _, D.at_, D.lit, e, rfl⟩, q⟩
theorem sTab_cases {P : Str → List Str → Prop} (h : ∀ q ∈ sTab, P q.1 q.2) {z : Str} {l : List Str} (e : shapeOf z = some l) : P z l := by
  have m := PySem.mem_of_lookup (show sTab.lookup z = some l from e)
  exact h _ m
theorem shape_len {z : Str} {l : List Str} (e : shapeOf z = some l) : 1 ≤ l.length ∧ l.length ≤ 3 := sTab_cases (P := fun _ l => 1 ≤ l.length ∧ l.length ≤ 3) (by decide) e
theorem shape_word {z : Str} {l : List Str} (e : shapeOf z = some l) : z.length ≤ 5 := sTab_cases (P := fun z _ => z.length ≤ 5) (by decide +kernel) e
structure ExcT (K : PySem.W.Frag) (mg : Str → Option Value) (x : Str) (C : Addr) : Prop where
  g : mg x = some (.ref C)
  x : PySem.W.excIn K C [.type "ValueError", .type "Exception", .type "BaseException", .type "object"] "ValueError.__new__" = true
  k : PySem.W.keepIn K (.ref C) = true
  b : PySem.W.subIn K (.ref C) (.type "BaseException") = some true
  t : PySem.W.typeIn K (.ref C) = some (.type "type")

abbrev s_is_any_whole : Stmt := top 8
abbrev N_is_any_whole : List Str := ["thing"]
theorem S_is_any_whole : FnScope N_is_any_whole ["thing"] (defScope s_is_any_whole) := ⟨rfl, rfl, rfl, by decide +kernel, rfl, by decide +kernel, by decide +kernel⟩

theorem c_any_whole (T : Txt K w mg) (D : DefAt K "is_any_whole" s_is_any_whole) : Cal P w K mg base CX0 1 "is_any_whole" (spWhole K) := by
  have S := S_is_any_whole
  refine cal_of T.toTop D S (fun _ _ _ _ _ _ us hl => match us, hl with | [_], _ => rfl) (fun vs H Q E h => ?_) (fun f cdv A outer s H vs Q E hr h => ?_)
  · obtain ⟨v, n, rfl, _⟩ := h
    rfl
  · obtain ⟨v, n, rfl, ty, k1, k2, q⟩ := h
    refine ⟨_, (pss_one (ps_ret (pe_and (pe_callB call_isi (by rfl) T.isinstance (by decide +kernel) (pa_cons (pv 0) (pa_cons ((pe_bltn (v := .ty "int") (u := .type "int") rfl T.int (by decide +kernel) rfl)) pa_nil))) (pe_one (pe_not (pe_callB call_isi (by rfl) T.isinstance (by decide +kernel) (pa_cons (pv 0) (pa_cons ((pe_bltn (v := .ty "bool") (u := .type "bool") rfl T.bool (by decide +kernel) rfl)) pa_nil)))))))), ?_⟩
    refine ⟨_, rfl, _, _, _, _, _, rfl, .ty _, ty, kit_ty k1, _, rfl, ?_⟩
    refine ite2 (fun h => ?_) (fun h => ?_)
    · refine ⟨_, rfl, _, _, _, _, _, rfl, .ty _, ty, kit_ty k2, _, rfl, ?_⟩
      have h := of_decide_eq_true h
      have e : (!decide (n = "bool")) = decide (n = "int") := by
        rcases h with h | h <;> subst h <;> rfl
      show Q (V.bl (!decide (n = "bool"))) H
      rw [e]
      exact q
    · have e : decide (n = "int") = false := decide_eq_false fun z => h (decide_eq_true (.inl z))
      rw [e] at q
      exact q
abbrev s_is_whole : Stmt := top 7
abbrev N_is_whole : List Str := ["thing", "low", "high"]
theorem S_is_whole : FnScope N_is_whole ["thing", "low", "high"] (defScope s_is_whole) := ⟨rfl, rfl, rfl, by decide +kernel, rfl, by decide +kernel, by decide +kernel⟩

/-- is_whole(thing, low, high) -/
theorem c_is_wholeV (T : Txt K w mg) (D : DefAt K "is_whole" s_is_whole) (C_is_any_whole : Cal P w K mg base CX0 1 "is_any_whole" (spWhole K)) : Cal P w K mg base CX0 2 "is_whole" (spIsWholeV K) := by
  have S := S_is_whole
  refine cal_of T.toTop D S (fun _ _ _ _ _ _ us hl => match us, hl with | [_, _, _], _ => rfl) (fun vs H Q E h => ?_) (fun f cdv A outer s H vs Q E hr h => ?_)
  · obtain ⟨v, lo, hi, rfl, _⟩ := h
    rfl
  · obtain ⟨v, lo, hi, rfl, ⟨n, ty, k1, k2, hn, hn2⟩, q⟩ := h
    refine ⟨_, (pss_one (ps_ret (pe_and (pe_c C_is_any_whole hr (by decide) rfl (pa_cons (pv 0) pa_nil)) (pe_one (pe_chain op_le op_le (pv 1) (pv 0) (pv 2)))))), ?_⟩
    refine ⟨_, rfl, v, n, rfl, ty, k1, k2, _, rfl, ?_⟩
    by_cases e : n = "int"
    · obtain ⟨i, rfl⟩ := hn e
      refine (if_pos (decide_eq_true e)).mpr ?_
      refine ⟨_, rfl, _, rfl, _, _, rfl, rfl, _, rfl, ?_⟩
      by_cases h1 : lo ≤ i
      · refine (if_pos (decide_eq_true h1)).mpr ⟨_, rfl, _, _, rfl, rfl, ?_⟩
        have e : wholeV (.int i) lo hi = decide (i ≤ hi) := by show (decide (lo ≤ i) && decide (i ≤ hi)) = _; rw [decide_eq_true h1, Bool.true_and]
        rw [e] at q
        exact q
      · refine (if_neg (fun z => h1 (of_decide_eq_true z))).mpr ?_
        have e : wholeV (.int i) lo hi = false := by show (decide (lo ≤ i) && decide (i ≤ hi)) = _; rw [decide_eq_false h1, Bool.false_and]
        rw [e] at q
        exact q
    · refine (if_neg (fun z => e (of_decide_eq_true z))).mpr ?_
      have ev : wholeV v lo hi = false := by
        cases v with
        | int i => exact absurd (hn2 i rfl) e
        | _ => rfl
      rw [ev] at q
      exact q
theorem c_is_whole (T : Txt K w mg) (D : DefAt K "is_whole" s_is_whole) (D2 : DefAt K "is_any_whole" s_is_any_whole) : Cal P w K mg base CX0 2 "is_whole" (spIsWhole K) :=
  (c_is_wholeV T D (c_any_whole T D2)).imp fun vs H Q E h => by
    obtain ⟨v, d, lo, hi, e, hd, q⟩ := h
    exact ⟨v, lo, hi, e, any_dp hd, by rw [whole_dp hd]; exact q⟩

def shapeD (d : PyData) : Bool := match d with
  | .tuple (.str w :: ps) => match shapeOf w with
    | some l => decide (ps.length = l.length)
    | none => false
  | _ => false
def fitsD (d : PyData) (size count : Int) : Bool := match d with
  | .tuple (.str w :: ps) => match shapeOf w with
    | some l => decide (ps.length = l.length) && fitK size count l ps
    | none => false
  | _ => false
/-- what stands of a thing that has the shape of a row -/
theorem shapeD_yes {H : Hp} {v : V} {d : PyData} (hd : Dp K H v d) (h : shapeD d = true) : ∃ (w : Str) (ps : List PyData) (l : List Str) (p : Addr) (vs : List V), d = .tuple (.str w :: ps) ∧ shapeOf w = some l ∧ ps.length = l.length ∧ v = .ref p ∧ SqT K H p (.str w :: vs) ∧ DpAll K H vs ps := by
  cases hd with
  | tup q a =>
    cases a with
    | nil => cases h
    | cons a1 a2 =>
      cases a1 with
      | str w =>
        cases e : shapeOf w with
        | none => simp only [shapeD, e] at h; cases h
        | some l =>
          simp only [shapeD, e] at h
          exact ⟨w, _, l, _, _, rfl, e, of_decide_eq_true h, rfl, q, a2⟩
      | _ => cases h
  | _ => cases h
def spHasShape (K : PySem.W.Frag) : Sp := fun vs H Q _ => ∃ (v : V) (d : PyData), vs = [v] ∧ Dp K H v d ∧ Q (.bl (shapeD d)) H
abbrev s__has_shape : Stmt := top 14
abbrev N__has_shape : List Str := ["row", "word"]
theorem S__has_shape : FnScope N__has_shape ["row"] (defScope s__has_shape) := ⟨rfl, rfl, rfl, by decide +kernel, rfl, by decide +kernel, by decide +kernel⟩

theorem c_has_shape {dS : Addr} (T : Txt K w mg) (Z : Shapes K w mg dS) (D : DefAt K "_has_shape" s__has_shape) : Cal P w K mg base CX0 1 "_has_shape" (spHasShape K) := by
  have S := S__has_shape
  obtain ⟨es, n, dShapes⟩ := Z.d
  have gShapes := Z.g
  refine cal_of T.toTop D S (fun _ _ _ _ _ _ us hl => match us, hl with | [_], _ => rfl) (fun vs H Q E h => ?_) (fun f cdv A outer s H vs Q E hr h => ?_)
  · obtain ⟨v, d, rfl, _⟩ := h
    rfl
  · obtain ⟨v, d, rfl, hd, q⟩ := h
    refine ⟨_, (pss_cons (ps_if (PW.pt (pw_or (pt_not (pt_val (pe_callB call_isi (by rfl) T.isinstance (by decide +kernel) (pa_cons (pv 0) (pa_cons ((pe_bltn (v := .ty "tuple") (u := .type "tuple") rfl T.tuple (by decide +kernel) rfl)) pa_nil))))) (pw_or1 (pt_cmpR op_eq (pe_callB call_len_seq (by rfl) T.len PySem.boot_len (pa_cons (pv 0) pa_nil)) pe_int (nomark _))))) (pss_one (ps_ret pe_bl)) pss_nil)
  (pss_cons (ps_set (i := 1) S.nd rfl (Or.inl rfl) (pe_ix ix_tup (pv 0) pe_int (fun _ _ => rfl)))
  (pss_cons (ps_if (PW.pt (pw_or (pt_not (pt_val (pe_callB call_isi (by rfl) T.isinstance (by decide +kernel) (pa_cons (pv 1) (pa_cons ((pe_bltn (v := .ty "str") (u := .type "str") rfl T.str (by decide +kernel) rfl)) pa_nil))))) (pw_or1 (pt_cmpR (op_notIn_kd dShapes) (pv 1) ((pe_glob (v := .ref dS) rfl gShapes rfl)) (by with_unfolding_all rfl))))) (pss_one (ps_ret pe_bl)) pss_nil)
  (pss_one (ps_ret (pe_cmpR op_eq (pe_callB call_len_seq (by rfl) T.len PySem.boot_len (pa_cons (pv 0) pa_nil)) (pe_op op_add pe_int (pe_callB call_len_seq (by rfl) T.len PySem.boot_len (pa_cons (pe_ix ix_kdict ((pe_glob (v := .ref dS) rfl gShapes rfl)) (pv 1) (fun _ _ => rfl)) pa_nil))) (nomark _))))))), ?_⟩
    have ty := dp_ty hd
    refine ⟨_, rfl, _, _, _, _, _, rfl, .ty _, ty, kit_ty (kit_tup d), _, rfl, ?_⟩
    cases hd with
    | tup hq a =>
      cases a with
      | nil => exact ⟨_, rfl, _, _, rfl, .inr hq, rfl, true, rfl, q⟩
      | @cons v1 vs1 d1 ds1 a1 a2 =>
        refine ⟨_, rfl, _, _, rfl, .inr hq, rfl, false, bl_of (decide_eq_false fun z => by have := V.int.inj z; simp only [List.length_cons] at this; omega), ?_⟩
        refine ⟨_, rfl, _, _, _, _, rfl, rfl, hq, at_in (by decide) rfl, ?_⟩
        refine ⟨_, rfl, _, _, _, _, _, rfl, .ty _, dp_ty a1, kit_ty (kit_str _), _, rfl, ?_⟩
        cases a1 with
        | str w =>
          cases eS : shapeOf w with
          | none =>
            simp only [shapeD, eS] at q
            exact ⟨_, rfl, _, _, rfl, rfl, Z.no _ eS, _, rfl, q⟩
          | some l =>
            simp only [shapeD, eS] at q
            obtain ⟨t, hk, hT⟩ := Z.get eS
            obtain ⟨t', eN, _⟩ := Z.yes _ _ eS
            refine ⟨_, rfl, _, _, rfl, rfl, eN, false, rfl, ?_⟩
            refine ⟨_, rfl, _, _, rfl, .inr hq, _, rfl, _, _, _, rfl, rfl, hk, t, _, rfl, .inr (hT _), _, _, rfl, rfl, rfl, ?_⟩
            have hl := dpA_len a2
            rw [← hl] at q
            have e : decide (V.int (((V.str w :: vs1).length : Nat) : Int) = V.int (1 + (((l.map V.str).length : Nat) : Int))) = decide (vs1.length = l.length) := by
              rw [Bool.eq_iff_iff, decide_eq_true_eq, decide_eq_true_eq, List.length_cons, List.length_map]
              exact ⟨fun h => by have := V.int.inj h; omega, fun h => congrArg V.int (by omega)⟩
            exact (congrArg (fun b => Q (.bl b) H) e).mpr q
        | _ => exact q
    | _ => exact q

theorem fitsD_no {d : PyData} {size count : Int} (h : shapeD d = false) : fitsD d size count = false := by
  match d, h with
  | .tuple (.str w :: ps), h =>
    simp only [shapeD] at h
    simp only [fitsD]
    cases e : shapeOf w with
    | none => rfl
    | some l =>
      simp only [e] at h ⊢
      rw [h, Bool.false_and]
  | .none, _ | .bool _, _ | .int _, _ | .str _, _ | .list _, _ | .dict _, _ | .tuple [], _ => rfl
  | .tuple (.none :: _), _ | .tuple (.bool _ :: _), _ | .tuple (.int _ :: _), _ | .tuple (.list _ :: _), _ | .tuple (.dict _ :: _), _ | .tuple (.tuple _ :: _), _ => rfl
theorem fitsD_yes {w : Str} {ps : List PyData} {l : List Str} {size count : Int} (e : shapeOf w = some l) (hl : ps.length = l.length) : fitsD (.tuple (.str w :: ps)) size count = fitK size count l ps := by
  simp only [fitsD, e, decide_eq_true hl, Bool.true_and]
theorem last_val (a b c : V) {k : Str} (h : k = "box" ∨ k = "number" ∨ k = "place") : valV (mergeK [] [(.inr "box", a), (.inr "number", b), (.inr "place", c)]) (.inr k) = some (if k = "box" then a else if k = "number" then b else c) := by
  rcases h with rfl | rfl | rfl <;> rfl
theorem shape_kinds {z : Str} {l : List Str} (e : shapeOf z = some l) : ∀ k ∈ l, k = "box" ∨ k = "number" ∨ k = "place" := sTab_cases (P := fun _ l => ∀ k ∈ l, k = "box" ∨ k = "number" ∨ k = "place") (by decide +kernel) e
def spFits (K : PySem.W.Frag) : Sp := fun vs H Q _ => ∃ (v : V) (d : PyData) (size count : Int), vs = [v, .int size, .int count] ∧ Dp K H v d ∧ ∀ H', Same H H' → Q (.bl (fitsD d size count)) H'
abbrev s_fits : Stmt := top 13
abbrev N_fits : List Str := ["row", "size", "count", "last", "kinds", "thing", "kind"]
theorem S_fits : FnScope N_fits ["row", "size", "count"] (defScope s_fits) := ⟨rfl, rfl, rfl, by decide +kernel, rfl, by decide +kernel, by decide +kernel⟩

theorem c_fits {dS : Addr} (T : Txt K w mg) (Z : Shapes K w mg dS) (gRound : ∃ t, mg "ROUND" = some (.int 1000000 t)) (D : DefAt K "fits" s_fits) (C_is_whole : Cal P w K mg base CX0 2 "is_whole" (spIsWhole K)) (C__has_shape : Cal P w K mg base CX0 1 "_has_shape" (spHasShape K)) : Cal P w K mg base CX0 3 "fits" (spFits K) := by
  have S := S_fits
  obtain ⟨es, n, dShapes⟩ := Z.d
  obtain ⟨tR, gRound⟩ := gRound
  have gShapes := Z.g
  refine cal_of T.toTop D S (fun _ _ _ _ _ _ us hl => match us, hl with | [_, _, _], _ => rfl) (fun vs H Q E h => ?_) (fun f cdv A outer s H vs Q E hr h => ?_)
  · obtain ⟨v, d, size, count, rfl, _⟩ := h
    rfl
  · obtain ⟨v, d, size, count, rfl, hd, q⟩ := h
    refine ⟨_, (pss_cons (ps_if (pt_not (pt_val (pe_c C__has_shape hr (by decide) rfl (pa_cons (pv 0) pa_nil)))) (pss_one (ps_ret pe_bl)) pss_nil)
  (pss_cons (ps_set (i := 3) S.nd rfl (Or.inr rfl) (pe_disp (pps_cons pe_str (pe_op op_sub (pv 1) pe_int) (pps_cons pe_str (pe_op op_sub ((pe_glob (v := .int 1000000) rfl gRound ⟨_, rfl⟩)) pe_int) (pps_cons pe_str (pv 2) pps_nil))) (by rfl) (by rfl) (fun z => by cases z) (by decide)))
  (pss_cons (ps_set (i := 4) S.nd rfl (Or.inl rfl) (pe_ix ix_kdict ((pe_glob (v := .ref dS) rfl gShapes rfl)) (pe_ix ix_tup (pv 0) pe_int (fun _ _ => rfl)) (fun _ _ => rfl)))
  (pss_one (ps_ret (pe_callB (cr_all rfl) (by rfl) T.all (by decide +kernel) (pa_cons (pe_lc (own := [("thing", 5), ("kind", 6)]) (g := gTup K 2 (gCons (gName 5) (gCons (gName 6) gNil))) (tt := tYes) rfl S.nd (RZ.pi_zipA (by rfl) T.zip (pa_cons (pe_slice sl_tupA (pv 0) (po_some pe_int) po_none) (pa_cons (pv 4) pa_nil))) (blkOk_by (own := [("thing", 5), ("kind", 6)]) (N := N_fits) (sc := defScope s_fits) (by decide +kernel)) (fun _ _ _ _ _ => by exact pg_tup rfl (pgs_cons (pg_name (i := 5) S.nd rfl (Or.inl rfl)) (pgs_cons (pg_name (i := 6) S.nd rfl (Or.inl rfl)) pgs_nil))) (fun _ _ _ _ _ => pts_nil) (fun _ _ _ _ _ => (pe_c C_is_whole hr (by decide) rfl (pa_cons (pv 5) (pa_cons pe_int (pa_cons (pe_dget (hu_of hr) (pv 3) (pv 6) (fun _ _ => rfl)) pa_nil)))))) pa_nil))))))), ?_⟩
    refine ⟨_, rfl, v, d, rfl, hd, _, rfl, ?_⟩
    cases hs : shapeD d with
    | false =>
      have := q H (Same.refl _)
      rw [fitsD_no hs] at this
      exact this
    | true =>
      obtain ⟨wd, ps, l, p, vs, rfl, eS, hl, rfl, hq, ha⟩ := shapeD_yes hd hs
      rw [fitsD_yes eS hl] at q
      obtain ⟨t, hk, hT⟩ := Z.get eS
      refine fun p1 n1 => ?_
      refine ⟨_, rfl, _, _, rfl, rfl, _, _, rfl, rfl, _, rfl, ?_⟩
      refine ⟨upd_same, [(.inr "box", .int (size - 1)), (.inr "number", .int (1000000 - 1)), (.inr "place", .int count)], rfl, (show 3 ≤ 15 by decide), ?_⟩
      generalize e1 : upd (upd H p1 _) p1 _ = H1
      have h1 : H1 p1 = some (.dK (mergeK [] [(.inr "box", .int (size - 1)), (.inr "number", .int (1000000 - 1)), (.inr "place", .int count)])) := e1 ▸ upd_same
      have s1 : Same H H1 := e1 ▸ (Same.new n1).mut n1
      refine ⟨_, rfl, p, _, _, _, rfl, rfl, s1.sqt hq, at_in (v := .str wd) (by decide) rfl, _, _, _, rfl, rfl, hk, ?_⟩
      have hne : ¬ (HT.sIx (V.str wd :: vs).length 0 (some 1) = 0 ∧ HT.sIx (V.str wd :: vs).length (V.str wd :: vs).length none = (V.str wd :: vs).length) := fun h => by
        have e1 := HT.sIx_nat (V.str wd :: vs).length 0 1
        rw [show ((1 : Nat) : Int) = 1 from rfl, h.1] at e1
        simp only [List.length_cons] at e1
        omega
      refine ⟨_, rfl, 1, rfl, p, _, rfl, s1.sqt hq, fun h => absurd h hne, fun _ p2 n2 => ?_⟩
      rw [cutV_1]
      have s2 := s1.more (o := .tup vs) n2
      have h2 : upd H1 p2 (.tup vs) p2 = some (.tup vs) := upd_same
      have h1' : upd H1 p2 (.tup vs) p1 = some (.dK (mergeK [] [(.inr "box", .int (size - 1)), (.inr "number", .int (1000000 - 1)), (.inr "place", .int count)])) := Same.new n2 _ _ h1
      generalize upd H1 p2 (.tup vs) = H2 at s2 h2 h1'
      have hvl : vs.length = l.length := (dpA_len ha).trans hl
      have hl3 := (shape_len eS).2
      refine ⟨_, rfl, p2, t, vs, l.map V.str, rfl, .inr ⟨SqT.of h2, hT _, fun p3 n3 => lc_gen l.length (fun i x H => ∃ (T : Addr) (a b : V), x = .ref T ∧ H T = some (.tup [a, b]) ∧ vs[i]? = some a ∧ (l.map V.str)[i]? = some b)
        (fun k => some (.bl (wholeIn (ps.getD k .none) 0 (lastOf size count (l.getD k Str.empty))))) n3 (small1000 (by omega)) (fun i H' hi s => ?_) (fun H' s => ⟨vs, _, SqT.of (s _ _ h2), hT _, .inl (by omega)⟩) (fun i H' x H'' hi s y => ?_) (fun i x H' hi s r k1 k0 g1 g0 => ?_) (fun H3 s3 h3 => ?_)⟩⟩
      · exact ⟨vs, l.map V.str, vs[i], (l.map V.str)[i]'(by rw [List.length_map]; exact hi), SqT.of (s _ _ h2), hT _, List.getElem?_eq_getElem (by omega), List.getElem?_eq_getElem _⟩
      · obtain ⟨T', x', y', rfl, hn, rfl, hx, hy⟩ := y
        exact ⟨Same.new hn, T', x', y', rfl, upd_same, hx _ (SqT.of (s _ _ h2)), hy _ (hT _)⟩
      · obtain ⟨T', x', y', rfl, hn, hx, hy⟩ := r
        obtain ⟨d', ed, hd'⟩ := dpA_get ha hx
        rw [List.getElem?_map] at hy
        obtain ⟨k', ek, rfl⟩ := Option.map_eq_some_iff.mp hy
        have hd2 := dp_same (s2.trans s) _ _ hd'
        have hkk := shape_kinds eS k' (List.mem_of_getElem? ek)
        refine ⟨T', _, rfl, SqT.of hn, rfl, _, _, rfl, _, _, rfl, rfl, rfl, ?_⟩
        have hg : DGet H' p1 (.str k') (some (V.int (lastOf size count k'))) := by
          have := DGet.k (k := .inr k') (s _ _ h1')
          rw [last_val _ _ _ hkk] at this
          rcases hkk with rfl | rfl | rfl <;> exact this
        have e : (some (V.bl (wholeIn (ps.getD i .none) 0 (lastOf size count (l.getD i Str.empty)))) : Option V) = some (.bl (wholeIn d' 0 (lastOf size count k'))) := by
          rw [List.getD_eq_getElem?_getD, List.getD_eq_getElem?_getD, ed, ek]
          rfl
        exact ⟨_, rfl, _, rfl, _, rfl, p1, _, rfl, hg, _, d', 0, _, rfl, hd2, g1 _ _ e (Same.refl _)⟩
      · rw [fm_some, show (fun k => V.bl (wholeIn (ps.getD k .none) 0 (lastOf size count (l.getD k Str.empty)))) = V.bl ∘ (fun k => wholeIn (ps.getD k .none) 0 (lastOf size count (l.getD k Str.empty))) from rfl, ← List.map_map] at h3
        refine ⟨p3, _, rfl, SqL.of h3, ?_⟩
        rw [List.all_map]
        exact q _ (s2.trans s3)

def txtOf (n : Int) : Str := Str.ofString (toString n)
theorem txt_len {n : Int} (h0 : 0 ≤ n) (h1 : n < 1000000) : (txtOf n).length ≤ 6 := by
  have e : n = ((n.toNat : Nat) : Int) := (Int.toNat_of_nonneg h0).symm
  unfold txtOf
  rw [e]
  have q : (TL.tl (Str.ofString (toString ((n.toNat : Nat) : Int)))).length ≤ 6 := by
    rw [TL.tl_num]
    exact TL.numL_len (by decide) (by omega)
  exact q
theorem log_small {n : Int} (h0 : 0 ≤ n) (h1 : n < 1000000) : n.natAbs.log2 < 1920 := by
  have h : n.natAbs < 2 ^ 20 := by omega
  rcases Nat.eq_zero_or_pos n.natAbs with e | e
  · rw [e]; decide
  · have := (Nat.log2_lt (by omega)).mpr h
    omega

theorem app_sz {a b : Str} {n m k : Nat} (ha : a.length ≤ n) (hb : b.length ≤ m) (h : n + m ≤ k) : (a ++ b).length ≤ k := by
  have e : (a ++ b).length = a.length + b.length := by
    show (a.cps ++ b.cps).size = a.cps.size + b.cps.size
    exact Array.size_append
  omega
def goodR (ds : List PyData) (size : Int) : Bool := decide (ds.length ≤ 200) && ds.all fun d => fitsD d size (ds.length : Nat)
def spChecked (K : PySem.W.Frag) (CB : Addr) : Sp := fun vs H Q E => ∃ (g : Addr) (xs : List V) (ds : List PyData) (size : Int), vs = [.ref g, .int size] ∧ SqL K H g xs ∧ DpAll K H xs ds ∧ xs.length ≤ 1000 ∧
  (goodR ds size = true → ∀ H' p, Same H H' → H p = none → H' p = some (.lst xs) → Q (.ref p) H') ∧ (goodR ds size = false → ∀ H', Same H H' → E (.ref CB) none H')
abbrev s_checked : Stmt := top 15
abbrev N_checked : List Str := ["rows", "size", "place", "row"]
theorem S_checked : FnScope N_checked ["rows", "size"] (defScope s_checked) := ⟨rfl, rfl, rfl, by decide +kernel, rfl, by decide +kernel, by decide +kernel⟩

theorem c_checked {CB : Addr} (T : Txt K w mg) (X_BadRow : ExcT K mg "BadRow" CB) (gMost : ∃ t, mg "MOST" = some (.int 200 t)) (D : DefAt K "checked" s_checked) (C_fits : Cal P w K mg base CX0 3 "fits" (spFits K)) : Cal P w K mg base (L2.CX P w) 4 "checked" (spChecked K CB) := by
  have S := S_checked
  obtain ⟨tM, gMost⟩ := gMost
  refine cal_ofX T.toTop D S (fun _ _ _ _ _ _ us hl => match us, hl with | [_, _], _ => rfl) (fun vs H Q E h => ?_) (fun f cdv A outer s H vs Q E hr h => ?_)
  · obtain ⟨g, xs, ds, size, rfl, _⟩ := h
    rfl
  · obtain ⟨g, xs, ds, size, rfl, hS, ha, hz, hq, he⟩ := h
    have hl := dpA_len ha
    refine ⟨_, (pss_cons (ps_if (pt_cmpR op_gt (pe_callB call_len_seq (by rfl) T.len PySem.boot_len (pa_cons (pv 0) pa_nil)) ((pe_glob (v := .int 200) rfl gMost ⟨_, rfl⟩)) (nomark _)) (pss_one (ps_raise rfl (takes_of rfl rfl rfl rfl) (SkE.pmk_own1 PySem.F.excBase_ValueError X_BadRow.x X_BadRow.g X_BadRow.k (raises_own X_BadRow.b X_BadRow.t) rfl (pe_joined (.cons pe_str (.cons (pe_fmt ((pe_glob (v := .int 200) rfl gMost ⟨_, rfl⟩))) (.cons pe_str (.cons (pe_fmt (pe_callB call_len_seq (by rfl) T.len PySem.boot_len (pa_cons (pv 0) pa_nil))) .nil)))))))) pss_nil)
  (pss_cons (ps_for (g := gTup K 2 (gCons (gName 2) (gCons (gName 3) gNil))) (passes_of rfl) rfl (pi_enum (by rfl) T.enumerate (pa_cons (pv 0) pa_nil)) (by exact (pg_tup rfl (pgs_cons (pg_name (i := 2) S.nd rfl (Or.inl rfl)) (pgs_cons (pg_name (i := 3) S.nd rfl (Or.inl rfl)) pgs_nil))))
  (pss_one (ps_if (pt_not (pt_val (pe_c C_fits hr (by decide) rfl (pa_cons (pv 3) (pa_cons (pv 1) (pa_cons (pe_callB call_len_seq (by rfl) T.len PySem.boot_len (pa_cons (pv 0) pa_nil)) pa_nil)))))) (pss_one (ps_raise rfl (takes_of rfl rfl rfl rfl) (SkE.pmk_own1 PySem.F.excBase_ValueError X_BadRow.x X_BadRow.g X_BadRow.k (raises_own X_BadRow.b X_BadRow.t) rfl (pe_joined (.cons pe_str (.cons (pe_fmt (pv 2)) (.cons pe_str .nil))))))) pss_nil)))
  (pss_one (ps_ret (pe_callTy call_list_of (by rfl) T.list (by decide +kernel) (pa_cons (pv 0) pa_nil)))))), ?_⟩
    refine ⟨_, rfl, g, xs, rfl, .inl hS, _, _, rfl, rfl, ?_⟩
    by_cases hm : xs.length ≤ 200
    · refine ⟨false, bl_of (decide_eq_false (by omega)), ?_⟩
      refine ⟨_, rfl, g, xs, rfl, hS, for_gen xs.length (fun i σ H' => Same H H' ∧ (∃ v1 v2, σ = [some (.ref g), some (.int size), v1, v2]) ∧ ∀ d ∈ ds.take i, fitsD d size (ds.length : Nat) = true) ⟨Same.refl _, ⟨_, _, rfl⟩, fun d h => by simp at h⟩ (fun i σ H' hi h => ?_) (fun σ H' h => ⟨xs, h.1.seq hS, Nat.le_refl _⟩) (fun i σ H' y H'' hi h hy => ?_) (fun σ H' h => ?_)⟩
      · exact ⟨xs, xs[i], h.1.seq hS, List.getElem?_eq_getElem hi⟩
      · obtain ⟨s1, ⟨v1, v2, rfl⟩, hall⟩ := h
        obtain ⟨T', x, rfl, hn, rfl, hx⟩ := hy
        have hx := hx _ (s1.seq hS)
        obtain ⟨d, ed, hd⟩ := dpA_get ha hx
        have s2 := s1.more (o := .tup [.int (i : Nat), x]) hn
        refine ⟨T', _, rfl, SqT.of upd_same, rfl, _, _, rfl, _, _, rfl, rfl, ?_⟩
        refine ⟨_, rfl, _, rfl, _, rfl, g, xs, rfl, .inl (s2.seq hS), x, d, size, _, rfl, dp_same s2 _ _ hd, fun H3 s3 => ?_⟩
        rw [hl]
        refine ⟨_, rfl, ?_⟩
        cases hf : fitsD d size (ds.length : Nat) with
        | true =>
          refine ⟨s2.trans s3, ⟨_, _, rfl⟩, fun d' hd' => ?_⟩
          rw [List.take_add_one, ed] at hd'
          rcases List.mem_append.mp hd' with h | h
          · exact hall d' h
          · rw [Option.toList_some, List.mem_singleton] at h
            rw [h]
            exact hf
        | false =>
          have hb : goodR ds size = false := by
            unfold goodR
            rw [Bool.and_eq_false_iff]
            exact .inr (Bool.eq_false_iff.mpr fun h => by
              have := List.all_eq_true.mp h d (List.mem_of_getElem? ed)
              rw [hf] at this
              cases this)
          refine ⟨_, rfl, by decide +kernel, ?_⟩
          refine ⟨_, rfl, .inr ⟨(i : Nat), rfl, log_small (by omega) (by omega), _, rfl, ?_, ?_⟩⟩
          · exact app_sz (n := 4) (m := 6) (by decide +kernel) (txt_len (by omega) (by omega)) (by decide)
          · exact ⟨_, rfl, app_sz (n := 10) (m := 13) (app_sz (n := 4) (m := 6) (by decide +kernel) (txt_len (by omega) (by omega)) (by decide)) (by decide +kernel) (by decide), he hb _ (s2.trans s3)⟩
      · obtain ⟨s1, ⟨v1, v2, rfl⟩, hall⟩ := h
        have hg : goodR ds size = true := by
          unfold goodR
          rw [decide_eq_true (by omega : ds.length ≤ 200), Bool.true_and]
          rw [hl, List.take_length] at hall
          exact List.all_eq_true.mpr hall
        refine ⟨_, rfl, g, xs, rfl, .inl (s1.seq hS), fun l np => hq hg _ l (s1.more np) (s1.free np) upd_same⟩
    · have hb : goodR ds size = false := by
        unfold goodR
        rw [decide_eq_false (by omega : ¬ ds.length ≤ 200), Bool.false_and]
      refine ⟨true, bl_of (decide_eq_true (by omega)), ?_⟩
      refine ⟨_, rfl, by decide +kernel, ?_⟩
      refine .inr ⟨200, rfl, by decide, _, rfl, by decide +kernel, ?_⟩
      refine ⟨_, rfl, by decide +kernel, _, rfl, g, xs, rfl, .inl hS, .inr ⟨_, rfl, log_small (by omega) (by omega), _, rfl, ?_, he hb _ (Same.refl _)⟩⟩
      exact app_sz (n := 100) (m := 6) (by decide +kernel) (txt_len (by omega) (by omega)) (by decide)

def goodB (ds : List PyData) : Bool := decide (1 ≤ ds.length) && (decide (ds.length ≤ 200) && ds.all fun d => wholeIn d 0 999999)
def spCheckedB (K : PySem.W.Frag) (CB : Addr) : Sp := fun vs H Q E => ∃ (g : Addr) (xs : List V) (ds : List PyData), vs = [.ref g] ∧ SqL K H g xs ∧ DpAll K H xs ds ∧ xs.length ≤ 1000 ∧
  (goodB ds = true → ∀ H' p, Same H H' → H p = none → H' p = some (.lst xs) → Q (.ref p) H') ∧ (goodB ds = false → ∀ H', Same H H' → E (.ref CB) none H')
abbrev s_checked_boxes : Stmt := top 10
abbrev N_checked_boxes : List Str := ["boxes", "box", "number"]
theorem S_checked_boxes : FnScope N_checked_boxes ["boxes"] (defScope s_checked_boxes) := ⟨rfl, rfl, rfl, by decide +kernel, rfl, by decide +kernel, by decide +kernel⟩

theorem c_checked_boxes {CB : Addr} (T : Txt K w mg) (X_BadBoxes : ExcT K mg "BadBoxes" CB) (gMost : ∃ t, mg "MOST" = some (.int 200 t)) (gRound : ∃ t, mg "ROUND" = some (.int 1000000 t)) (D : DefAt K "checked_boxes" s_checked_boxes) (C_is_whole : Cal P w K mg base CX0 2 "is_whole" (spIsWhole K)) : Cal P w K mg base (L2.CX P w) 3 "checked_boxes" (spCheckedB K CB) := by
  have S := S_checked_boxes
  obtain ⟨tM, gMost⟩ := gMost
  obtain ⟨tR, gRound⟩ := gRound
  refine cal_ofX T.toTop D S (fun _ _ _ _ _ _ us hl => match us, hl with | [_], _ => rfl) (fun vs H Q E h => ?_) (fun f cdv A outer s H vs Q E hr h => ?_)
  · obtain ⟨g, xs, ds, rfl, _⟩ := h
    rfl
  · obtain ⟨g, xs, ds, rfl, hS, ha, hz, hq, he⟩ := h
    have hl := dpA_len ha
    refine ⟨_, (pss_cons (ps_if (pt_not (pt_chain op_le op_le pe_int (pe_callB call_len_seq (by rfl) T.len PySem.boot_len (pa_cons (pv 0) pa_nil)) ((pe_glob (v := .int 200) rfl gMost ⟨_, rfl⟩)))) (pss_one (ps_raise rfl (takes_of rfl rfl rfl rfl) (SkE.pmk_own1 PySem.F.excBase_ValueError X_BadBoxes.x X_BadBoxes.g X_BadBoxes.k (raises_own X_BadBoxes.b X_BadBoxes.t) rfl (pe_joined (.cons pe_str (.cons (pe_fmt ((pe_glob (v := .int 200) rfl gMost ⟨_, rfl⟩))) (.cons pe_str (.cons (pe_fmt (pe_callB call_len_seq (by rfl) T.len PySem.boot_len (pa_cons (pv 0) pa_nil))) .nil)))))))) pss_nil)
  (pss_cons (ps_for (g := gTup K 2 (gCons (gName 1) (gCons (gName 2) gNil))) (passes_of rfl) rfl (pi_enum (by rfl) T.enumerate (pa_cons (pv 0) pa_nil)) (by exact (pg_tup rfl (pgs_cons (pg_name (i := 1) S.nd rfl (Or.inl rfl)) (pgs_cons (pg_name (i := 2) S.nd rfl (Or.inl rfl)) pgs_nil))))
  (pss_one (ps_if (pt_not (pt_val (pe_c C_is_whole hr (by decide) rfl (pa_cons (pv 2) (pa_cons pe_int (pa_cons (pe_op op_sub ((pe_glob (v := .int 1000000) rfl gRound ⟨_, rfl⟩)) pe_int) pa_nil)))))) (pss_one (ps_raise rfl (takes_of rfl rfl rfl rfl) (SkE.pmk_own1 PySem.F.excBase_ValueError X_BadBoxes.x X_BadBoxes.g X_BadBoxes.k (raises_own X_BadBoxes.b X_BadBoxes.t) rfl (pe_joined (.cons pe_str (.cons (pe_fmt (pv 1)) (.cons pe_str (.cons (pe_fmt (pe_op op_sub ((pe_glob (v := .int 1000000) rfl gRound ⟨_, rfl⟩)) pe_int)) .nil)))))))) pss_nil)))
  (pss_one (ps_ret (pe_callTy call_list_of (by rfl) T.list (by decide +kernel) (pa_cons (pv 0) pa_nil)))))), ?_⟩
    have out : ∀ H', Same H H' → goodB ds = false → E (.ref CB) none H' := fun H' s hb => he hb H' s
    refine ⟨_, rfl, g, xs, rfl, .inl hS, _, _, rfl, rfl, ?_⟩
    by_cases h1 : 1 ≤ xs.length
    case neg =>
      have hb : goodB ds = false := by
        unfold goodB
        rw [decide_eq_false (by omega : ¬ 1 ≤ ds.length), Bool.false_and]
      refine ⟨false, bl_of (decide_eq_false (by omega)), _, rfl, ?_⟩
      refine ⟨_, rfl, by decide +kernel, ?_⟩
      refine .inr ⟨200, rfl, by decide, _, rfl, by decide +kernel, ?_⟩
      refine ⟨_, rfl, by decide +kernel, _, rfl, g, xs, rfl, .inl hS, .inr ⟨_, rfl, log_small (by omega) (by omega), _, rfl, ?_, he hb _ (Same.refl _)⟩⟩
      exact app_sz (n := 100) (m := 6) (by decide +kernel) (txt_len (by omega) (by omega)) (by decide)
    refine ⟨true, bl_of (decide_eq_true (by omega)), _, _, rfl, rfl, ?_⟩
    by_cases h2 : xs.length ≤ 200
    case neg =>
      have hb : goodB ds = false := by
        unfold goodB
        rw [decide_eq_false (by omega : ¬ ds.length ≤ 200), Bool.false_and, Bool.and_false]
      refine ⟨false, bl_of (decide_eq_false (by omega)), ?_⟩
      refine ⟨_, rfl, by decide +kernel, ?_⟩
      refine .inr ⟨200, rfl, by decide, _, rfl, by decide +kernel, ?_⟩
      refine ⟨_, rfl, by decide +kernel, _, rfl, g, xs, rfl, .inl hS, .inr ⟨_, rfl, log_small (by omega) (by omega), _, rfl, ?_, he hb _ (Same.refl _)⟩⟩
      exact app_sz (n := 100) (m := 6) (by decide +kernel) (txt_len (by omega) (by omega)) (by decide)
    refine ⟨true, bl_of (decide_eq_true (by omega)), ?_⟩
    refine ⟨_, rfl, g, xs, rfl, hS, for_gen xs.length (fun i σ H' => Same H H' ∧ (∃ v1 v2, σ = [some (.ref g), v1, v2]) ∧ ∀ d ∈ ds.take i, wholeIn d 0 999999 = true) ⟨Same.refl _, ⟨_, _, rfl⟩, fun d h => by simp at h⟩ (fun i σ H' hi h => ?_) (fun σ H' h => ⟨xs, h.1.seq hS, Nat.le_refl _⟩) (fun i σ H' y H'' hi h hy => ?_) (fun σ H' h => ?_)⟩
    · exact ⟨xs, xs[i], h.1.seq hS, List.getElem?_eq_getElem hi⟩
    · obtain ⟨s1, ⟨v1, v2, rfl⟩, hall⟩ := h
      obtain ⟨T', x, rfl, hn, rfl, hx⟩ := hy
      have hx := hx _ (s1.seq hS)
      obtain ⟨d, ed, hd⟩ := dpA_get ha hx
      have s2 := s1.more (o := .tup [.int (i : Nat), x]) hn
      refine ⟨T', _, rfl, SqT.of upd_same, rfl, _, _, rfl, _, _, rfl, rfl, ?_⟩
      refine ⟨_, rfl, _, _, rfl, rfl, x, d, 0, _, rfl, dp_same s2 _ _ hd, ?_⟩
      rw [show ((1000000 : Int) - 1) = 999999 from rfl]
      refine ⟨_, rfl, ?_⟩
      cases hf : wholeIn d 0 999999 with
      | true =>
        refine ⟨s2, ⟨_, _, rfl⟩, fun d' hd' => ?_⟩
        rw [List.take_add_one, ed] at hd'
        rcases List.mem_append.mp hd' with h | h
        · exact hall d' h
        · rw [Option.toList_some, List.mem_singleton] at h
          rw [h]
          exact hf
      | false =>
        have hb : goodB ds = false := by
          unfold goodB
          rw [Bool.and_eq_false_iff, Bool.and_eq_false_iff]
          exact .inr (.inr (Bool.eq_false_iff.mpr fun h => by
            have := List.all_eq_true.mp h d (List.mem_of_getElem? ed)
            rw [hf] at this
            cases this))
        refine ⟨_, rfl, by decide +kernel, ?_⟩
        refine ⟨_, rfl, .inr ⟨(i : Nat), rfl, log_small (by omega) (by omega), _, rfl, ?_, ?_⟩⟩
        · exact app_sz (n := 4) (m := 6) (by decide +kernel) (txt_len (by omega) (by omega)) (by decide)
        · refine ⟨_, rfl, app_sz (n := 10) (m := 40) (app_sz (n := 4) (m := 6) (by decide +kernel) (txt_len (by omega) (by omega)) (by decide)) (by decide +kernel) (by decide), ?_⟩
          refine ⟨_, _, rfl, rfl, .inr ⟨_, rfl, log_small (by decide) (by decide), _, rfl, ?_, he hb _ s2⟩⟩
          exact app_sz (n := 50) (m := 6) (app_sz (n := 10) (m := 40) (app_sz (n := 4) (m := 6) (by decide +kernel) (txt_len (by omega) (by omega)) (by decide)) (by decide +kernel) (by decide)) (by decide +kernel) (by decide)
    · obtain ⟨s1, ⟨v1, v2, rfl⟩, hall⟩ := h
      have hg : goodB ds = true := by
        unfold goodB
        rw [decide_eq_true (by omega : 1 ≤ ds.length), decide_eq_true (by omega : ds.length ≤ 200), Bool.true_and, Bool.true_and]
        rw [hl, List.take_length] at hall
        exact List.all_eq_true.mpr hall
      exact ⟨_, rfl, g, xs, rfl, .inl (s1.seq hS), fun l np => hq hg _ l (s1.more np) (s1.free np) upd_same⟩

/-- the fields of a Watched -/
def wf (lb lt : Addr) : List (Str × V) := [(("boxes" : Str), .ref lb), (("touches" : Str), .ref lt)]
def tchV (t : Str × Int) : List V := [.str t.1, .int t.2]
/-- a Watched at p over the list at lb, its touches at lt -/
def Mem (C : Addr) (H : Hp) (p lb lt : Addr) (bs : List Int) (ts : List (Str × Int)) : Prop :=
  lb ≠ lt ∧ (∃ dx, H p = some (.ins C dx (wf lb lt))) ∧ H lb = some (.lst (bs.map V.int)) ∧ ∃ us : List V, H lt = some (.lst us) ∧ us.length = ts.length ∧ ∀ (j : Nat) (t : Str × Int), ts[j]? = some t → ∃ q, us[j]? = some (V.ref q) ∧ H q = some (.tup (tchV t))
/-- what a class of watched boxes has -/
structure WCls (K : PySem.W.Frag) (C : Addr) : Prop where
  cl : Cls K C
  nB : NoAttr K C "boxes"
  nT : NoAttr K C "touches"
theorem wf_b (lb lt : Addr) : (wf lb lt).lookup ("boxes" : Str) = some (V.ref lb) := by rfl
theorem wf_t (lb lt : Addr) : (wf lb lt).lookup ("touches" : Str) = some (V.ref lt) := by rfl
theorem Mem.push {C : Addr} {H : Hp} {p lb lt q : Addr} {bs : List Int} {ts : List (Str × Int)} {us : List V} {t : Str × Int} (M : Mem C H p lb lt bs ts) (hu : H lt = some (.lst us)) (hq : H q = none) :
    Mem C (upd (upd H q (.tup (tchV t))) lt (.lst (us ++ [.ref q]))) p lb lt bs (ts ++ [t]) ∧ Fr H (upd (upd H q (.tup (tchV t))) lt (.lst (us ++ [.ref q]))) lt lt := by
  obtain ⟨hne, ⟨dx, h1⟩, h2, us', h3, h4, h5⟩ := M
  rw [hu] at h3
  cases h3
  have fr : Fr H (upd (upd H q (.tup (tchV t))) lt (.lst (us ++ [.ref q]))) lt lt := fun a o e n1 _ => by
    rw [upd_ne n1, upd_ne (ne_of_none e hq)]
    exact e
  have npl : p ≠ lt := fun z => by rw [z, hu] at h1; cases h1
  have nql : q ≠ lt := fun z => by rw [z, hu] at hq; cases hq
  refine ⟨⟨hne, ⟨dx, fr _ _ h1 npl npl⟩, fr _ _ h2 hne hne, us ++ [.ref q], upd_same, by rw [List.length_append, List.length_append, h4]; rfl, fun j t' e => ?_⟩, fr⟩
  by_cases hj : j < ts.length
  · rw [List.getElem?_append_left hj] at e
    obtain ⟨q', e1, e2⟩ := h5 j t' e
    have : q' ≠ lt := fun z => by rw [z, hu] at e2; cases e2
    exact ⟨q', by rw [List.getElem?_append_left (by omega)]; exact e1, fr _ _ e2 this this⟩
  · rw [List.getElem?_append_right (by omega)] at e
    have hj0 : j - ts.length = 0 := by
      have := (List.getElem?_eq_some_iff.mp e).1
      simp only [List.length_singleton] at this
      omega
    rw [hj0] at e
    cases e
    exact ⟨q, by rw [List.getElem?_append_right (by omega), show j - us.length = 0 by omega]; rfl, by rw [upd_ne nql, upd_same]⟩
theorem Mem.put {C : Addr} {H : Hp} {p lb lt : Addr} {bs bs' : List Int} {ts : List (Str × Int)} (M : Mem C H p lb lt bs ts) : Mem C (upd H lb (.lst (bs'.map V.int))) p lb lt bs' ts ∧ Fr H (upd H lb (.lst (bs'.map V.int))) lb lb := by
  obtain ⟨hne, ⟨dx, h1⟩, h2, us, h3, h4, h5⟩ := M
  have fr : Fr H (upd H lb (.lst (bs'.map V.int))) lb lb := fun a o e n1 _ => by
    rw [upd_ne n1]
    exact e
  have npl : p ≠ lb := fun z => by rw [z, h2] at h1; cases h1
  refine ⟨⟨hne, ⟨dx, fr _ _ h1 npl npl⟩, upd_same, us, fr _ _ h3 hne.symm hne.symm, h4, fun j t e => ?_⟩, fr⟩
  obtain ⟨q, e1, e2⟩ := h5 j t e
  have : q ≠ lb := fun z => by rw [z, h2] at e2; cases e2
  exact ⟨q, e1, fr _ _ e2 this this⟩
def spLook (C : Addr) : Sp := fun vs H Q _ => ∃ (p lb lt : Addr) (bs : List Int) (ts : List (Str × Int)) (b n : Int), vs = [.ref p, .int b] ∧ Mem C H p lb lt bs ts ∧ 0 ≤ b ∧ bs[b.toNat]? = some n ∧ ts.length ≤ 10000 ∧ ∀ H', Fr H H' lt lt → Mem C H' p lb lt bs (ts ++ [(("read" : Str), b)]) → Q (.int n) H'
abbrev s_Watched_look : Stmt := inClass (top 17) 1
abbrev N_Watched_look : List Str := ["self", "box"]
theorem S_Watched_look : FnScope N_Watched_look ["self", "box"] (defScope s_Watched_look) := ⟨rfl, rfl, rfl, by decide +kernel, rfl, by decide +kernel, by decide +kernel⟩

theorem m_look {C : Addr} (W : WCls K C) (D : MethAt K C "look" "Watched.look" s_Watched_look) : C8.Met P w K mg base 1 C "look" (spLook C) [] := by
  have S := S_Watched_look
  refine met_of W.cl D S (fun _ _ _ _ _ _ us hl => match us, hl with | [_, _], _ => rfl) (fun vs H Q E h => ?_) (fun f cdv A outer s H vs Q E hr h => ?_)
  · obtain ⟨p, lb, lt, bs, ts, b, n, rfl, _⟩ := h
    rfl
  · obtain ⟨p, lb, lt, bs, ts, b, n, rfl, M, hb, hn, hl, q⟩ := h
    refine ⟨_, (pss_cons (ps_expr (pe_bm PySem.F.plainAttrs_list PySem.F.slot_list_append PySem.F.type_list_append mt_append (pe_fld (pv 0) rfl) (pa_cons (pe_tup (pa_cons pe_str (pa_cons (pv 1) pa_nil))) pa_nil)))
  (pss_one (ps_ret (pe_ix ix_list (pe_fld (pv 0) rfl) (pv 1) (fun _ _ => rfl))))), ?_⟩
    obtain ⟨hne, ⟨dx, h1⟩, h2, us, h3, h4, h5⟩ := id M
    refine ⟨_, rfl, p, C, dx, _, _, rfl, h1, W.cl, W.nT, wf_t _ _, .inl ⟨rfl, _, SqL.of h3⟩, _, rfl, sz_ok rfl, fun t nt => ?_⟩
    have nl : t ≠ lt := fun z => by rw [z, h3] at nt; cases nt
    refine ⟨lt, us, _, rfl, rfl, by rw [upd_ne nl.symm]; exact h3, Nat.lt_of_le_of_lt (by omega : _ ≤ 10000) (by decide), ?_⟩
    obtain ⟨M2, fr⟩ := M.push (t := (("read" : Str), b)) h3 nt
    obtain ⟨_, ⟨dx2, g1⟩, g2, _⟩ := id M2
    refine ⟨_, rfl, p, C, dx2, _, _, rfl, g1, W.cl, W.nB, wf_b _ _, _, rfl, lb, _, _, .int n, rfl, rfl, SqL.of g2, at_in hb ?_, q _ fr M2⟩
    rw [List.getElem?_map, hn]
    rfl
def spPut (C : Addr) : Sp := fun vs H Q _ => ∃ (p lb lt : Addr) (bs : List Int) (ts : List (Str × Int)) (b n : Int), vs = [.ref p, .int b, .int n] ∧ Mem C H p lb lt bs ts ∧ 0 ≤ b ∧ b < bs.length ∧ ts.length ≤ 10000 ∧ ∀ H', Fr H H' lb lt → Mem C H' p lb lt (bs.set b.toNat n) (ts ++ [(("write" : Str), b)]) → Q .non H'
abbrev s_Watched_put : Stmt := inClass (top 17) 2
abbrev N_Watched_put : List Str := ["self", "box", "number"]
theorem S_Watched_put : FnScope N_Watched_put ["self", "box", "number"] (defScope s_Watched_put) := ⟨rfl, rfl, rfl, by decide +kernel, rfl, by decide +kernel, by decide +kernel⟩

theorem m_put {C : Addr} (W : WCls K C) (D : MethAt K C "put" "Watched.put" s_Watched_put) : C8.Met P w K mg base 1 C "put" (spPut C) [] := by
  have S := S_Watched_put
  refine met_of W.cl D S (fun _ _ _ _ _ _ us hl => match us, hl with | [_, _, _], _ => rfl) (fun vs H Q E h => ?_) (fun f cdv A outer s H vs Q E hr h => ?_)
  · obtain ⟨p, lb, lt, bs, ts, b, n, rfl, _⟩ := h
    rfl
  · obtain ⟨p, lb, lt, bs, ts, b, n, rfl, M, hb, hn, hl, q⟩ := h
    refine ⟨_, (pss_cons (ps_expr (pe_bm PySem.F.plainAttrs_list PySem.F.slot_list_append PySem.F.type_list_append mt_append (pe_fld (pv 0) rfl) (pa_cons (pe_tup (pa_cons pe_str (pa_cons (pv 1) pa_nil))) pa_nil)))
  (pss_one (ps_asg (pv 2) (pg_sub (pe_fld (pv 0) rfl) (pv 1) set_list)))), ?_⟩
    obtain ⟨hne, ⟨dx, h1⟩, h2, us, h3, h4, h5⟩ := id M
    refine ⟨_, rfl, p, C, dx, _, _, rfl, h1, W.cl, W.nT, wf_t _ _, .inl ⟨rfl, _, SqL.of h3⟩, _, rfl, sz_ok rfl, fun t nt => ?_⟩
    have nl : t ≠ lt := fun z => by rw [z, h3] at nt; cases nt
    refine ⟨lt, us, _, rfl, rfl, by rw [upd_ne nl.symm]; exact h3, Nat.lt_of_le_of_lt (by omega : _ ≤ 10000) (by decide), ?_⟩
    obtain ⟨M2, fr⟩ := M.push (t := (("write" : Str), b)) h3 nt
    obtain ⟨_, ⟨dx2, g1⟩, g2, _⟩ := id M2
    obtain ⟨M3, fr3⟩ := M2.put (bs' := bs.set b.toNat n)
    refine ⟨_, rfl, _, rfl, p, C, dx2, _, _, rfl, g1, W.cl, W.nB, wf_b _ _, _, rfl, lb, _, _, b.toNat, rfl, rfl, g2, ?_, ?_⟩
    · unfold ixN
      rw [List.length_map, if_pos hb, if_pos hn]
    rw [show (bs.map V.int).set b.toNat (.int n) = (bs.set b.toNat n).map V.int by rw [List.map_set]]
    exact q _ (fun a o e n1 n2 => fr3 _ _ (fr _ _ e n2 n2) n1 n1) M3

inductive RowOk (size count : Int) : Str → List Int → Prop
  | set {b n : Int} : 0 ≤ b → b < size → 0 ≤ n → n < 1000000 → RowOk size count "set" [b, n]
  | copy {b o : Int} : 0 ≤ b → b < size → 0 ≤ o → o < size → RowOk size count "copy" [b, o]
  | add {b o t : Int} : 0 ≤ b → b < size → 0 ≤ o → o < size → 0 ≤ t → t < size → RowOk size count "add" [b, o, t]
  | sub {b o t : Int} : 0 ≤ b → b < size → 0 ≤ o → o < size → 0 ≤ t → t < size → RowOk size count "sub" [b, o, t]
  | fetch {b a : Int} : 0 ≤ b → b < size → 0 ≤ a → a < size → RowOk size count "fetch" [b, a]
  | store {a b : Int} : 0 ≤ a → a < size → 0 ≤ b → b < size → RowOk size count "store" [a, b]
  | less {o t g : Int} : 0 ≤ o → o < size → 0 ≤ t → t < size → 0 ≤ g → g ≤ count → RowOk size count "less" [o, t, g]
  | jump {g : Int} : 0 ≤ g → g ≤ count → RowOk size count "jump" [g]
  | tell {b : Int} : 0 ≤ b → b < size → RowOk size count "tell" [b]
def at0 (bs : List Int) (i : Int) : Int := bs.getD i.toNat 0
/-- the touches of a row, ahead of where it goes on -/
def touchesOf (wd : Str) (ns bs : List Int) : List (Str × Int) :=
  let a := ns.getD 0 0
  let b := ns.getD 1 0
  let c := ns.getD 2 0
  if wd = "set" then [("write", a)] else if wd = "copy" then [("read", b), ("write", a)] else if wd = "add" ∨ wd = "sub" then [("read", b), ("read", c), ("write", a)]
  else if wd = "fetch" then [("read", b), ("read", at0 bs b % (bs.length : Nat)), ("write", a)] else if wd = "store" then [("read", a), ("read", b), ("write", at0 bs a % (bs.length : Nat))] else if wd = "tell" then [("read", a)] else []
def boxesOf (wd : Str) (ns bs : List Int) : List Int :=
  let a := ns.getD 0 0
  let b := ns.getD 1 0
  let c := ns.getD 2 0
  if wd = "set" then bs.set a.toNat b else if wd = "copy" then bs.set a.toNat (at0 bs b) else if wd = "add" then bs.set a.toNat ((at0 bs b + at0 bs c) % 1000000) else if wd = "sub" then bs.set a.toNat ((at0 bs b - at0 bs c) % 1000000)
  else if wd = "fetch" then bs.set a.toNat (at0 bs (at0 bs b % (bs.length : Nat))) else if wd = "store" then bs.set (at0 bs a % (bs.length : Nat)).toNat (at0 bs b) else bs
def toldOf (wd : Str) (ns bs : List Int) : List Int := if wd = "tell" then [at0 bs (ns.getD 0 0)] else []
theorem at0_get {bs : List Int} {i : Int} (h0 : 0 ≤ i) (h1 : i < (bs.length : Nat)) : bs[i.toNat]? = some (at0 bs i) := by
  unfold at0
  rw [List.getD_eq_getElem?_getD, List.getElem?_eq_getElem (by omega)]
  rfl
theorem Mem.keep {C : Addr} {H H' : Hp} {p lb lt tl : Addr} {bs : List Int} {ts : List (Str × Int)} {us : List V} (M : Mem C H p lb lt bs ts) (hT : H tl = some (.lst us)) (n1 : tl ≠ lb) (n2 : tl ≠ lt) (h : ∀ q o, H q = some o → q ≠ tl → H' q = some o) : Mem C H' p lb lt bs ts := by
  obtain ⟨hne, ⟨dx, h1⟩, h2, us', h3, h4, h5⟩ := M
  refine ⟨hne, ⟨dx, h _ _ h1 fun z => by rw [z, hT] at h1; cases h1⟩, h _ _ h2 n1.symm, us', h _ _ h3 n2.symm, h4, fun j t e => ?_⟩
  obtain ⟨q, e1, e2⟩ := h5 j t e
  exact ⟨q, e1, h _ _ e2 fun z => by rw [z, hT] at e2; cases e2⟩
def Fr3 (H H' : Hp) (a b c : Addr) : Prop := ∀ q o, H q = some o → q ≠ a → q ≠ b → q ≠ c → H' q = some o
def spAct (K : PySem.W.Frag) (C : Addr) : Sp := fun vs H Q _ => ∃ (r p lb lt tl : Addr) (wd : Str) (ns : List Int) (bs tv : List Int) (ts : List (Str × Int)) (count : Int), vs = [.ref r, .ref p, .int (bs.length : Nat), .ref tl] ∧ SqT K H r (.str wd :: ns.map V.int) ∧ Mem C H p lb lt bs ts ∧ H tl = some (.lst (tv.map V.int)) ∧
  tl ≠ lb ∧ tl ≠ lt ∧ RowOk (bs.length : Nat) count wd ns ∧ ts.length ≤ 9000 ∧ tv.length ≤ 9000 ∧ ∀ H', Fr3 H H' lb lt tl → Mem C H' p lb lt (boxesOf wd ns bs) (ts ++ touchesOf wd ns bs) → H' tl = some (.lst ((tv ++ toldOf wd ns bs).map V.int)) → Q .non H'
abbrev s__act : Stmt := top 20
abbrev N__act : List Str := ["row", "memory", "size", "told", "box", "number", "other", "one", "first", "at", "pointed"]
theorem S__act : FnScope N__act ["row", "memory", "size", "told"] (defScope s__act) := ⟨rfl, rfl, rfl, by decide +kernel, rfl, by decide +kernel, by decide +kernel⟩

theorem c_act {C : Addr} (T : Txt K w mg) (D : DefAt K "_act" s__act) (gRound : ∃ t, mg "ROUND" = some (.int 1000000 t)) (M_look : C8.Met P w K mg base 1 C "look" (spLook C) []) (M_put : C8.Met P w K mg base 1 C "put" (spPut C) []) : Cal P w K mg base CX0 2 "_act" (spAct K C) := by
  have S := S__act
  obtain ⟨tR, gRound⟩ := gRound
  refine cal_of T.toTop D S (fun _ _ _ _ _ _ us hl => match us, hl with | [_, _, _, _], _ => rfl) (fun vs H Q E h => ?_) (fun f cdv A outer s H vs Q E hr h => ?_)
  · obtain ⟨r, p, lb, lt, tl, wd, ns, bs, tv, ts, count, rfl, _⟩ := h
    rfl
  · obtain ⟨r, p, lb, lt, tl, wd, ns, bs, tv, ts, count, rfl, hS, M, hT, n1, n2, hrow, hts, htv, q⟩ := h
    refine ⟨_, (pss_one (ps_match (pv 0) (pm_seq rfl S.nd (.cons (i := 4) rfl (Or.inl rfl) (by first | exact .inl rfl | exact .inr rfl) (.cons (i := 5) rfl (Or.inl rfl) (by first | exact .inl rfl | exact .inr rfl) .nil)) (pss_one (ps_expr (C8.pe_mt M_put hr (by decide) (pv 1) (pa_cons (pv 4) (pa_cons (pv 5) pa_nil)))))
  (pm_seq rfl S.nd (.cons (i := 4) rfl (Or.inl rfl) (by first | exact .inl rfl | exact .inr rfl) (.cons (i := 6) rfl (Or.inl rfl) (by first | exact .inl rfl | exact .inr rfl) .nil)) (pss_one (ps_expr (C8.pe_mt M_put hr (by decide) (pv 1) (pa_cons (pv 4) (pa_cons (C8.pe_mt M_look hr (by decide) (pv 1) (pa_cons (pv 6) pa_nil)) pa_nil)))))
  (pm_seq rfl S.nd (.cons (i := 4) rfl (Or.inl rfl) (by first | exact .inl rfl | exact .inr rfl) (.cons (i := 7) rfl (Or.inl rfl) (by first | exact .inl rfl | exact .inr rfl) (.cons (i := 6) rfl (Or.inl rfl) (by first | exact .inl rfl | exact .inr rfl) .nil))) (pss_cons (ps_set (i := 8) S.nd rfl (Or.inl rfl) (C8.pe_mt M_look hr (by decide) (pv 1) (pa_cons (pv 7) pa_nil)))
  (pss_one (ps_expr (C8.pe_mt M_put hr (by decide) (pv 1) (pa_cons (pv 4) (pa_cons (pe_op op_mod (pe_op op_add (pv 8) (C8.pe_mt M_look hr (by decide) (pv 1) (pa_cons (pv 6) pa_nil))) ((pe_glob (v := .int 1000000) rfl gRound ⟨_, rfl⟩))) pa_nil))))))
  (pm_seq rfl S.nd (.cons (i := 4) rfl (Or.inl rfl) (by first | exact .inl rfl | exact .inr rfl) (.cons (i := 7) rfl (Or.inl rfl) (by first | exact .inl rfl | exact .inr rfl) (.cons (i := 6) rfl (Or.inl rfl) (by first | exact .inl rfl | exact .inr rfl) .nil))) (pss_cons (ps_set (i := 8) S.nd rfl (Or.inl rfl) (C8.pe_mt M_look hr (by decide) (pv 1) (pa_cons (pv 7) pa_nil)))
  (pss_one (ps_expr (C8.pe_mt M_put hr (by decide) (pv 1) (pa_cons (pv 4) (pa_cons (pe_op op_mod (pe_op op_sub (pv 8) (C8.pe_mt M_look hr (by decide) (pv 1) (pa_cons (pv 6) pa_nil))) ((pe_glob (v := .int 1000000) rfl gRound ⟨_, rfl⟩))) pa_nil))))))
  (pm_seq rfl S.nd (.cons (i := 4) rfl (Or.inl rfl) (by first | exact .inl rfl | exact .inr rfl) (.cons (i := 9) rfl (Or.inl rfl) (by first | exact .inl rfl | exact .inr rfl) .nil)) (pss_cons (ps_set (i := 10) S.nd rfl (Or.inl rfl) (pe_op op_mod (C8.pe_mt M_look hr (by decide) (pv 1) (pa_cons (pv 9) pa_nil)) (pv 2)))
  (pss_one (ps_expr (C8.pe_mt M_put hr (by decide) (pv 1) (pa_cons (pv 4) (pa_cons (C8.pe_mt M_look hr (by decide) (pv 1) (pa_cons (pv 10) pa_nil)) pa_nil))))))
  (pm_seq rfl S.nd (.cons (i := 9) rfl (Or.inl rfl) (by first | exact .inl rfl | exact .inr rfl) (.cons (i := 4) rfl (Or.inl rfl) (by first | exact .inl rfl | exact .inr rfl) .nil)) (pss_cons (ps_set (i := 10) S.nd rfl (Or.inl rfl) (pe_op op_mod (C8.pe_mt M_look hr (by decide) (pv 1) (pa_cons (pv 9) pa_nil)) (pv 2)))
  (pss_one (ps_expr (C8.pe_mt M_put hr (by decide) (pv 1) (pa_cons (pv 10) (pa_cons (C8.pe_mt M_look hr (by decide) (pv 1) (pa_cons (pv 4) pa_nil)) pa_nil))))))
  (pm_seq rfl S.nd (.cons (i := 4) rfl (Or.inl rfl) (by first | exact .inl rfl | exact .inr rfl) .nil) (pss_one (ps_expr (pe_bm PySem.F.plainAttrs_list PySem.F.slot_list_append PySem.F.type_list_append mt_append (pv 3) (pa_cons (C8.pe_mt M_look hr (by decide) (pv 1) (pa_cons (pv 4) pa_nil)) pa_nil))))
  pm_nil))))))))), ?_⟩
    obtain ⟨hne, ⟨dx, h1⟩, _⟩ := id M
    have end0 : ∀ H', Fr3 H H' lb lt tl → H' tl = H tl → Mem C H' p lb lt (boxesOf wd ns bs) (ts ++ touchesOf wd ns bs) → toldOf wd ns bs = [] → Q .non H' := fun H' fr e M' h0 => q H' fr M' (by rw [h0, List.append_nil, e]; exact hT)
    have l1 : ∀ x : Str × Int, (ts ++ [x]).length ≤ 10000 := fun x => by rw [List.length_append, List.length_singleton]; omega
    have l2 : ∀ x y : Str × Int, (ts ++ [x] ++ [y]).length ≤ 10000 := fun x y => by rw [List.length_append, List.length_append, List.length_singleton, List.length_singleton]; omega
    have hpos : ∀ o : Int, 0 ≤ o → o < (bs.length : Nat) → (0 : Int) < (bs.length : Nat) := fun o h0 h1 => by omega
    cases hrow with
    | @set b n b0 b1 m0 m1 =>
      refine ⟨_, rfl, r, _, _, rfl, hS, fun _ => ?_, fun h => absurd ⟨rfl, rfl⟩ h⟩
      refine ⟨_, rfl, p, dx, _, rfl, h1, rfl, _, rfl, _, rfl, p, lb, lt, bs, _, _, _, rfl, M, b0, b1, (by omega), fun H' fr M' => ?_⟩
      exact end0 H' (fun a o e x y _ => fr a o e x y) ((fr _ _ hT n1 n2).trans hT.symm) M' rfl
    | @copy b o b0 b1 o0 o1 =>
      refine ⟨_, rfl, r, _, _, rfl, hS, fun h => absurd h.2 (by decide), fun _ => ?_⟩
      refine ⟨r, _, _, rfl, hS, fun _ => ?_, fun h => absurd ⟨rfl, rfl⟩ h⟩
      refine ⟨_, rfl, p, dx, _, rfl, h1, rfl, _, rfl, _, rfl, p, dx, _, rfl, h1, rfl, _, rfl, p, lb, lt, bs, _, _, _, rfl, M, o0, at0_get o0 o1, (by omega), fun H2 fr2 M2 => ?_⟩
      refine ⟨p, lb, lt, bs, _, _, _, rfl, M2, b0, b1, (l1 _), fun H3 fr3 M3 => ?_⟩
      rw [List.append_assoc] at M3
      exact end0 H3 (fun a o e x y _ => fr3 _ _ (fr2 _ _ e y y) x y) ((fr3 _ _ (fr2 _ _ hT n2 n2) n1 n2).trans hT.symm) M3 rfl
    | @add b o t b0 b1 o0 o1 t0 t1 =>
      refine ⟨_, rfl, r, _, _, rfl, hS, fun h => absurd h.2 (by decide), fun _ => ?_⟩
      refine ⟨r, _, _, rfl, hS, fun h => absurd h.2 (by decide), fun _ => ?_⟩
      refine ⟨r, _, _, rfl, hS, fun _ => ?_, fun h => absurd ⟨rfl, rfl⟩ h⟩
      refine ⟨_, rfl, p, dx, _, rfl, h1, rfl, _, rfl, p, lb, lt, bs, _, _, _, rfl, M, o0, at0_get o0 o1, (by omega), fun H2 fr2 M2 => ?_⟩
      obtain ⟨_, ⟨dx2, g1⟩, _⟩ := id M2
      refine ⟨_, rfl, p, dx2, _, rfl, g1, rfl, _, rfl, _, rfl, _, rfl, p, dx2, _, rfl, g1, rfl, _, rfl, p, lb, lt, bs, _, _, _, rfl, M2, t0, at0_get t0 t1, (l1 _), fun H3 fr3 M3 => ?_⟩
      refine ⟨_, _, rfl, rfl, _, _, rfl, rfl, (by show (0 : Int) < 1000000; decide), p, lb, lt, bs, _, _, _, rfl, M3, b0, b1, (l2 _ _), fun H4 fr4 M4 => ?_⟩
      rw [List.append_assoc, List.append_assoc] at M4
      exact end0 H4 (fun a o e x y _ => fr4 _ _ (fr3 _ _ (fr2 _ _ e y y) y y) x y) ((fr4 _ _ (fr3 _ _ (fr2 _ _ hT n2 n2) n2 n2) n1 n2).trans hT.symm) M4 rfl
    | @sub b o t b0 b1 o0 o1 t0 t1 =>
      refine ⟨_, rfl, r, _, _, rfl, hS, fun h => absurd h.2 (by decide), fun _ => ?_⟩
      refine ⟨r, _, _, rfl, hS, fun h => absurd h.2 (by decide), fun _ => ?_⟩
      refine ⟨r, _, _, rfl, hS, fun h => absurd h.2 (by decide), fun _ => ?_⟩
      refine ⟨r, _, _, rfl, hS, fun _ => ?_, fun h => absurd ⟨rfl, rfl⟩ h⟩
      refine ⟨_, rfl, p, dx, _, rfl, h1, rfl, _, rfl, p, lb, lt, bs, _, _, _, rfl, M, o0, at0_get o0 o1, (by omega), fun H2 fr2 M2 => ?_⟩
      obtain ⟨_, ⟨dx2, g1⟩, _⟩ := id M2
      refine ⟨_, rfl, p, dx2, _, rfl, g1, rfl, _, rfl, _, rfl, _, rfl, p, dx2, _, rfl, g1, rfl, _, rfl, p, lb, lt, bs, _, _, _, rfl, M2, t0, at0_get t0 t1, (l1 _), fun H3 fr3 M3 => ?_⟩
      refine ⟨_, _, rfl, rfl, _, _, rfl, rfl, (by show (0 : Int) < 1000000; decide), p, lb, lt, bs, _, _, _, rfl, M3, b0, b1, (l2 _ _), fun H4 fr4 M4 => ?_⟩
      rw [List.append_assoc, List.append_assoc] at M4
      exact end0 H4 (fun a o e x y _ => fr4 _ _ (fr3 _ _ (fr2 _ _ e y y) y y) x y) ((fr4 _ _ (fr3 _ _ (fr2 _ _ hT n2 n2) n2 n2) n1 n2).trans hT.symm) M4 rfl
    | @fetch b a b0 b1 a0 a1 =>
      refine ⟨_, rfl, r, _, _, rfl, hS, fun h => absurd h.2 (by decide), fun _ => ?_⟩
      refine ⟨r, _, _, rfl, hS, fun h => absurd h.2 (by decide), fun _ => ?_⟩
      refine ⟨r, _, _, rfl, hS, fun h => absurd h.2 (by decide), fun _ => ?_⟩
      refine ⟨r, _, _, rfl, hS, fun h => absurd h.2 (by decide), fun _ => ?_⟩
      refine ⟨r, _, _, rfl, hS, fun _ => ?_, fun h => absurd ⟨rfl, rfl⟩ h⟩
      have hp := hpos _ a0 a1
      have m0 := mod_nn (at0 bs a) hp
      have m1 := mod_lt (at0 bs a) hp
      refine ⟨_, rfl, p, dx, _, rfl, h1, rfl, _, rfl, p, lb, lt, bs, _, _, _, rfl, M, a0, at0_get a0 a1, (by omega), fun H2 fr2 M2 => ?_⟩
      obtain ⟨_, ⟨dx2, g1⟩, _⟩ := id M2
      refine ⟨_, rfl, _, _, rfl, rfl, hp, ?_⟩
      refine ⟨_, rfl, p, dx2, _, rfl, g1, rfl, _, rfl, _, rfl, p, dx2, _, rfl, g1, rfl, _, rfl, p, lb, lt, bs, _, _, _, rfl, M2, m0, at0_get m0 m1, (l1 _), fun H3 fr3 M3 => ?_⟩
      refine ⟨p, lb, lt, bs, _, _, _, rfl, M3, b0, b1, (l2 _ _), fun H4 fr4 M4 => ?_⟩
      rw [List.append_assoc, List.append_assoc] at M4
      exact end0 H4 (fun a o e x y _ => fr4 _ _ (fr3 _ _ (fr2 _ _ e y y) y y) x y) ((fr4 _ _ (fr3 _ _ (fr2 _ _ hT n2 n2) n2 n2) n1 n2).trans hT.symm) M4 rfl
    | @store a b a0 a1 b0 b1 =>
      refine ⟨_, rfl, r, _, _, rfl, hS, fun h => absurd h.2 (by decide), fun _ => ?_⟩
      refine ⟨r, _, _, rfl, hS, fun h => absurd h.2 (by decide), fun _ => ?_⟩
      refine ⟨r, _, _, rfl, hS, fun h => absurd h.2 (by decide), fun _ => ?_⟩
      refine ⟨r, _, _, rfl, hS, fun h => absurd h.2 (by decide), fun _ => ?_⟩
      refine ⟨r, _, _, rfl, hS, fun h => absurd h.2 (by decide), fun _ => ?_⟩
      refine ⟨r, _, _, rfl, hS, fun _ => ?_, fun h => absurd ⟨rfl, rfl⟩ h⟩
      have hp := hpos _ a0 a1
      have m0 := mod_nn (at0 bs a) hp
      have m1 := mod_lt (at0 bs a) hp
      refine ⟨_, rfl, p, dx, _, rfl, h1, rfl, _, rfl, p, lb, lt, bs, _, _, _, rfl, M, a0, at0_get a0 a1, (by omega), fun H2 fr2 M2 => ?_⟩
      obtain ⟨_, ⟨dx2, g1⟩, _⟩ := id M2
      refine ⟨_, rfl, _, _, rfl, rfl, hp, ?_⟩
      refine ⟨_, rfl, p, dx2, _, rfl, g1, rfl, _, rfl, _, rfl, p, dx2, _, rfl, g1, rfl, _, rfl, p, lb, lt, bs, _, _, _, rfl, M2, b0, at0_get b0 b1, (l1 _), fun H3 fr3 M3 => ?_⟩
      refine ⟨p, lb, lt, bs, _, _, _, rfl, M3, m0, m1, (l2 _ _), fun H4 fr4 M4 => ?_⟩
      rw [List.append_assoc, List.append_assoc] at M4
      exact end0 H4 (fun a o e x y _ => fr4 _ _ (fr3 _ _ (fr2 _ _ e y y) y y) x y) ((fr4 _ _ (fr3 _ _ (fr2 _ _ hT n2 n2) n2 n2) n1 n2).trans hT.symm) M4 rfl
    | @tell b b0 b1 =>
      refine ⟨_, rfl, r, _, _, rfl, hS, fun h => absurd h.2 (by decide), fun _ => ?_⟩
      refine ⟨r, _, _, rfl, hS, fun h => absurd h.2 (by decide), fun _ => ?_⟩
      refine ⟨r, _, _, rfl, hS, fun h => absurd h.2 (by decide), fun _ => ?_⟩
      refine ⟨r, _, _, rfl, hS, fun h => absurd h.2 (by decide), fun _ => ?_⟩
      refine ⟨r, _, _, rfl, hS, fun h => absurd h.2 (by decide), fun _ => ?_⟩
      refine ⟨r, _, _, rfl, hS, fun h => absurd h.2 (by decide), fun _ => ?_⟩
      refine ⟨r, _, _, rfl, hS, fun _ => ?_, fun h => absurd ⟨rfl, rfl⟩ h⟩
      refine ⟨_, rfl, .inl ⟨rfl, _, SqL.of hT⟩, _, rfl, p, dx, _, rfl, h1, rfl, _, rfl, p, lb, lt, bs, _, _, _, rfl, M, b0, at0_get b0 b1, (by omega), fun H2 fr2 M2 => ?_⟩
      have hT2 := fr2 _ _ hT n2 n2
      have k3 : ∀ q o, H2 q = some o → q ≠ tl → upd H2 tl (.lst (tv.map V.int ++ [.int (at0 bs b)])) q = some o := fun q o e n => by
        rw [upd_ne n]
        exact e
      refine ⟨tl, _, _, rfl, rfl, hT2, by rw [List.length_map]; exact Nat.lt_of_le_of_lt htv (by decide), ?_⟩
      refine q _ (fun a o e x y z => k3 _ _ (fr2 _ _ e y y) z) (M2.keep hT2 n1 n2 k3) ?_
      rw [upd_same, List.map_append]
      rfl
    | @less o t g o0 o1 t0 t1 g0 g1 =>
      refine ⟨_, rfl, r, _, _, rfl, hS, fun h => absurd h.2 (by decide), fun _ => ?_⟩
      refine ⟨r, _, _, rfl, hS, fun h => absurd h.2 (by decide), fun _ => ?_⟩
      refine ⟨r, _, _, rfl, hS, fun h => absurd h.2 (by decide), fun _ => ?_⟩
      refine ⟨r, _, _, rfl, hS, fun h => absurd h.2 (by decide), fun _ => ?_⟩
      refine ⟨r, _, _, rfl, hS, fun h => absurd h.2 (by decide), fun _ => ?_⟩
      refine ⟨r, _, _, rfl, hS, fun h => absurd h.2 (by decide), fun _ => ?_⟩
      refine ⟨r, _, _, rfl, hS, fun h => absurd h.2 (by decide), fun _ => ?_⟩
      exact end0 H (fun a o e _ _ _ => e) rfl (by rw [show touchesOf "less" [o, t, g] bs = [] from rfl, List.append_nil]; exact M) rfl
    | @jump g g0 g1 =>
      refine ⟨_, rfl, r, _, _, rfl, hS, fun h => absurd h.2 (by decide), fun _ => ?_⟩
      refine ⟨r, _, _, rfl, hS, fun h => absurd h.2 (by decide), fun _ => ?_⟩
      refine ⟨r, _, _, rfl, hS, fun h => absurd h.2 (by decide), fun _ => ?_⟩
      refine ⟨r, _, _, rfl, hS, fun h => absurd h.2 (by decide), fun _ => ?_⟩
      refine ⟨r, _, _, rfl, hS, fun h => absurd h.2 (by decide), fun _ => ?_⟩
      refine ⟨r, _, _, rfl, hS, fun h => absurd h.2 (by decide), fun _ => ?_⟩
      refine ⟨r, _, _, rfl, hS, fun h => absurd h.2 (by decide), fun _ => ?_⟩
      exact end0 H (fun a o e _ _ _ => e) rfl (by rw [show touchesOf "jump" [g] bs = [] from rfl, List.append_nil]; exact M) rfl

def nextT (wd : Str) (ns : List Int) : List (Str × Int) := if wd = "less" then [("read", ns.getD 0 0), ("read", ns.getD 1 0)] else []
def nextOf (wd : Str) (ns bs : List Int) (place : Int) : Int := if wd = "less" then (if at0 bs (ns.getD 0 0) < at0 bs (ns.getD 1 0) then ns.getD 2 0 else place + 1) else if wd = "jump" then ns.getD 0 0 else place + 1
def spNext (K : PySem.W.Frag) (C : Addr) : Sp := fun vs H Q _ => ∃ (r p lb lt : Addr) (wd : Str) (ns : List Int) (bs : List Int) (ts : List (Str × Int)) (count place : Int), vs = [.ref r, .int place, .ref p] ∧ SqT K H r (.str wd :: ns.map V.int) ∧ Mem C H p lb lt bs ts ∧
  RowOk (bs.length : Nat) count wd ns ∧ ts.length ≤ 9000 ∧ ∀ H', Fr H H' lt lt → Mem C H' p lb lt bs (ts ++ nextT wd ns) → Q (.int (nextOf wd ns bs place)) H'
abbrev s__next_place : Stmt := top 21
abbrev N__next_place : List Str := ["row", "place", "memory", "one", "other", "goal", "first"]
theorem S__next_place : FnScope N__next_place ["row", "place", "memory"] (defScope s__next_place) := ⟨rfl, rfl, rfl, by decide +kernel, rfl, by decide +kernel, by decide +kernel⟩

theorem c_next_place {C : Addr} (T : Txt K w mg) (D : DefAt K "_next_place" s__next_place) (M_look : C8.Met P w K mg base 1 C "look" (spLook C) []) : Cal P w K mg base CX0 2 "_next_place" (spNext K C) := by
  have S := S__next_place
  refine cal_of T.toTop D S (fun _ _ _ _ _ _ us hl => match us, hl with | [_, _, _], _ => rfl) (fun vs H Q E h => ?_) (fun f cdv A outer s H vs Q E hr h => ?_)
  · obtain ⟨r, p, lb, lt, wd, ns, bs, ts, count, place, rfl, _⟩ := h
    rfl
  · obtain ⟨r, p, lb, lt, wd, ns, bs, ts, count, place, rfl, hS, M, hrow, hts, q⟩ := h
    refine ⟨_, (pss_cons (ps_match (pv 0) (pm_seq rfl S.nd (.cons (i := 3) rfl (Or.inl rfl) (by first | exact .inl rfl | exact .inr rfl) (.cons (i := 4) rfl (Or.inl rfl) (by first | exact .inl rfl | exact .inr rfl) (.cons (i := 5) rfl (Or.inl rfl) (by first | exact .inl rfl | exact .inr rfl) .nil))) (pss_cons (ps_set (i := 6) S.nd rfl (Or.inl rfl) (C8.pe_mt M_look hr (by decide) (pv 2) (pa_cons (pv 3) pa_nil)))
  (pss_one (ps_if (pt_cmpR op_lt (pv 6) (C8.pe_mt M_look hr (by decide) (pv 2) (pa_cons (pv 4) pa_nil)) (nomark _)) (pss_one (ps_ret (pv 5))) pss_nil)))
  (pm_seq rfl S.nd (.cons (i := 5) rfl (Or.inl rfl) (by first | exact .inl rfl | exact .inr rfl) .nil) (pss_one (ps_ret (pv 5)))
  pm_nil)))
  (pss_one (ps_ret (pe_op op_add (pv 1) pe_int)))), ?_⟩
    obtain ⟨hne, ⟨dx, h1⟩, _⟩ := id M
    have l1 : ∀ x : Str × Int, (ts ++ [x]).length ≤ 10000 := fun x => by rw [List.length_append, List.length_singleton]; omega
    have end0 : nextT wd ns = [] → Q (.int (nextOf wd ns bs place)) H := fun e => q H (fun _ _ e _ _ => e) (by rw [e, List.append_nil]; exact M)
    cases hrow with
    | @less o t g o0 o1 t0 t1 g0 g1 =>
      refine ⟨_, rfl, r, _, _, rfl, hS, fun _ => ?_, fun h => absurd ⟨rfl, rfl⟩ h⟩
      refine ⟨_, rfl, p, dx, _, rfl, h1, rfl, _, rfl, p, lb, lt, bs, _, _, _, rfl, M, o0, at0_get o0 o1, (by omega), fun H2 fr2 M2 => ?_⟩
      obtain ⟨_, ⟨dx2, g2⟩, _⟩ := id M2
      refine ⟨_, rfl, _, rfl, p, dx2, _, rfl, g2, rfl, _, rfl, p, lb, lt, bs, _, _, _, rfl, M2, t0, at0_get t0 t1, (l1 _), fun H3 fr3 M3 => ?_⟩
      rw [List.append_assoc] at M3
      have q3 := q H3 (fun a o e x y => fr3 _ _ (fr2 _ _ e y y) y y) M3
      by_cases hlt : at0 bs o < at0 bs t
      · refine ⟨_, _, rfl, rfl, true, bl_of (decide_eq_true hlt), ?_⟩
        rw [show nextOf "less" [o, t, g] bs place = g from if_pos hlt] at q3
        exact ⟨_, rfl, q3⟩
      · refine ⟨_, _, rfl, rfl, false, bl_of (decide_eq_false hlt), ?_⟩
        rw [show nextOf "less" [o, t, g] bs place = place + 1 from if_neg hlt] at q3
        exact ⟨_, rfl, _, _, rfl, rfl, q3⟩
    | @jump g g0 g1 =>
      refine ⟨_, rfl, r, _, _, rfl, hS, fun h => absurd h.2 (by decide), fun _ => ?_⟩
      refine ⟨r, _, _, rfl, hS, fun _ => ?_, fun h => absurd ⟨rfl, rfl⟩ h⟩
      exact ⟨_, rfl, end0 rfl⟩
    | _ =>
      refine ⟨_, rfl, r, _, _, rfl, hS, fun h => absurd h.2 (by decide), fun _ => ?_⟩
      refine ⟨r, _, _, rfl, hS, fun h => absurd h.2 (by decide), fun _ => ?_⟩
      exact ⟨_, rfl, _, _, rfl, rfl, end0 rfl⟩

def spInit (C : Addr) : Sp := fun vs H Q _ => ∃ (H0 : Hp) (p dx lb : Addr) (bs : List Int), vs = [.ref p, .ref lb] ∧ Same H0 H ∧ H0 p = none ∧ H p = some (.ins C dx []) ∧ H0 lb = some (.lst (bs.map V.int)) ∧ ∀ H' lt, Same H0 H' → H0 lt = none → Mem C H' p lb lt bs [] → Q .non H'
abbrev s_Watched___init__ : Stmt := inClass (top 17) 0
abbrev N_Watched___init__ : List Str := ["self", "boxes"]
theorem S_Watched___init__ : FnScope N_Watched___init__ ["self", "boxes"] (defScope s_Watched___init__) := ⟨rfl, rfl, rfl, by decide +kernel, rfl, by decide +kernel, by decide +kernel⟩

theorem m_init {C : Addr} (W : WCls K C) (mk : PySem.W.makesIn K C = true) (kc : PySem.W.keepIn K (.ref C) = true) (hm : mg "Watched" = some (.ref C)) (D : MethAt K C "__init__" "Watched.__init__" s_Watched___init__) : C8.Mak P w K mg base 1 "Watched" C (spInit C) [] := by
  have S := S_Watched___init__
  refine mak_of mk kc hm D S (fun _ _ _ _ _ _ us hl => match us, hl with | [_, _], _ => rfl) (fun vs H Q E h => ?_) (fun f cdv A outer s H vs Q E hr h => ?_)
  · obtain ⟨H0, p, dx, lb, bs, rfl, _⟩ := h
    rfl
  · obtain ⟨H0, p, dx, lb, bs, rfl, s0, p0, hp, hb, q⟩ := h
    refine ⟨_, (pss_cons (ps_fld (pv 0) (pv 1) rfl)
  (pss_one (ps_fld (pv 0) (pe_lst pa_nil) rfl))), ?_⟩
    refine ⟨_, rfl, _, rfl, p, C, dx, [], rfl, hp, W.cl, W.nB, (by show 0 < 1000; decide), ?_⟩
    refine ⟨sz_ok rfl, fun lt nt => ?_⟩
    have npl : p ≠ lt := fun z => by
      rw [← z, upd_same] at nt
      cases nt
    have nt0 : H lt = none := by
      rw [upd_ne npl.symm] at nt
      exact nt
    have hbH := s0 _ _ hb
    have nbp : lb ≠ p := fun z => by rw [z, p0] at hb; cases hb
    have nbt : lb ≠ lt := ne_of_none hbH nt0
    refine ⟨_, rfl, p, C, dx, _, rfl, by rw [upd_ne npl]; exact upd_same, W.cl, W.nT, (by show 1 < 1000; decide), ?_⟩
    refine q _ lt (fun b o e => ?_) (s0.free nt0) ⟨nbt, ⟨dx, upd_same⟩, by rw [upd_ne nbp, upd_ne nbt, upd_ne nbp]; exact hbH, [], by rw [upd_ne npl.symm, upd_same], rfl, fun j t e => by simp at e⟩
    have n1 : b ≠ p := fun z => by rw [z, p0] at e; cases e
    rw [upd_ne n1, upd_ne (ne_of_none (s0 _ _ e) nt0), upd_ne n1]
    exact s0 _ _ e
structure Ms where
  place : Int
  bs : List Int
  ts : List (Str × Int)
  tv : List Int
abbrev Rw := Str × List Int
def stepM (rows : List Rw) (s : Ms) : Ms := match rows[s.place.toNat]? with
  | some r => ⟨nextOf r.1 r.2 (boxesOf r.1 r.2 s.bs) s.place, boxesOf r.1 r.2 s.bs, s.ts ++ touchesOf r.1 r.2 s.bs ++ nextT r.1 r.2, s.tv ++ toldOf r.1 r.2 s.bs⟩
  | none => s
def runM (rows : List Rw) : Nat → Ms → Ms
  | 0, s => s
  | n + 1, s => if s.place < (rows.length : Nat) then runM rows n (stepM rows s) else s
theorem runM_end {rows : List Rw} {s : Ms} (h : ¬ s.place < (rows.length : Nat)) : ∀ n, runM rows n s = s
  | 0 => rfl
  | n + 1 => if_neg h
theorem boxes_len (wd : Str) (ns bs : List Int) : (boxesOf wd ns bs).length = bs.length := by
  unfold boxesOf
  dsimp only
  repeat' split
  all_goals first | rfl | rw [List.length_set]
theorem touches_len (wd : Str) (ns bs : List Int) : (touchesOf wd ns bs).length ≤ 3 := by
  unfold touchesOf
  dsimp only
  repeat' split
  all_goals (simp only [List.length_cons, List.length_nil]; omega)
theorem nextT_len (wd : Str) (ns : List Int) : (nextT wd ns).length ≤ 2 := by
  unfold nextT
  split
  all_goals (simp only [List.length_cons, List.length_nil]; omega)
theorem told_len (wd : Str) (ns bs : List Int) : (toldOf wd ns bs).length ≤ 1 := by
  unfold toldOf
  split
  all_goals (simp only [List.length_cons, List.length_nil]; omega)
theorem next_in {size count : Int} {wd : Str} {ns bs : List Int} {place : Int} (h : RowOk size count wd ns) (h0 : 0 ≤ place) (h1 : place < count) : 0 ≤ nextOf wd ns bs place ∧ nextOf wd ns bs place ≤ count := by
  cases h with
  | @less o t g o0 o1 t0 t1 g0 g1 =>
    by_cases hlt : at0 bs o < at0 bs t
    · rw [show nextOf "less" [o, t, g] bs place = g from if_pos hlt]; omega
    · rw [show nextOf "less" [o, t, g] bs place = place + 1 from if_neg hlt]; omega
  | @jump g g0 g1 => exact ⟨g0, g1⟩
  | _ => exact ⟨by show 0 ≤ place + 1; omega, by show place + 1 ≤ count; omega⟩
theorem sqt_fr3 {H H' : Hp} {a b c r : Addr} {xs ua ub uc : List V} (h : SqT K H r xs) (ha : H a = some (.lst ua)) (hb : H b = some (.lst ub)) (hc : H c = some (.lst uc)) (f : Fr3 H H' a b c) : SqT K H' r xs := by
  have go : ∀ o, H r = some o → (∀ u, o ≠ .lst u) → H' r = some o := fun o e n => f _ _ e (fun z => by rw [z, ha] at e; cases e; exact n _ rfl) (fun z => by rw [z, hb] at e; cases e; exact n _ rfl) (fun z => by rw [z, hc] at e; cases e; exact n _ rfl)
  rcases h with (h | ⟨o, h⟩) | h
  · exact .inl (.inl (go _ h fun u z => nomatch z))
  · exact .inl (.inr ⟨o, go _ h fun u z => nomatch z⟩)
  · exact .inr h
/-- the program at pg -/
def Prg (K : PySem.W.Frag) (H : Hp) (pg : Addr) (rows : List Rw) : Prop := ∃ xs : List V, H pg = some (.lst xs) ∧ xs.length = rows.length ∧ ∀ (j : Nat) (r : Rw), rows[j]? = some r → ∃ a, xs[j]? = some (V.ref a) ∧ SqT K H a (.str r.1 :: r.2.map V.int)
theorem Prg.fr {H H' : Hp} {pg a b c : Addr} {rows : List Rw} {ua ub uc : List V} (h : Prg K H pg rows) (n1 : pg ≠ a) (n2 : pg ≠ b) (n3 : pg ≠ c) (ha : H a = some (.lst ua)) (hb : H b = some (.lst ub)) (hc : H c = some (.lst uc)) (f : Fr3 H H' a b c) : Prg K H' pg rows := by
  obtain ⟨xs, h1, h2, h3⟩ := h
  refine ⟨xs, f _ _ h1 n1 n2 n3, h2, fun j r e => ?_⟩
  obtain ⟨q, e1, e2⟩ := h3 j r e
  exact ⟨q, e1, sqt_fr3 e2 ha hb hc f⟩
def endOf (rows : List Rw) (s : Ms) : Str := if s.place < (rows.length : Nat) then "steps" else "over"
def spWalk (K : PySem.W.Frag) (C : Addr) : Sp := fun vs H Q _ => ∃ (pg p lb lt : Addr) (rows : List Rw) (bs : List Int) (n : Nat), vs = [.ref pg, .ref p, .int (bs.length : Nat), .int (n : Nat)] ∧ Prg K H pg rows ∧ (∀ r ∈ rows, RowOk (bs.length : Nat) (rows.length : Nat) r.1 r.2) ∧ Mem C H p lb lt bs [] ∧ pg ≠ lb ∧ pg ≠ lt ∧ n ≤ 1000 ∧
  ∀ H' q tl, Fr H H' lb lt → H tl = none → H q = none → Mem C H' p lb lt (runM rows n ⟨0, bs, [], []⟩).bs (runM rows n ⟨0, bs, [], []⟩).ts → H' tl = some (.lst ((runM rows n ⟨0, bs, [], []⟩).tv.map V.int)) → tl ≠ lb → tl ≠ lt → H' q = some (.tup [.ref tl, .str (endOf rows (runM rows n ⟨0, bs, [], []⟩))]) → Q (.ref q) H'
abbrev s_walk : Stmt := top 19
abbrev N_walk : List Str := ["program", "memory", "size", "steps", "told", "place", "done", "row"]
theorem S_walk : FnScope N_walk ["program", "memory", "size", "steps"] (defScope s_walk) := ⟨rfl, rfl, rfl, by decide +kernel, rfl, by decide +kernel, by decide +kernel⟩

theorem c_walk {C : Addr} (T : Txt K w mg) (D : DefAt K "walk" s_walk) (C__act : Cal P w K mg base CX0 2 "_act" (spAct K C)) (C__next_place : Cal P w K mg base CX0 2 "_next_place" (spNext K C)) : Cal P w K mg base CX0 3 "walk" (spWalk K C) := by
  have S := S_walk
  refine cal_of T.toTop D S (fun _ _ _ _ _ _ us hl => match us, hl with | [_, _, _, _], _ => rfl) (fun vs H Q E h => ?_) (fun f cdv A outer s H vs Q E hr h => ?_)
  · obtain ⟨pg, p, lb, lt, rows, bs, n, rfl, _⟩ := h
    rfl
  · obtain ⟨pg, p, lb, lt, rows, bs, n, rfl, hP, hR, M, np1, np2, hn, q⟩ := h
    refine ⟨_, (pss_cons (ps_set (i := 4) S.nd rfl (Or.inl rfl) (pe_lst pa_nil))
  (pss_cons (ps_set (i := 5) S.nd rfl (Or.inl rfl) pe_int)
  (pss_cons (ps_set (i := 6) S.nd rfl (Or.inl rfl) pe_int)
  (pss_cons (ps_while PassesOwn.never (PW.pt (pw_and (pt_cmpR op_lt (pv 5) (pe_callB call_len_seq (by rfl) T.len PySem.boot_len (pa_cons (pv 0) pa_nil)) (nomark _)) (pw_and1 (pt_cmpR op_lt (pv 6) (pv 3) (nomark _)))))
  (pss_cons (ps_set (i := 7) S.nd rfl (Or.inl rfl) (pe_ix ix_list (pv 0) (pv 5) (fun _ _ => rfl)))
  (pss_cons (ps_expr (pe_c C__act hr (by decide) rfl (pa_cons (pv 7) (pa_cons (pv 1) (pa_cons (pv 2) (pa_cons (pv 4) pa_nil))))))
  (pss_cons (ps_set (i := 5) S.nd rfl (Or.inl rfl) (pe_c C__next_place hr (by decide) rfl (pa_cons (pv 7) (pa_cons (pv 5) (pa_cons (pv 1) pa_nil)))))
  (pss_one (ps_aug (i := 6) S.nd rfl (Or.inl rfl) pe_int ip_add))))))
  (pss_cons (ps_if (pt_cmpR op_lt (pv 5) (pe_callB call_len_seq (by rfl) T.len PySem.boot_len (pa_cons (pv 0) pa_nil)) (nomark _)) (pss_one (ps_ret (pe_tup (pa_cons (pv 4) (pa_cons pe_str pa_nil))))) pss_nil)
  (pss_one (ps_ret (pe_tup (pa_cons (pv 4) (pa_cons pe_str pa_nil)))))))))), ?_⟩
    refine ⟨sz_ok rfl, fun tl nt => ?_⟩
    have t0 : Same H (upd H tl (.lst [])) := Same.new nt
    have gt : upd H tl (.lst []) tl = some (.lst (([] : List Int).map V.int)) := upd_same
    obtain ⟨hne, _, hlb, us0, hlt, _⟩ := id M
    have nl1 : tl ≠ lb := (ne_of_none hlb nt).symm
    have nl2 : tl ≠ lt := (ne_of_none hlt nt).symm
    have nl3 : pg ≠ tl := by
      obtain ⟨xs, h1, _⟩ := hP
      exact ne_of_none h1 nt
    refine ⟨fun m σ H' => ∃ (k : Nat) (z : Ms) (v7 : Option V), m = n - k ∧ k ≤ n ∧ σ = [some (.ref pg), some (.ref p), some (.int (bs.length : Nat)), some (.int (n : Nat)), some (.ref tl), some (.int z.place), some (.int (k : Nat)), v7] ∧
      runM rows (n - k) z = runM rows n ⟨0, bs, [], []⟩ ∧ 0 ≤ z.place ∧ z.place ≤ (rows.length : Nat) ∧ z.bs.length = bs.length ∧ z.ts.length ≤ 5 * k ∧ z.tv.length ≤ k ∧ Mem C H' p lb lt z.bs z.ts ∧ H' tl = some (.lst (z.tv.map V.int)) ∧ Prg K H' pg rows ∧ Fr H H' lb lt, ⟨n, 0, ⟨0, bs, [], []⟩, none, by omega, by omega, rfl, rfl, Int.le_refl _, Int.natCast_nonneg _, rfl, Nat.zero_le _, Nat.zero_le _, ?_, gt, ?_, ?_⟩, fun m σ H1 hW => ?_⟩
    · obtain ⟨hne, ⟨dx, h1⟩, h2, us, h3, h4, h5⟩ := M
      exact ⟨hne, ⟨dx, t0 _ _ h1⟩, t0 _ _ h2, us, t0 _ _ h3, h4, fun j t e => by simp at e⟩
    · obtain ⟨xs, h1, h2, h3⟩ := hP
      refine ⟨xs, t0 _ _ h1, h2, fun j r e => ?_⟩
      obtain ⟨a, e1, e2⟩ := h3 j r e
      exact ⟨a, e1, t0.sqt e2⟩
    · exact fun a o e _ _ => t0 _ _ e
    · obtain ⟨k, z, v7, rfl, hk, rfl, hrun, hz0, hz1, hbl, htl, htv, M1, gt1, hP1, fr1⟩ := hW
      obtain ⟨xs, hx1, hx2, hx3⟩ := id hP1
      have fin : runM rows n ⟨0, bs, [], []⟩ = z → ∀ e : Str, endOf rows z = e → ∀ q0, H1 q0 = none → Q (.ref q0) (upd H1 q0 (.tup [.ref tl, .str e])) := fun hf e he q0 nq => by
        have nq0 : H q0 = none := by
          cases e0 : H q0 with
          | none => rfl
          | some o =>
            by_cases a1 : q0 = lb
            · rw [a1, M1.2.2.1] at nq; cases nq
            · by_cases a2 : q0 = lt
              · obtain ⟨_, _, _, us, h3, _⟩ := M1
                rw [a2, h3] at nq; cases nq
              · rw [fr1 _ _ e0 a1 a2] at nq; cases nq
        have s1 : Same H1 (upd H1 q0 (.tup [.ref tl, .str e])) := Same.new nq
        refine q _ q0 tl (fun a o e a1 a2 => s1 _ _ (fr1 _ _ e a1 a2)) nt nq0 ?_ ?_ nl1 nl2 ?_
        · rw [hf]
          exact M1.keep gt1 nl1 nl2 fun a o e _ => s1 _ _ e
        · rw [hf]
          exact s1 _ _ gt1
        · rw [hf, he]
          exact upd_same
      refine ⟨_, rfl, _, rfl, pg, xs, rfl, .inl (SqL.of hx1), _, _, rfl, rfl, ?_⟩
      by_cases hp : z.place < (rows.length : Nat)
      case neg =>
        refine ⟨false, bl_of (decide_eq_false (by rw [hx2]; exact hp)), ?_⟩
        refine ⟨_, rfl, _, rfl, pg, xs, rfl, .inl (SqL.of hx1), _, _, rfl, rfl, false, bl_of (decide_eq_false (by rw [hx2]; exact hp)), ?_⟩
        exact ⟨_, rfl, sz_ok rfl, fun q0 nq => fin (hrun.symm.trans (runM_end hp _)) "over" (if_neg hp) q0 nq⟩
      refine ⟨true, bl_of (decide_eq_true (by rw [hx2]; exact hp)), ?_⟩
      by_cases hk2 : k < n
      case neg =>
        refine ⟨_, rfl, _, rfl, _, _, rfl, rfl, false, bl_of (decide_eq_false (by omega)), ?_⟩
        refine ⟨_, rfl, _, rfl, pg, xs, rfl, .inl (SqL.of hx1), _, _, rfl, rfl, true, bl_of (decide_eq_true (by rw [hx2]; exact hp)), ?_⟩
        exact ⟨_, rfl, sz_ok rfl, fun q0 nq => fin (hrun.symm.trans (by rw [show n - k = 0 by omega]; rfl)) "steps" (if_pos hp) q0 nq⟩
      refine ⟨_, rfl, _, rfl, _, _, rfl, rfl, true, bl_of (decide_eq_true (by omega)), ?_⟩
      refine ⟨_, fun _ _ h => h, ?_⟩
      have hj : z.place.toNat < rows.length := by omega
      obtain ⟨⟨wd, ns⟩, erow⟩ : ∃ r, rows[z.place.toNat]? = some r := ⟨_, List.getElem?_eq_getElem hj⟩
      obtain ⟨a, ea, hS⟩ := hx3 _ _ erow
      have hro := hR _ (List.mem_of_getElem? erow)
      have hl1 := touches_len wd ns z.bs
      have hl2 := nextT_len wd ns
      have hl3 := told_len wd ns z.bs
      obtain ⟨_, _, hlb1, us1, hlt1, _⟩ := id M1
      refine ⟨_, rfl, _, rfl, pg, xs, _, .ref a, rfl, rfl, SqL.of hx1, at_in hz0 ea, ?_⟩
      refine ⟨_, rfl, _, rfl, _, rfl, _, rfl, a, p, lb, lt, tl, wd, ns, z.bs, z.tv, z.ts, (rows.length : Nat), by rw [hbl]; rfl, hS, M1, gt1, nl1, nl2, by rw [hbl]; exact hro, by omega, by omega, fun H2 fr2 M2 gt2 => ?_⟩
      have hS2 := sqt_fr3 hS hlb1 hlt1 gt1 fr2
      have hP2 := hP1.fr np1 np2 nl3 hlb1 hlt1 gt1 fr2
      have hbl2 : (boxesOf wd ns z.bs).length = bs.length := (boxes_len _ _ _).trans hbl
      obtain ⟨_, _, hlb2, us2, hlt2, _⟩ := id M2
      refine ⟨_, rfl, _, rfl, _, rfl, a, p, lb, lt, wd, ns, boxesOf wd ns z.bs, z.ts ++ touchesOf wd ns z.bs, (rows.length : Nat), z.place, rfl, hS2, M2, by rw [hbl2]; exact hro, by rw [List.length_append]; omega, fun H3 fr3 M3 => ?_⟩
      have fr33 : Fr3 H2 H3 lb lt tl := fun a o e _ y _ => fr3 _ _ e y y
      have hP3 := hP2.fr np1 np2 nl3 hlb2 hlt2 gt2 fr33
      have gt3 := fr3 _ _ gt2 nl2 nl2
      refine ⟨_, rfl, _, _, rfl, rfl, ?_⟩
      have hst : stepM rows z = ⟨nextOf wd ns (boxesOf wd ns z.bs) z.place, boxesOf wd ns z.bs, z.ts ++ touchesOf wd ns z.bs ++ nextT wd ns, z.tv ++ toldOf wd ns z.bs⟩ := by
        unfold stepM
        rw [erow]
      have hni := next_in (bs := boxesOf wd ns z.bs) hro hz0 hp
      refine ⟨n - (k + 1), by omega, k + 1, ⟨nextOf wd ns (boxesOf wd ns z.bs) z.place, boxesOf wd ns z.bs, z.ts ++ touchesOf wd ns z.bs ++ nextT wd ns, z.tv ++ toldOf wd ns z.bs⟩, _, rfl, by omega, rfl, ?_, hni.1, hni.2, hbl2, ?_, ?_, M3, gt3, hP3, fun a o e x y => ?_⟩
      · rw [← hst, ← hrun, show n - k = (n - (k + 1)) + 1 by omega]
        exact (if_pos hp).symm
      · simp only [List.length_append]
        omega
      · simp only [List.length_append]
        omega
      · have e1 := fr1 _ _ e x y
        exact fr3 _ _ (fr2 _ _ e1 x y fun w => by rw [w, nt] at e; cases e) y y

def rowD (r : Rw) : PyData := .tuple (.str r.1 :: r.2.map .int)
theorem whole_yes {i lo hi : Int} (h0 : lo ≤ i) (h1 : i ≤ hi) : wholeIn (.int i) lo hi = true := by
  show (decide (lo ≤ i) && decide (i ≤ hi)) = true
  rw [decide_eq_true h0, decide_eq_true h1]
  rfl
theorem rowOk_fits {size count : Int} {wd : Str} {ns : List Int} (h : RowOk size count wd ns) : fitsD (rowD (wd, ns)) size count = true := by
  have go1 : ∀ (k1 : Str) (a : Int), 0 ≤ a → a ≤ lastOf size count k1 → fitK size count [k1] [.int a] = true := fun k1 a h0 h1 => by
    show (wholeIn (.int a) 0 (lastOf size count k1) && true) = true
    rw [whole_yes h0 h1]; rfl
  have go2 : ∀ (k1 k2 : Str) (a b : Int), 0 ≤ a → a ≤ lastOf size count k1 → 0 ≤ b → b ≤ lastOf size count k2 → fitK size count [k1, k2] [.int a, .int b] = true := fun k1 k2 a b h0 h1 h2 h3 => by
    show (wholeIn (.int a) 0 (lastOf size count k1) && (wholeIn (.int b) 0 (lastOf size count k2) && true)) = true
    rw [whole_yes h0 h1, whole_yes h2 h3]; rfl
  have go3 : ∀ (k1 k2 k3 : Str) (a b c : Int), 0 ≤ a → a ≤ lastOf size count k1 → 0 ≤ b → b ≤ lastOf size count k2 → 0 ≤ c → c ≤ lastOf size count k3 → fitK size count [k1, k2, k3] [.int a, .int b, .int c] = true := fun k1 k2 k3 a b c h0 h1 h2 h3 h4 h5 => by
    show (wholeIn (.int a) 0 (lastOf size count k1) && (wholeIn (.int b) 0 (lastOf size count k2) && (wholeIn (.int c) 0 (lastOf size count k3) && true))) = true
    rw [whole_yes h0 h1, whole_yes h2 h3, whole_yes h4 h5]; rfl
  have eb : lastOf size count "box" = size - 1 := rfl
  have en : lastOf size count "number" = 999999 := rfl
  have ep : lastOf size count "place" = count := rfl
  cases h with
  | set h0 h1 h2 h3 => exact (fitsD_yes (l := ["box", "number"]) (by rfl) rfl).trans (go2 _ _ _ _ h0 (by rw [eb]; omega) h2 (by rw [en]; omega))
  | copy h0 h1 h2 h3 => exact (fitsD_yes (l := ["box", "box"]) (by rfl) rfl).trans (go2 _ _ _ _ h0 (by rw [eb]; omega) h2 (by rw [eb]; omega))
  | add h0 h1 h2 h3 h4 h5 => exact (fitsD_yes (l := ["box", "box", "box"]) (by rfl) rfl).trans (go3 _ _ _ _ _ _ h0 (by rw [eb]; omega) h2 (by rw [eb]; omega) h4 (by rw [eb]; omega))
  | sub h0 h1 h2 h3 h4 h5 => exact (fitsD_yes (l := ["box", "box", "box"]) (by rfl) rfl).trans (go3 _ _ _ _ _ _ h0 (by rw [eb]; omega) h2 (by rw [eb]; omega) h4 (by rw [eb]; omega))
  | fetch h0 h1 h2 h3 => exact (fitsD_yes (l := ["box", "box"]) (by rfl) rfl).trans (go2 _ _ _ _ h0 (by rw [eb]; omega) h2 (by rw [eb]; omega))
  | store h0 h1 h2 h3 => exact (fitsD_yes (l := ["box", "box"]) (by rfl) rfl).trans (go2 _ _ _ _ h0 (by rw [eb]; omega) h2 (by rw [eb]; omega))
  | less h0 h1 h2 h3 h4 h5 => exact (fitsD_yes (l := ["box", "box", "place"]) (by rfl) rfl).trans (go3 _ _ _ _ _ _ h0 (by rw [eb]; omega) h2 (by rw [eb]; omega) h4 (by rw [ep]; omega))
  | jump h0 h1 => exact (fitsD_yes (l := ["place"]) (by rfl) rfl).trans (go1 _ _ h0 (by rw [ep]; omega))
  | tell h0 h1 => exact (fitsD_yes (l := ["box"]) (by rfl) rfl).trans (go1 _ _ h0 (by rw [eb]; omega))
def RowsAt (K : PySem.W.Frag) (H : Hp) (xs : List V) (rows : List Rw) : Prop := xs.length = rows.length ∧ ∀ (j : Nat) (r : Rw), rows[j]? = some r → ∃ a, xs[j]? = some (V.ref a) ∧ SqT K H a (.str r.1 :: r.2.map V.int)
theorem RowsAt.dp {H : Hp} {xs : List V} {rows : List Rw} (h : RowsAt K H xs rows) : DpAll K H xs (rows.map rowD) := by
  refine dpA_by (by rw [List.length_map]; exact h.1) fun j v e => ?_
  have hj : j < rows.length := by
    obtain ⟨hj, _⟩ := List.getElem?_eq_some_iff.mp e
    have := h.1
    omega
  obtain ⟨a, e1, e2⟩ := h.2 j _ (List.getElem?_eq_getElem hj)
  rw [e] at e1
  cases e1
  refine ⟨rowD rows[j], by rw [List.getElem?_map, List.getElem?_eq_getElem hj]; rfl, .tup e2 ?_⟩
  refine .cons (.str _) ?_
  have := dpAll_flat2 (K := K) (H := H) (xs := rows[j].2.map V.int) (by rw [List.all_map]; exact List.all_eq_true.mpr fun _ _ => rfl)
  rw [List.map_map] at this
  exact this
theorem rows_good {rows : List Rw} {size : Int} (h : ∀ r ∈ rows, RowOk size (rows.length : Nat) r.1 r.2) (hl : rows.length ≤ 200) : goodR (rows.map rowD) size = true := by
  unfold goodR
  rw [List.length_map, decide_eq_true hl, Bool.true_and, List.all_map]
  exact List.all_eq_true.mpr fun r hr => rowOk_fits (h r hr)
theorem boxes_good {bs : List Int} (h : ∀ b ∈ bs, 0 ≤ b ∧ b < 1000000) (h1 : 1 ≤ bs.length) (h2 : bs.length ≤ 200) : goodB ((bs.map V.int).map dOf) = true := by
  unfold goodB
  rw [List.length_map, List.length_map, decide_eq_true h1, decide_eq_true h2, Bool.true_and, Bool.true_and, List.map_map, List.all_map]
  exact List.all_eq_true.mpr fun b hb => whole_yes (h b hb).1 (by have := (h b hb).2; omega)
/-- the touches that stand at lt -/
def TchAt (H : Hp) (lt : Addr) (ts : List (Str × Int)) : Prop := ∃ us : List V, H lt = some (.lst us) ∧ us.length = ts.length ∧ ∀ (j : Nat) (t : Str × Int), ts[j]? = some t → ∃ q, us[j]? = some (V.ref q) ∧ H q = some (.tup (tchV t))
def spRun (K : PySem.W.Frag) : Sp := fun vs H Q _ => ∃ (rw_ gb : Addr) (xs : List V) (rows : List Rw) (bs : List Int) (n : Nat), vs = [.ref rw_, .ref gb, .int (n : Nat)] ∧ SqL K H rw_ xs ∧ RowsAt K H xs rows ∧ SqL K H gb (bs.map V.int) ∧ (∀ r ∈ rows, RowOk (bs.length : Nat) (rows.length : Nat) r.1 r.2) ∧ rows.length ≤ 200 ∧
  (∀ b ∈ bs, 0 ≤ b ∧ b < 1000000) ∧ 1 ≤ bs.length ∧ bs.length ≤ 200 ∧ n ≤ 1000 ∧
  ∀ H' q tl lb lt, Same H H' → H tl = none → H lb = none → H lt = none → H' tl = some (.lst ((runM rows n ⟨0, bs, [], []⟩).tv.map V.int)) → H' lb = some (.lst ((runM rows n ⟨0, bs, [], []⟩).bs.map V.int)) → TchAt H' lt (runM rows n ⟨0, bs, [], []⟩).ts →
    H' q = some (.tup [.ref tl, .str (endOf rows (runM rows n ⟨0, bs, [], []⟩)), .ref lb, .ref lt]) → Q (.ref q) H'
abbrev s_run : Stmt := top 18
abbrev N_run : List Str := ["rows", "boxes", "steps", "numbers", "program", "watched", "told", "end"]
theorem S_run : FnScope N_run ["rows", "boxes", "steps"] (defScope s_run) := ⟨rfl, rfl, rfl, by decide +kernel, rfl, by decide +kernel, by decide +kernel⟩

theorem c_run {C C0 C1 : Addr} (T : Txt K w mg) (W : WCls K C) (D : DefAt K "run" s_run) (C_checked_boxes : Cal P w K mg base (L2.CX P w) 3 "checked_boxes" (spCheckedB K C1)) (C_checked : Cal P w K mg base (L2.CX P w) 4 "checked" (spChecked K C0)) (M_Watched : C8.Mak P w K mg base 1 "Watched" C (spInit C) []) (C_walk : Cal P w K mg base CX0 3 "walk" (spWalk K C)) : Cal P w K mg base CX0 5 "run" (spRun K) := by
  have S := S_run
  refine cal_of T.toTop D S (fun _ _ _ _ _ _ us hl => match us, hl with | [_, _, _], _ => rfl) (fun vs H Q E h => ?_) (fun f cdv A outer s H vs Q E hr h => ?_)
  · obtain ⟨rw_, gb, xs, rows, bs, n, rfl, _⟩ := h
    rfl
  · obtain ⟨rw_, gb, xs, rows, bs, n, rfl, hX, hRA, hB, hRO, hr2, hbb, hb1, hb2, hn, q⟩ := h
    refine ⟨_, (pss_cons (ps_set (i := 3) S.nd rfl (Or.inl rfl) (pe_c0 C_checked_boxes hr (by decide) rfl (pa_cons (pv 1) pa_nil)))
  (pss_cons (ps_set (i := 4) S.nd rfl (Or.inl rfl) (pe_c0 C_checked hr (by decide) rfl (pa_cons (pv 0) (pa_cons (pe_callB call_len_seq (by rfl) T.len PySem.boot_len (pa_cons (pv 3) pa_nil)) pa_nil))))
  (pss_cons (ps_set (i := 5) S.nd rfl (Or.inl rfl) (C8.pe_mk M_Watched hr (by decide) rfl (pa_cons (pv 3) pa_nil)))
  (pss_cons (ps_asg (g := gTup K 2 (gCons (gName 6) (gCons (gName 7) gNil))) (pe_c C_walk hr (by decide) rfl (pa_cons (pv 4) (pa_cons (pv 5) (pa_cons (pe_callB call_len_seq (by rfl) T.len PySem.boot_len (pa_cons (pv 3) pa_nil)) (pa_cons (pv 2) pa_nil))))) (by exact (pg_tup rfl (pgs_cons (pg_name (i := 6) S.nd rfl (Or.inl rfl)) (pgs_cons (pg_name (i := 7) S.nd rfl (Or.inl rfl)) pgs_nil)))))
  (pss_one (ps_ret (pe_tup (pa_cons (pv 6) (pa_cons (pv 7) (pa_cons (pe_fld (pv 5) rfl) (pa_cons (pe_fld (pv 5) rfl) pa_nil))))))))))), ?_⟩
    have hfl : (bs.map V.int).all flatV = true := by
      rw [List.all_map]
      exact List.all_eq_true.mpr fun _ _ => rfl
    refine ⟨_, rfl, gb, _, _, rfl, hB, dpAll_flat2 hfl, by rw [List.length_map]; omega, fun _ H1 lb t1 nlb glb => ?_, fun z => by rw [boxes_good hbb hb1 hb2] at z; cases z⟩
    have hRA1 : RowsAt K H1 xs rows := ⟨hRA.1, fun j r e => by
      obtain ⟨a, e1, e2⟩ := hRA.2 j r e
      exact ⟨a, e1, t1.sqt e2⟩⟩
    have hsz : (((bs.map V.int).length : Nat) : Int) = (bs.length : Nat) := by rw [List.length_map]
    refine ⟨_, rfl, _, rfl, lb, _, rfl, .inl (SqL.of glb), rw_, xs, rows.map rowD, _, rfl, t1.seq hX, hRA1.dp, by rw [hRA.1]; omega, fun _ H2 pg t2 npg gpg => ?_, fun z => by rw [hsz, rows_good hRO hr2] at z; cases z⟩
    have glb2 := t2 _ _ glb
    have hP2 : Prg K H2 pg rows := ⟨xs, gpg, hRA.1, fun j r e => by
      obtain ⟨a, e1, e2⟩ := hRA1.2 j r e
      exact ⟨a, e1, t2.sqt e2⟩⟩
    refine ⟨_, rfl, fun x dx nx ndx nex => ?_⟩
    have s0 : Same H2 (upd (upd H2 dx (.own x)) x (.ins C dx [])) := fun b o e => by
      rw [upd_ne (ne_of_none e nx), upd_ne (ne_of_none e ndx)]
      exact e
    refine ⟨H2, x, dx, lb, bs, rfl, s0, nx, upd_same, glb2, fun H3 lt t3 nlt M3 => ⟨rfl, ?_⟩⟩
    have hP3 : Prg K H3 pg rows := by
      obtain ⟨xs, h1, h2, h3⟩ := hP2
      refine ⟨xs, t3 _ _ h1, h2, fun j r e => ?_⟩
      obtain ⟨a, e1, e2⟩ := h3 j r e
      exact ⟨a, e1, t3.sqt e2⟩
    have n1 : pg ≠ lb := (ne_of_none glb npg).symm
    have n2 : pg ≠ lt := ne_of_none gpg nlt
    refine ⟨_, rfl, _, rfl, _, rfl, lb, _, rfl, .inl (SqL.of (t3 _ _ glb2)), _, rfl, pg, x, lb, lt, rows, bs, n, by rw [hsz]; rfl, hP3, hRO, M3, n1, n2, hn, fun H4 qq tl fr4 ntl nqq M4 gtl n3 n4 gq => ?_⟩
    refine ⟨qq, _, rfl, SqT.of gq, rfl, _, _, rfl, _, _, rfl, rfl, ?_⟩
    obtain ⟨hne, ⟨dx4, g4⟩, glb4, us, glt4, hul, htc⟩ := id M4
    refine ⟨_, rfl, _, rfl, _, rfl, x, C, dx4, _, _, rfl, g4, W.cl, W.nB, wf_b _ _, _, rfl, x, C, dx4, _, _, rfl, g4, W.cl, W.nT, wf_t _ _, sz_ok rfl, fun r nr => ?_⟩
    have s4 : Same H4 (upd H4 r (.tup [.ref tl, .str (endOf rows (runM rows n ⟨0, bs, [], []⟩)), .ref lb, .ref lt])) := Same.new nr
    have t13 := (t1.trans t2).trans t3
    have nlt0 : H lt = none := (t1.trans t2).free nlt
    refine q _ r tl lb lt (fun a o e => s4 _ _ (fr4 _ _ (t13 _ _ e) (fun z => by rw [z, nlb] at e; cases e) (fun z => by rw [z, nlt0] at e; cases e))) (t13.free ntl) nlb nlt0 (s4 _ _ gtl) (s4 _ _ glb4) ⟨us, s4 _ _ glt4, hul, fun j t e => ?_⟩ upd_same
    obtain ⟨q', e1, e2⟩ := htc j t e
    exact ⟨q', e1, s4 _ _ e2⟩

def spWholes (K : PySem.W.Frag) : Sp := fun vs H Q _ => ∃ (a b : Addr) (ns : List Int), vs = [.ref a, .ref b] ∧ SqL K H a (ns.map V.int) ∧ SqL K H b (ns.map V.int) ∧ ns.length ≤ 1000 ∧ Q (.bl true) H
abbrev s__law_wholes : Stmt := top 25
abbrev N__law_wholes : List Str := ["_law_found", "_law_due", "_law_k"]
theorem S__law_wholes : FnScope N__law_wholes ["_law_found", "_law_due"] (defScope s__law_wholes) := ⟨rfl, rfl, rfl, by decide +kernel, rfl, by decide +kernel, by decide +kernel⟩

theorem c_wholes (T : Txt K w mg) (D : DefAt K "_law_wholes" s__law_wholes) (C__law_whole : Cal P w K mg base CX0 1 "_law_whole" (spWhole K)) : Cal P w K mg base CX0 2 "_law_wholes" (spWholes K) := by
  have S := S__law_wholes
  refine cal_of T.toTop D S (fun _ _ _ _ _ _ us hl => match us, hl with | [_, _], _ => rfl) (fun vs H Q E h => ?_) (fun f cdv A outer s H vs Q E hr h => ?_)
  · obtain ⟨a, b, ns, rfl, _⟩ := h
    rfl
  · obtain ⟨a, b, ns, rfl, ha, hb, hl, q⟩ := h
    refine ⟨_, (pss_cons (ps_if (PW.pt (pw_or (pt_not (pt_val (pe_callB call_isi (by rfl) T.isinstance (by decide +kernel) (pa_cons (pv 0) (pa_cons ((pe_bltn (v := .ty "list") (u := .type "list") rfl T.list (by decide +kernel) rfl)) pa_nil))))) (pw_or1 (pt_cmpR op_ne (pe_callB call_len_seq (by rfl) T.len PySem.boot_len (pa_cons (pv 0) pa_nil)) (pe_callB call_len_seq (by rfl) T.len PySem.boot_len (pa_cons (pv 1) pa_nil)) (nomark _))))) (pss_one (ps_ret pe_bl)) pss_nil)
  (pss_cons (ps_for PassesOwn.never rfl (pi_range1 rfl T.range (pa_cons (pe_callB call_len_seq (by rfl) T.len PySem.boot_len (pa_cons (pv 1) pa_nil)) pa_nil)) (pg_name (i := 2) S.nd rfl (Or.inl rfl))
  (pss_one (ps_if (PW.pt (pw_or (pt_not (pt_val (pe_c C__law_whole hr (by decide) rfl (pa_cons (pe_ix ix_list (pv 0) (pv 2) (fun _ _ => rfl)) pa_nil)))) (pw_or1 (pt_cmpR op_ne (pe_ix ix_list (pv 0) (pv 2) (fun _ _ => rfl)) (pe_ix ix_list (pv 1) (pv 2) (fun _ _ => rfl)) (nomark _))))) (pss_one (ps_ret pe_bl)) pss_nil)))
  (pss_one (ps_ret pe_bl)))), ?_⟩
    refine ⟨_, rfl, _, _, _, _, _, rfl, .ty _, ty_l ha, kit_ty (r := true) (by decide +kernel), _, rfl, ?_⟩
    refine ⟨_, rfl, a, _, rfl, .inl ha, _, rfl, b, _, rfl, .inl hb, rfl, false, bl_of (by simp), ?_⟩
    refine ⟨_, rfl, b, _, rfl, .inl hb, _, rfl, by omega, by rw [List.length_map]; omega, for_range (n := (ns.map V.int).length) (fun k σ H' => H' = H ∧ ∃ v, σ = [some (.ref a), some (.ref b), v]) ⟨rfl, none, rfl⟩ (fun k σ H' hk ⟨eH, v, eσ⟩ => ?_) (fun σ H' ⟨eH, v, eσ⟩ => ?_)⟩
    · subst eH eσ
      rw [List.length_map] at hk
      have hat : atI (ns.map V.int) (0 + (k : Int)) = some (.int ns[k]) := by
        refine at_in (by omega) ?_
        rw [show (0 + (k : Int)).toNat = k by omega, List.getElem?_map, List.getElem?_eq_getElem hk]
        rfl
      refine ⟨_, rfl, _, rfl, a, _, _, _, rfl, rfl, ha, hat, _, "int", rfl, .base (.int _), by decide +kernel, by decide +kernel, _, rfl, ?_⟩
      refine ⟨_, rfl, _, rfl, a, _, _, _, rfl, rfl, ha, hat, _, rfl, _, rfl, b, _, _, _, rfl, rfl, hb, hat, rfl, false, bl_of (by rw [decide_eq_true rfl]; rfl), ?_⟩
      exact ⟨rfl, _, rfl⟩
    · subst eH eσ
      exact q

def words10 : List Str := ["set", "copy", "add", "sub", "fetch", "store", "less", "jump", "tell", "tell"]
def spRowBy : Sp := fun vs H Q _ => ∃ c size count : Int, vs = [.int c, .int size, .int count] ∧ 1 ≤ size ∧ size ≤ 200 ∧ 0 ≤ count ∧ count ≤ 200 ∧ ∀ wd ns H' p, RowOk size count wd ns → Same H H' → H p = none → H' p = some (.tup (.str wd :: ns.map V.int)) → Q (.ref p) H'
abbrev s__law_row_by : Stmt := top 29
abbrev N__law_row_by : List Str := ["_law_cell", "_law_size", "_law_count", "_law_rest", "_law_word", "_law_one", "_law_two", "_law_three", "_law_place"]
theorem S__law_row_by : FnScope N__law_row_by ["_law_cell", "_law_size", "_law_count"] (defScope s__law_row_by) := ⟨rfl, rfl, rfl, by decide +kernel, rfl, by decide +kernel, by decide +kernel⟩

theorem c_row_by (T : Txt K w mg) (D : DefAt K "_law_row_by" s__law_row_by) (C__law_mixed : Cal P w K mg base CX0 1 "_law_mixed" spMixed) (C__law_number_by : Cal P w K mg base CX0 2 "_law_number_by" spNumberBy) : Cal P w K mg base CX0 3 "_law_row_by" spRowBy := by
  have S := S__law_row_by
  refine cal_of T.toTop D S (fun _ _ _ _ _ _ us hl => match us, hl with | [_, _, _], _ => rfl) (fun vs H Q E h => ?_) (fun f cdv A outer s H vs Q E hr h => ?_)
  · obtain ⟨c, size, count, rfl, _⟩ := h
    rfl
  · obtain ⟨c, size, count, rfl, hs1, hs2, hc0, hc1, q⟩ := h
    refine ⟨_, (pss_cons (ps_set (i := 3) S.nd rfl (Or.inl rfl) (pe_c C__law_mixed hr (by decide) rfl (pa_cons (pv 0) pa_nil)))
  (pss_cons (ps_set (i := 4) S.nd rfl (Or.inl rfl) (pe_ix ix_list (pe_lst (pa_cons pe_str (pa_cons pe_str (pa_cons pe_str (pa_cons pe_str (pa_cons pe_str (pa_cons pe_str (pa_cons pe_str (pa_cons pe_str (pa_cons pe_str (pa_cons pe_str pa_nil))))))))))) (pe_op op_mod (pv 0) pe_int) (fun _ _ => rfl)))
  (pss_cons (ps_set (i := 5) S.nd rfl (Or.inl rfl) (pe_op op_mod (pv 3) (pv 1)))
  (pss_cons (ps_set (i := 6) S.nd rfl (Or.inl rfl) (pe_op op_mod (pe_op op_fdiv (pv 3) (pv 1)) (pv 1)))
  (pss_cons (ps_set (i := 7) S.nd rfl (Or.inl rfl) (pe_op op_mod (pe_op op_fdiv (pv 3) (pe_op op_mul (pv 1) (pv 1))) (pv 1)))
  (pss_cons (ps_set (i := 8) S.nd rfl (Or.inl rfl) (pe_op op_mod (pe_op op_fdiv (pv 3) pe_int) (pe_op op_add (pv 2) pe_int)))
  (pss_cons (ps_if (pt_cmpR op_eq (pv 4) pe_str (nomark _)) (pss_one (ps_ret (pe_tup (pa_cons (pv 4) (pa_cons (pv 5) (pa_cons (pe_c C__law_number_by hr (by decide) rfl (pa_cons (pe_op op_fdiv (pv 3) pe_int) pa_nil)) pa_nil)))))) pss_nil)
  (pss_cons (ps_if (pt_cmpR op_in_seq (pv 4) (pe_tup (pa_cons pe_str (pa_cons pe_str (pa_cons pe_str pa_nil)))) (by with_unfolding_all rfl)) (pss_one (ps_ret (pe_tup (pa_cons (pv 4) (pa_cons (pv 5) (pa_cons (pv 6) pa_nil)))))) pss_nil)
  (pss_cons (ps_if (pt_cmpR op_in_seq (pv 4) (pe_tup (pa_cons pe_str (pa_cons pe_str pa_nil))) (by with_unfolding_all rfl)) (pss_one (ps_ret (pe_tup (pa_cons (pv 4) (pa_cons (pv 5) (pa_cons (pv 6) (pa_cons (pv 7) pa_nil))))))) pss_nil)
  (pss_cons (ps_if (pt_cmpR op_eq (pv 4) pe_str (nomark _)) (pss_one (ps_ret (pe_tup (pa_cons (pv 4) (pa_cons (pv 5) (pa_cons (pv 6) (pa_cons (pv 8) pa_nil))))))) pss_nil)
  (pss_cons (ps_if (pt_cmpR op_eq (pv 4) pe_str (nomark _)) (pss_one (ps_ret (pe_tup (pa_cons (pv 4) (pa_cons (pv 8) pa_nil))))) pss_nil)
  (pss_one (ps_ret (pe_tup (pa_cons (pv 4) (pa_cons (pv 5) pa_nil)))))))))))))))), ?_⟩
    refine ⟨_, rfl, _, rfl, ?_⟩
    generalize mixed c = r
    refine ⟨sz_ok rfl, fun p1 n1 => ?_⟩
    generalize e1 : upd H p1 _ = H1
    have h1 : H1 p1 = some (.lst (words10.map V.str)) := e1 ▸ upd_same
    have s1 : Same H H1 := e1 ▸ Same.new n1
    refine ⟨_, rfl, _, _, rfl, rfl, (by show (0 : Int) < 10; decide), p1, _, _, _, rfl, rfl, SqL.of h1, at_strs_mod (ns := words10) c (by decide) rfl, ?_⟩
    have hp : (0 : Int) < size := by omega
    have hq : (0 : Int) < count + 1 := by omega
    have hss : 0 < size * size ∧ size * size < 1073741824 := by
      have h3 : size * size ≤ 200 * 200 := Int.mul_le_mul hs2 hs2 (by omega) (by omega)
      have h4 : 0 < size * size := Int.mul_pos hp hp
      omega
    have hcd : CDiv r size := ⟨hp, by omega⟩
    have hcd2 : CDiv r (size * size) := hss
    have hcm : CMul size size := .inl ⟨by omega, by omega⟩
    have a0 := mod_nn r hp
    have a1 := mod_lt r hp
    have b0 := mod_nn (r / size) hp
    have b1 := mod_lt (r / size) hp
    have c0 := mod_nn (r / (size * size)) hp
    have c1 := mod_lt (r / (size * size)) hp
    have d0 := mod_nn (r / 7) hq
    have d1 : r / 7 % (count + 1) ≤ count := by have := mod_lt (r / 7) hq; omega
    refine ⟨_, rfl, _, rfl, _, _, rfl, rfl, hp, ?_⟩
    refine ⟨_, rfl, _, rfl, _, _, rfl, rfl, hcd, _, rfl, _, _, rfl, rfl, hp, ?_⟩
    refine ⟨_, rfl, _, rfl, _, rfl, _, _, rfl, rfl, hcm, _, _, rfl, rfl, hcd2, _, rfl, _, _, rfl, rfl, hp, ?_⟩
    refine ⟨_, rfl, _, _, rfl, rfl, ⟨by decide, by decide⟩, _, rfl, _, _, rfl, rfl, _, _, rfl, rfl, hq, ?_⟩
    have hi : (c % 10).toNat = 0 ∨ (c % 10).toNat = 1 ∨ (c % 10).toNat = 2 ∨ (c % 10).toNat = 3 ∨ (c % 10).toNat = 4 ∨ (c % 10).toNat = 5 ∨ (c % 10).toNat = 6 ∨ (c % 10).toNat = 7 ∨ (c % 10).toNat = 8 ∨ (c % 10).toNat = 9 := by omega
    rcases hi with e | e | e | e | e | e | e | e | e | e <;> rw [e]
    · refine ⟨_, rfl, rfl, true, bl_of (by decide +kernel), ?_⟩
      refine ⟨_, rfl, _, rfl, _, rfl, _, _, rfl, rfl, ⟨by decide, by decide⟩, _, rfl, fun H2 s2 => ⟨sz_ok rfl, fun p np => ?_⟩⟩
      exact q "set" [_, _] _ p (.set a0 a1 (numberBy_lo _) (numberBy_hi _)) ((s1.trans s2).more np) ((s1.trans s2).free np) upd_same
    · refine ⟨_, rfl, rfl, false, bl_of (by decide +kernel), ?_⟩
      refine ⟨_, rfl, sz_ok rfl, fun p2 n2 => ⟨p2, _, rfl, .inr (SqT.of upd_same), rfl, rfl, true, bl_of (by decide +kernel), ?_⟩⟩
      have s2 := s1.more (o := .tup [.str "copy", .str "fetch", .str "store"]) n2
      exact ⟨_, rfl, _, rfl, _, rfl, sz_ok rfl, fun p np => q "copy" [_, _] _ p (.copy a0 a1 b0 b1) (s2.more np) (s2.free np) upd_same⟩
    · refine ⟨_, rfl, rfl, false, bl_of (by decide +kernel), ?_⟩
      refine ⟨_, rfl, sz_ok rfl, fun p2 n2 => ⟨p2, _, rfl, .inr (SqT.of upd_same), rfl, rfl, false, bl_of (by decide +kernel), ?_⟩⟩
      have s2 := s1.more (o := .tup [.str "copy", .str "fetch", .str "store"]) n2
      refine ⟨_, rfl, sz_ok rfl, fun p3 n3 => ⟨p3, _, rfl, .inr (SqT.of upd_same), rfl, rfl, true, bl_of (by decide +kernel), ?_⟩⟩
      have s3 := s2.more (o := .tup [.str "add", .str "sub"]) n3
      exact ⟨_, rfl, _, rfl, _, rfl, _, rfl, sz_ok rfl, fun p np => q "add" [_, _, _] _ p (.add a0 a1 b0 b1 c0 c1) (s3.more np) (s3.free np) upd_same⟩
    · refine ⟨_, rfl, rfl, false, bl_of (by decide +kernel), ?_⟩
      refine ⟨_, rfl, sz_ok rfl, fun p2 n2 => ⟨p2, _, rfl, .inr (SqT.of upd_same), rfl, rfl, false, bl_of (by decide +kernel), ?_⟩⟩
      have s2 := s1.more (o := .tup [.str "copy", .str "fetch", .str "store"]) n2
      refine ⟨_, rfl, sz_ok rfl, fun p3 n3 => ⟨p3, _, rfl, .inr (SqT.of upd_same), rfl, rfl, true, bl_of (by decide +kernel), ?_⟩⟩
      have s3 := s2.more (o := .tup [.str "add", .str "sub"]) n3
      exact ⟨_, rfl, _, rfl, _, rfl, _, rfl, sz_ok rfl, fun p np => q "sub" [_, _, _] _ p (.sub a0 a1 b0 b1 c0 c1) (s3.more np) (s3.free np) upd_same⟩
    · refine ⟨_, rfl, rfl, false, bl_of (by decide +kernel), ?_⟩
      refine ⟨_, rfl, sz_ok rfl, fun p2 n2 => ⟨p2, _, rfl, .inr (SqT.of upd_same), rfl, rfl, true, bl_of (by decide +kernel), ?_⟩⟩
      have s2 := s1.more (o := .tup [.str "copy", .str "fetch", .str "store"]) n2
      exact ⟨_, rfl, _, rfl, _, rfl, sz_ok rfl, fun p np => q "fetch" [_, _] _ p (.fetch a0 a1 b0 b1) (s2.more np) (s2.free np) upd_same⟩
    · refine ⟨_, rfl, rfl, false, bl_of (by decide +kernel), ?_⟩
      refine ⟨_, rfl, sz_ok rfl, fun p2 n2 => ⟨p2, _, rfl, .inr (SqT.of upd_same), rfl, rfl, true, bl_of (by decide +kernel), ?_⟩⟩
      have s2 := s1.more (o := .tup [.str "copy", .str "fetch", .str "store"]) n2
      exact ⟨_, rfl, _, rfl, _, rfl, sz_ok rfl, fun p np => q "store" [_, _] _ p (.store a0 a1 b0 b1) (s2.more np) (s2.free np) upd_same⟩
    · refine ⟨_, rfl, rfl, false, bl_of (by decide +kernel), ?_⟩
      refine ⟨_, rfl, sz_ok rfl, fun p2 n2 => ⟨p2, _, rfl, .inr (SqT.of upd_same), rfl, rfl, false, bl_of (by decide +kernel), ?_⟩⟩
      have s2 := s1.more (o := .tup [.str "copy", .str "fetch", .str "store"]) n2
      refine ⟨_, rfl, sz_ok rfl, fun p3 n3 => ⟨p3, _, rfl, .inr (SqT.of upd_same), rfl, rfl, false, bl_of (by decide +kernel), ?_⟩⟩
      have s3 := s2.more (o := .tup [.str "add", .str "sub"]) n3
      refine ⟨_, rfl, rfl, true, bl_of (by decide +kernel), ?_⟩
      exact ⟨_, rfl, _, rfl, _, rfl, _, rfl, sz_ok rfl, fun p np => q "less" [_, _, _] _ p (.less a0 a1 b0 b1 d0 d1) (s3.more np) (s3.free np) upd_same⟩
    · refine ⟨_, rfl, rfl, false, bl_of (by decide +kernel), ?_⟩
      refine ⟨_, rfl, sz_ok rfl, fun p2 n2 => ⟨p2, _, rfl, .inr (SqT.of upd_same), rfl, rfl, false, bl_of (by decide +kernel), ?_⟩⟩
      have s2 := s1.more (o := .tup [.str "copy", .str "fetch", .str "store"]) n2
      refine ⟨_, rfl, sz_ok rfl, fun p3 n3 => ⟨p3, _, rfl, .inr (SqT.of upd_same), rfl, rfl, false, bl_of (by decide +kernel), ?_⟩⟩
      have s3 := s2.more (o := .tup [.str "add", .str "sub"]) n3
      refine ⟨_, rfl, rfl, false, bl_of (by decide +kernel), ?_⟩
      refine ⟨_, rfl, rfl, true, bl_of (by decide +kernel), ?_⟩
      exact ⟨_, rfl, _, rfl, sz_ok rfl, fun p np => q "jump" [_] _ p (.jump d0 d1) (s3.more np) (s3.free np) upd_same⟩
    · refine ⟨_, rfl, rfl, false, bl_of (by decide +kernel), ?_⟩
      refine ⟨_, rfl, sz_ok rfl, fun p2 n2 => ⟨p2, _, rfl, .inr (SqT.of upd_same), rfl, rfl, false, bl_of (by decide +kernel), ?_⟩⟩
      have s2 := s1.more (o := .tup [.str "copy", .str "fetch", .str "store"]) n2
      refine ⟨_, rfl, sz_ok rfl, fun p3 n3 => ⟨p3, _, rfl, .inr (SqT.of upd_same), rfl, rfl, false, bl_of (by decide +kernel), ?_⟩⟩
      have s3 := s2.more (o := .tup [.str "add", .str "sub"]) n3
      refine ⟨_, rfl, rfl, false, bl_of (by decide +kernel), ?_⟩
      refine ⟨_, rfl, rfl, false, bl_of (by decide +kernel), ?_⟩
      exact ⟨_, rfl, _, rfl, sz_ok rfl, fun p np => q "tell" [_] _ p (.tell a0 a1) (s3.more np) (s3.free np) upd_same⟩
    · refine ⟨_, rfl, rfl, false, bl_of (by decide +kernel), ?_⟩
      refine ⟨_, rfl, sz_ok rfl, fun p2 n2 => ⟨p2, _, rfl, .inr (SqT.of upd_same), rfl, rfl, false, bl_of (by decide +kernel), ?_⟩⟩
      have s2 := s1.more (o := .tup [.str "copy", .str "fetch", .str "store"]) n2
      refine ⟨_, rfl, sz_ok rfl, fun p3 n3 => ⟨p3, _, rfl, .inr (SqT.of upd_same), rfl, rfl, false, bl_of (by decide +kernel), ?_⟩⟩
      have s3 := s2.more (o := .tup [.str "add", .str "sub"]) n3
      refine ⟨_, rfl, rfl, false, bl_of (by decide +kernel), ?_⟩
      refine ⟨_, rfl, rfl, false, bl_of (by decide +kernel), ?_⟩
      exact ⟨_, rfl, _, rfl, sz_ok rfl, fun p np => q "tell" [_] _ p (.tell a0 a1) (s3.more np) (s3.free np) upd_same⟩

def readsOf (wd : Str) (ns bs : List Int) : List Int :=
  let a := ns.getD 0 0
  let b := ns.getD 1 0
  let c := ns.getD 2 0
  if wd = "add" ∨ wd = "sub" then [b, c] else if wd = "copy" then [b] else if wd = "fetch" then [b, at0 bs b % (bs.length : Nat)] else if wd = "store" ∨ wd = "less" then [a, b] else if wd = "tell" then [a] else []
def writesOf (wd : Str) (ns bs : List Int) : List (Int × Int) :=
  let a := ns.getD 0 0
  let b := ns.getD 1 0
  let c := ns.getD 2 0
  if wd = "set" then [(a, b)] else if wd = "copy" then [(a, at0 bs b)] else if wd = "add" then [(a, (at0 bs b + at0 bs c) % 1000000)] else if wd = "sub" then [(a, (at0 bs b - at0 bs c) % 1000000)]
  else if wd = "fetch" then [(a, at0 bs (at0 bs b % (bs.length : Nat)))] else if wd = "store" then [(at0 bs a % (bs.length : Nat), at0 bs b)] else []
theorem at0_at {bs : List Int} {i : Int} (h0 : 0 ≤ i) (h1 : i < (bs.length : Nat)) : atI (bs.map V.int) i = some (.int (at0 bs i)) :=
  at_in h0 (by rw [List.getElem?_map, at0_get h0 h1]; rfl)
def spReads (K : PySem.W.Frag) : Sp := fun vs H Q _ => ∃ (r hd : Addr) (wd : Str) (ns bs : List Int) (count : Int), vs = [.ref r, .ref hd] ∧ SqT K H r (.str wd :: ns.map V.int) ∧ SqL K H hd (bs.map V.int) ∧ RowOk (bs.length : Nat) count wd ns ∧
  ∀ H' p, Same H H' → H p = none → H' p = some (.lst ((readsOf wd ns bs).map V.int)) → Q (.ref p) H'
abbrev s__law_reads : Stmt := top 30
abbrev N__law_reads : List Str := ["_law_row", "_law_held"]
theorem S__law_reads : FnScope N__law_reads ["_law_row", "_law_held"] (defScope s__law_reads) := ⟨rfl, rfl, rfl, by decide +kernel, rfl, by decide +kernel, by decide +kernel⟩

theorem c_reads (T : Txt K w mg) (D : DefAt K "_law_reads" s__law_reads) : Cal P w K mg base CX0 1 "_law_reads" (spReads K) := by
  have S := S__law_reads
  refine cal_of T.toTop D S (fun _ _ _ _ _ _ us hl => match us, hl with | [_, _], _ => rfl) (fun vs H Q E h => ?_) (fun f cdv A outer s H vs Q E hr h => ?_)
  · obtain ⟨r, hd, wd, ns, bs, count, rfl, _⟩ := h
    rfl
  · obtain ⟨r, hd, wd, ns, bs, count, rfl, hS, hL, hro, q⟩ := h
    refine ⟨_, (pss_cons (ps_if (pt_cmpR op_in_seq (pe_ix ix_tup (pv 0) pe_int (fun _ _ => rfl)) (pe_tup (pa_cons pe_str (pa_cons pe_str pa_nil))) (by with_unfolding_all rfl)) (pss_one (ps_ret (pe_lst (pa_cons (pe_ix ix_tup (pv 0) pe_int (fun _ _ => rfl)) (pa_cons (pe_ix ix_tup (pv 0) pe_int (fun _ _ => rfl)) pa_nil))))) pss_nil)
  (pss_cons (ps_if (pt_cmpR op_eq (pe_ix ix_tup (pv 0) pe_int (fun _ _ => rfl)) pe_str (nomark _)) (pss_one (ps_ret (pe_lst (pa_cons (pe_ix ix_tup (pv 0) pe_int (fun _ _ => rfl)) pa_nil)))) pss_nil)
  (pss_cons (ps_if (pt_cmpR op_eq (pe_ix ix_tup (pv 0) pe_int (fun _ _ => rfl)) pe_str (nomark _)) (pss_one (ps_ret (pe_lst (pa_cons (pe_ix ix_tup (pv 0) pe_int (fun _ _ => rfl)) (pa_cons (pe_op op_mod (pe_ix ix_list (pv 1) (pe_ix ix_tup (pv 0) pe_int (fun _ _ => rfl)) (fun _ _ => rfl)) (pe_callB call_len_seq (by rfl) T.len PySem.boot_len (pa_cons (pv 1) pa_nil))) pa_nil))))) pss_nil)
  (pss_cons (ps_if (pt_cmpR op_in_seq (pe_ix ix_tup (pv 0) pe_int (fun _ _ => rfl)) (pe_tup (pa_cons pe_str (pa_cons pe_str pa_nil))) (by with_unfolding_all rfl)) (pss_one (ps_ret (pe_lst (pa_cons (pe_ix ix_tup (pv 0) pe_int (fun _ _ => rfl)) (pa_cons (pe_ix ix_tup (pv 0) pe_int (fun _ _ => rfl)) pa_nil))))) pss_nil)
  (pss_cons (ps_if (pt_cmpR op_eq (pe_ix ix_tup (pv 0) pe_int (fun _ _ => rfl)) pe_str (nomark _)) (pss_one (ps_ret (pe_lst (pa_cons (pe_ix ix_tup (pv 0) pe_int (fun _ _ => rfl)) pa_nil)))) pss_nil)
  (pss_one (ps_ret (pe_lst pa_nil)))))))), ?_⟩
    have hpos : ∀ o : Int, 0 ≤ o → o < (bs.length : Nat) → (0 : Int) < ((bs.map V.int).length : Nat) := fun o h0 h1 => by rw [List.length_map]; omega
    have s0 := Same.refl H
    cases hro with
    | @set b n m0 m1 m2 m3 =>
      have hT := hS
      have hB := hL
      refine ⟨_, rfl, _, _, _, .str _, rfl, rfl, hT, at_in (by decide) rfl, sz_ok rfl, fun p1 n1 => ⟨p1, _, rfl, .inr (SqT.of upd_same), rfl, rfl, false, bl_of (by decide +kernel), ?_⟩⟩
      have s1 := s0.more (o := .tup [.str "add", .str "sub"]) n1
      have hT := s1.sqt hS
      have hB := s1.seq hL
      refine ⟨_, rfl, _, _, _, .str _, rfl, rfl, hT, at_in (by decide) rfl, rfl, false, bl_of (by decide +kernel), ?_⟩
      refine ⟨_, rfl, _, _, _, .str _, rfl, rfl, hT, at_in (by decide) rfl, rfl, false, bl_of (by decide +kernel), ?_⟩
      refine ⟨_, rfl, _, _, _, .str _, rfl, rfl, hT, at_in (by decide) rfl, sz_ok rfl, fun p2 n2 => ⟨p2, _, rfl, .inr (SqT.of upd_same), rfl, rfl, false, bl_of (by decide +kernel), ?_⟩⟩
      have s2 := s1.more (o := .tup [.str "store", .str "less"]) n2
      have hT := s2.sqt hS
      have hB := s2.seq hL
      refine ⟨_, rfl, _, _, _, .str _, rfl, rfl, hT, at_in (by decide) rfl, rfl, false, bl_of (by decide +kernel), ?_⟩
      refine ⟨sz_ok rfl, fun p np => q _ p (s2.more np) (s2.free np) ?_⟩
      rw [upd_same]
      rfl
    | @copy b o b0 b1 o0 o1 =>
      have hT := hS
      have hB := hL
      refine ⟨_, rfl, _, _, _, .str _, rfl, rfl, hT, at_in (by decide) rfl, sz_ok rfl, fun p1 n1 => ⟨p1, _, rfl, .inr (SqT.of upd_same), rfl, rfl, false, bl_of (by decide +kernel), ?_⟩⟩
      have s1 := s0.more (o := .tup [.str "add", .str "sub"]) n1
      have hT := s1.sqt hS
      have hB := s1.seq hL
      refine ⟨_, rfl, _, _, _, .str _, rfl, rfl, hT, at_in (by decide) rfl, rfl, true, bl_of (by decide +kernel), ?_⟩
      refine ⟨_, rfl, _, _, _, .int _, rfl, rfl, hT, at_in (by decide) rfl, sz_ok rfl, fun p np => q _ p (s1.more np) (s1.free np) ?_⟩
      rw [upd_same]
      rfl
    | @add b o t b0 b1 o0 o1 t0 t1 =>
      have hT := hS
      have hB := hL
      refine ⟨_, rfl, _, _, _, .str _, rfl, rfl, hT, at_in (by decide) rfl, sz_ok rfl, fun p1 n1 => ⟨p1, _, rfl, .inr (SqT.of upd_same), rfl, rfl, true, bl_of (by decide +kernel), ?_⟩⟩
      have s1 := s0.more (o := .tup [.str "add", .str "sub"]) n1
      have hT := s1.sqt hS
      have hB := s1.seq hL
      refine ⟨_, rfl, _, _, _, .int _, rfl, rfl, hT, at_in (by decide) rfl, _, rfl, _, _, _, .int _, rfl, rfl, hT, at_in (by decide) rfl, sz_ok rfl, fun p np => q _ p (s1.more np) (s1.free np) ?_⟩
      rw [upd_same]
      rfl
    | @sub b o t b0 b1 o0 o1 t0 t1 =>
      have hT := hS
      have hB := hL
      refine ⟨_, rfl, _, _, _, .str _, rfl, rfl, hT, at_in (by decide) rfl, sz_ok rfl, fun p1 n1 => ⟨p1, _, rfl, .inr (SqT.of upd_same), rfl, rfl, true, bl_of (by decide +kernel), ?_⟩⟩
      have s1 := s0.more (o := .tup [.str "add", .str "sub"]) n1
      have hT := s1.sqt hS
      have hB := s1.seq hL
      refine ⟨_, rfl, _, _, _, .int _, rfl, rfl, hT, at_in (by decide) rfl, _, rfl, _, _, _, .int _, rfl, rfl, hT, at_in (by decide) rfl, sz_ok rfl, fun p np => q _ p (s1.more np) (s1.free np) ?_⟩
      rw [upd_same]
      rfl
    | @fetch b o b0 b1 o0 o1 =>
      have hT := hS
      have hB := hL
      refine ⟨_, rfl, _, _, _, .str _, rfl, rfl, hT, at_in (by decide) rfl, sz_ok rfl, fun p1 n1 => ⟨p1, _, rfl, .inr (SqT.of upd_same), rfl, rfl, false, bl_of (by decide +kernel), ?_⟩⟩
      have s1 := s0.more (o := .tup [.str "add", .str "sub"]) n1
      have hT := s1.sqt hS
      have hB := s1.seq hL
      refine ⟨_, rfl, _, _, _, .str _, rfl, rfl, hT, at_in (by decide) rfl, rfl, false, bl_of (by decide +kernel), ?_⟩
      refine ⟨_, rfl, _, _, _, .str _, rfl, rfl, hT, at_in (by decide) rfl, rfl, true, bl_of (by decide +kernel), ?_⟩
      have hpl := hpos _ o0 o1
      refine ⟨_, rfl, _, _, _, .int _, rfl, rfl, hT, at_in (by decide) rfl, _, rfl, _, rfl, _, _, _, .int _, rfl, rfl, hT, at_in (by decide) rfl, hd, _, _, _, rfl, rfl, hB, at0_at o0 o1, _, rfl, hd, _, rfl, .inl hB, _, _, rfl, rfl, hpl, ?_⟩
      rw [List.length_map]
      refine ⟨sz_ok rfl, fun p np => q _ p (s1.more np) (s1.free np) ?_⟩
      rw [upd_same]
      rfl
    | @store o b o0 o1 b0 b1 =>
      have hT := hS
      have hB := hL
      refine ⟨_, rfl, _, _, _, .str _, rfl, rfl, hT, at_in (by decide) rfl, sz_ok rfl, fun p1 n1 => ⟨p1, _, rfl, .inr (SqT.of upd_same), rfl, rfl, false, bl_of (by decide +kernel), ?_⟩⟩
      have s1 := s0.more (o := .tup [.str "add", .str "sub"]) n1
      have hT := s1.sqt hS
      have hB := s1.seq hL
      refine ⟨_, rfl, _, _, _, .str _, rfl, rfl, hT, at_in (by decide) rfl, rfl, false, bl_of (by decide +kernel), ?_⟩
      refine ⟨_, rfl, _, _, _, .str _, rfl, rfl, hT, at_in (by decide) rfl, rfl, false, bl_of (by decide +kernel), ?_⟩
      refine ⟨_, rfl, _, _, _, .str _, rfl, rfl, hT, at_in (by decide) rfl, sz_ok rfl, fun p2 n2 => ⟨p2, _, rfl, .inr (SqT.of upd_same), rfl, rfl, true, bl_of (by decide +kernel), ?_⟩⟩
      have s2 := s1.more (o := .tup [.str "store", .str "less"]) n2
      have hT := s2.sqt hS
      have hB := s2.seq hL
      refine ⟨_, rfl, _, _, _, .int _, rfl, rfl, hT, at_in (by decide) rfl, _, rfl, _, _, _, .int _, rfl, rfl, hT, at_in (by decide) rfl, sz_ok rfl, fun p np => q _ p (s2.more np) (s2.free np) ?_⟩
      rw [upd_same]
      rfl
    | @less o t g o0 o1 t0 t1 g0 g1 =>
      have hT := hS
      have hB := hL
      refine ⟨_, rfl, _, _, _, .str _, rfl, rfl, hT, at_in (by decide) rfl, sz_ok rfl, fun p1 n1 => ⟨p1, _, rfl, .inr (SqT.of upd_same), rfl, rfl, false, bl_of (by decide +kernel), ?_⟩⟩
      have s1 := s0.more (o := .tup [.str "add", .str "sub"]) n1
      have hT := s1.sqt hS
      have hB := s1.seq hL
      refine ⟨_, rfl, _, _, _, .str _, rfl, rfl, hT, at_in (by decide) rfl, rfl, false, bl_of (by decide +kernel), ?_⟩
      refine ⟨_, rfl, _, _, _, .str _, rfl, rfl, hT, at_in (by decide) rfl, rfl, false, bl_of (by decide +kernel), ?_⟩
      refine ⟨_, rfl, _, _, _, .str _, rfl, rfl, hT, at_in (by decide) rfl, sz_ok rfl, fun p2 n2 => ⟨p2, _, rfl, .inr (SqT.of upd_same), rfl, rfl, true, bl_of (by decide +kernel), ?_⟩⟩
      have s2 := s1.more (o := .tup [.str "store", .str "less"]) n2
      have hT := s2.sqt hS
      have hB := s2.seq hL
      refine ⟨_, rfl, _, _, _, .int _, rfl, rfl, hT, at_in (by decide) rfl, _, rfl, _, _, _, .int _, rfl, rfl, hT, at_in (by decide) rfl, sz_ok rfl, fun p np => q _ p (s2.more np) (s2.free np) ?_⟩
      rw [upd_same]
      rfl
    | @jump g g0 g1 =>
      have hT := hS
      have hB := hL
      refine ⟨_, rfl, _, _, _, .str _, rfl, rfl, hT, at_in (by decide) rfl, sz_ok rfl, fun p1 n1 => ⟨p1, _, rfl, .inr (SqT.of upd_same), rfl, rfl, false, bl_of (by decide +kernel), ?_⟩⟩
      have s1 := s0.more (o := .tup [.str "add", .str "sub"]) n1
      have hT := s1.sqt hS
      have hB := s1.seq hL
      refine ⟨_, rfl, _, _, _, .str _, rfl, rfl, hT, at_in (by decide) rfl, rfl, false, bl_of (by decide +kernel), ?_⟩
      refine ⟨_, rfl, _, _, _, .str _, rfl, rfl, hT, at_in (by decide) rfl, rfl, false, bl_of (by decide +kernel), ?_⟩
      refine ⟨_, rfl, _, _, _, .str _, rfl, rfl, hT, at_in (by decide) rfl, sz_ok rfl, fun p2 n2 => ⟨p2, _, rfl, .inr (SqT.of upd_same), rfl, rfl, false, bl_of (by decide +kernel), ?_⟩⟩
      have s2 := s1.more (o := .tup [.str "store", .str "less"]) n2
      have hT := s2.sqt hS
      have hB := s2.seq hL
      refine ⟨_, rfl, _, _, _, .str _, rfl, rfl, hT, at_in (by decide) rfl, rfl, false, bl_of (by decide +kernel), ?_⟩
      refine ⟨sz_ok rfl, fun p np => q _ p (s2.more np) (s2.free np) ?_⟩
      rw [upd_same]
      rfl
    | @tell o o0 o1 =>
      have hT := hS
      have hB := hL
      refine ⟨_, rfl, _, _, _, .str _, rfl, rfl, hT, at_in (by decide) rfl, sz_ok rfl, fun p1 n1 => ⟨p1, _, rfl, .inr (SqT.of upd_same), rfl, rfl, false, bl_of (by decide +kernel), ?_⟩⟩
      have s1 := s0.more (o := .tup [.str "add", .str "sub"]) n1
      have hT := s1.sqt hS
      have hB := s1.seq hL
      refine ⟨_, rfl, _, _, _, .str _, rfl, rfl, hT, at_in (by decide) rfl, rfl, false, bl_of (by decide +kernel), ?_⟩
      refine ⟨_, rfl, _, _, _, .str _, rfl, rfl, hT, at_in (by decide) rfl, rfl, false, bl_of (by decide +kernel), ?_⟩
      refine ⟨_, rfl, _, _, _, .str _, rfl, rfl, hT, at_in (by decide) rfl, sz_ok rfl, fun p2 n2 => ⟨p2, _, rfl, .inr (SqT.of upd_same), rfl, rfl, false, bl_of (by decide +kernel), ?_⟩⟩
      have s2 := s1.more (o := .tup [.str "store", .str "less"]) n2
      have hT := s2.sqt hS
      have hB := s2.seq hL
      refine ⟨_, rfl, _, _, _, .str _, rfl, rfl, hT, at_in (by decide) rfl, rfl, true, bl_of (by decide +kernel), ?_⟩
      refine ⟨_, rfl, _, _, _, .int _, rfl, rfl, hT, at_in (by decide) rfl, sz_ok rfl, fun p np => q _ p (s2.more np) (s2.free np) ?_⟩
      rw [upd_same]
      rfl

def WAt (H : Hp) (us : List V) (ws : List (Int × Int)) : Prop := us.length = ws.length ∧ ∀ (j : Nat) (x : Int × Int), ws[j]? = some x → ∃ q, us[j]? = some (V.ref q) ∧ H q = some (.tup [.int x.1, .int x.2])
theorem w_one {H : Hp} {p : Addr} {a b : Int} (h : H p = some (.tup [.int a, .int b])) : WAt H [.ref p] [(a, b)] := ⟨rfl, fun j x e => by
  match j, e with
  | 0, e => cases e; exact ⟨p, rfl, h⟩
  | j + 1, e => simp at e⟩
def spWrites (K : PySem.W.Frag) : Sp := fun vs H Q _ => ∃ (r hd : Addr) (wd : Str) (ns bs : List Int) (count : Int), vs = [.ref r, .ref hd] ∧ SqT K H r (.str wd :: ns.map V.int) ∧ SqL K H hd (bs.map V.int) ∧ RowOk (bs.length : Nat) count wd ns ∧
  ∀ H' p us, Same H H' → H p = none → H' p = some (.lst us) → WAt H' us (writesOf wd ns bs) → Q (.ref p) H'
abbrev s__law_writes : Stmt := top 31
abbrev N__law_writes : List Str := ["_law_row", "_law_held"]
theorem S__law_writes : FnScope N__law_writes ["_law_row", "_law_held"] (defScope s__law_writes) := ⟨rfl, rfl, rfl, by decide +kernel, rfl, by decide +kernel, by decide +kernel⟩

theorem c_writes (T : Txt K w mg) (D : DefAt K "_law_writes" s__law_writes) : Cal P w K mg base CX0 1 "_law_writes" (spWrites K) := by
  have S := S__law_writes
  refine cal_of T.toTop D S (fun _ _ _ _ _ _ us hl => match us, hl with | [_, _], _ => rfl) (fun vs H Q E h => ?_) (fun f cdv A outer s H vs Q E hr h => ?_)
  · obtain ⟨r, hd, wd, ns, bs, count, rfl, _⟩ := h
    rfl
  · obtain ⟨r, hd, wd, ns, bs, count, rfl, hT, hB, hro, q⟩ := h
    refine ⟨_, (pss_cons (ps_if (pt_cmpR op_eq (pe_ix ix_tup (pv 0) pe_int (fun _ _ => rfl)) pe_str (nomark _)) (pss_one (ps_ret (pe_lst (pa_cons (pe_tup (pa_cons (pe_ix ix_tup (pv 0) pe_int (fun _ _ => rfl)) (pa_cons (pe_ix ix_tup (pv 0) pe_int (fun _ _ => rfl)) pa_nil))) pa_nil)))) pss_nil)
  (pss_cons (ps_if (pt_cmpR op_eq (pe_ix ix_tup (pv 0) pe_int (fun _ _ => rfl)) pe_str (nomark _)) (pss_one (ps_ret (pe_lst (pa_cons (pe_tup (pa_cons (pe_ix ix_tup (pv 0) pe_int (fun _ _ => rfl)) (pa_cons (pe_ix ix_list (pv 1) (pe_ix ix_tup (pv 0) pe_int (fun _ _ => rfl)) (fun _ _ => rfl)) pa_nil))) pa_nil)))) pss_nil)
  (pss_cons (ps_if (pt_cmpR op_eq (pe_ix ix_tup (pv 0) pe_int (fun _ _ => rfl)) pe_str (nomark _)) (pss_one (ps_ret (pe_lst (pa_cons (pe_tup (pa_cons (pe_ix ix_tup (pv 0) pe_int (fun _ _ => rfl)) (pa_cons (pe_op op_mod (pe_op op_add (pe_ix ix_list (pv 1) (pe_ix ix_tup (pv 0) pe_int (fun _ _ => rfl)) (fun _ _ => rfl)) (pe_ix ix_list (pv 1) (pe_ix ix_tup (pv 0) pe_int (fun _ _ => rfl)) (fun _ _ => rfl))) pe_int) pa_nil))) pa_nil)))) pss_nil)
  (pss_cons (ps_if (pt_cmpR op_eq (pe_ix ix_tup (pv 0) pe_int (fun _ _ => rfl)) pe_str (nomark _)) (pss_one (ps_ret (pe_lst (pa_cons (pe_tup (pa_cons (pe_ix ix_tup (pv 0) pe_int (fun _ _ => rfl)) (pa_cons (pe_op op_mod (pe_op op_sub (pe_ix ix_list (pv 1) (pe_ix ix_tup (pv 0) pe_int (fun _ _ => rfl)) (fun _ _ => rfl)) (pe_ix ix_list (pv 1) (pe_ix ix_tup (pv 0) pe_int (fun _ _ => rfl)) (fun _ _ => rfl))) pe_int) pa_nil))) pa_nil)))) pss_nil)
  (pss_cons (ps_if (pt_cmpR op_eq (pe_ix ix_tup (pv 0) pe_int (fun _ _ => rfl)) pe_str (nomark _)) (pss_one (ps_ret (pe_lst (pa_cons (pe_tup (pa_cons (pe_ix ix_tup (pv 0) pe_int (fun _ _ => rfl)) (pa_cons (pe_ix ix_list (pv 1) (pe_op op_mod (pe_ix ix_list (pv 1) (pe_ix ix_tup (pv 0) pe_int (fun _ _ => rfl)) (fun _ _ => rfl)) (pe_callB call_len_seq (by rfl) T.len PySem.boot_len (pa_cons (pv 1) pa_nil))) (fun _ _ => rfl)) pa_nil))) pa_nil)))) pss_nil)
  (pss_cons (ps_if (pt_cmpR op_eq (pe_ix ix_tup (pv 0) pe_int (fun _ _ => rfl)) pe_str (nomark _)) (pss_one (ps_ret (pe_lst (pa_cons (pe_tup (pa_cons (pe_op op_mod (pe_ix ix_list (pv 1) (pe_ix ix_tup (pv 0) pe_int (fun _ _ => rfl)) (fun _ _ => rfl)) (pe_callB call_len_seq (by rfl) T.len PySem.boot_len (pa_cons (pv 1) pa_nil))) (pa_cons (pe_ix ix_list (pv 1) (pe_ix ix_tup (pv 0) pe_int (fun _ _ => rfl)) (fun _ _ => rfl)) pa_nil))) pa_nil)))) pss_nil)
  (pss_one (ps_ret (pe_lst pa_nil))))))))), ?_⟩
    have hpos : ∀ o : Int, 0 ≤ o → o < (bs.length : Nat) → (0 : Int) < ((bs.map V.int).length : Nat) := fun o h0 h1 => by rw [List.length_map]; omega
    have fin : ∀ (a b : Int) (p1 p2 : Addr), H p1 = none → upd H p1 (.tup [.int a, .int b]) p2 = none → writesOf wd ns bs = [(a, b)] → Q (.ref p2) (upd (upd H p1 (.tup [.int a, .int b])) p2 (.lst [.ref p1])) := fun a b p1 p2 n1 n2 e => by
      have s1 := Same.new (o := .tup [.int a, .int b]) n1
      refine q _ p2 _ (s1.more n2) (s1.free n2) upd_same ?_
      rw [e]
      exact w_one (Same.new n2 _ _ upd_same)
    cases hro with
    | @set b n m0 m1 m2 m3 =>
      refine ⟨_, rfl, _, _, _, .str _, rfl, rfl, hT, at_in (by decide) rfl, rfl, true, bl_of (by decide +kernel), ?_⟩
      exact ⟨_, rfl, _, _, _, .int _, rfl, rfl, hT, at_in (by decide) rfl, _, rfl, _, _, _, .int _, rfl, rfl, hT, at_in (by decide) rfl, sz_ok rfl, fun p1 n1 => ⟨sz_ok rfl, fun p2 n2 => fin _ _ p1 p2 n1 n2 rfl⟩⟩
    | @copy b o b0 b1 o0 o1 =>
      refine ⟨_, rfl, _, _, _, .str _, rfl, rfl, hT, at_in (by decide) rfl, rfl, false, bl_of (by decide +kernel), ?_⟩
      refine ⟨_, rfl, _, _, _, .str _, rfl, rfl, hT, at_in (by decide) rfl, rfl, true, bl_of (by decide +kernel), ?_⟩
      exact ⟨_, rfl, _, _, _, .int _, rfl, rfl, hT, at_in (by decide) rfl, _, rfl, _, rfl, _, _, _, .int _, rfl, rfl, hT, at_in (by decide) rfl, hd, _, _, _, rfl, rfl, hB, at0_at o0 o1, sz_ok rfl, fun p1 n1 => ⟨sz_ok rfl, fun p2 n2 => fin _ _ p1 p2 n1 n2 rfl⟩⟩
    | @add b o t b0 b1 o0 o1 t0 t1 =>
      refine ⟨_, rfl, _, _, _, .str _, rfl, rfl, hT, at_in (by decide) rfl, rfl, false, bl_of (by decide +kernel), ?_⟩
      refine ⟨_, rfl, _, _, _, .str _, rfl, rfl, hT, at_in (by decide) rfl, rfl, false, bl_of (by decide +kernel), ?_⟩
      refine ⟨_, rfl, _, _, _, .str _, rfl, rfl, hT, at_in (by decide) rfl, rfl, true, bl_of (by decide +kernel), ?_⟩
      exact ⟨_, rfl, _, _, _, .int _, rfl, rfl, hT, at_in (by decide) rfl, _, rfl, _, rfl, _, _, _, .int _, rfl, rfl, hT, at_in (by decide) rfl, hd, _, _, _, rfl, rfl, hB, at0_at o0 o1, _, rfl, _, rfl, _, _, _, .int _, rfl, rfl, hT, at_in (by decide) rfl, hd, _, _, _, rfl, rfl, hB, at0_at t0 t1, _, _, rfl, rfl, _, _, rfl, rfl, (by show (0 : Int) < 1000000; decide), sz_ok rfl, fun p1 n1 => ⟨sz_ok rfl, fun p2 n2 => fin _ _ p1 p2 n1 n2 rfl⟩⟩
    | @sub b o t b0 b1 o0 o1 t0 t1 =>
      refine ⟨_, rfl, _, _, _, .str _, rfl, rfl, hT, at_in (by decide) rfl, rfl, false, bl_of (by decide +kernel), ?_⟩
      refine ⟨_, rfl, _, _, _, .str _, rfl, rfl, hT, at_in (by decide) rfl, rfl, false, bl_of (by decide +kernel), ?_⟩
      refine ⟨_, rfl, _, _, _, .str _, rfl, rfl, hT, at_in (by decide) rfl, rfl, false, bl_of (by decide +kernel), ?_⟩
      refine ⟨_, rfl, _, _, _, .str _, rfl, rfl, hT, at_in (by decide) rfl, rfl, true, bl_of (by decide +kernel), ?_⟩
      exact ⟨_, rfl, _, _, _, .int _, rfl, rfl, hT, at_in (by decide) rfl, _, rfl, _, rfl, _, _, _, .int _, rfl, rfl, hT, at_in (by decide) rfl, hd, _, _, _, rfl, rfl, hB, at0_at o0 o1, _, rfl, _, rfl, _, _, _, .int _, rfl, rfl, hT, at_in (by decide) rfl, hd, _, _, _, rfl, rfl, hB, at0_at t0 t1, _, _, rfl, rfl, _, _, rfl, rfl, (by show (0 : Int) < 1000000; decide), sz_ok rfl, fun p1 n1 => ⟨sz_ok rfl, fun p2 n2 => fin _ _ p1 p2 n1 n2 rfl⟩⟩
    | @fetch b o b0 b1 o0 o1 =>
      refine ⟨_, rfl, _, _, _, .str _, rfl, rfl, hT, at_in (by decide) rfl, rfl, false, bl_of (by decide +kernel), ?_⟩
      refine ⟨_, rfl, _, _, _, .str _, rfl, rfl, hT, at_in (by decide) rfl, rfl, false, bl_of (by decide +kernel), ?_⟩
      refine ⟨_, rfl, _, _, _, .str _, rfl, rfl, hT, at_in (by decide) rfl, rfl, false, bl_of (by decide +kernel), ?_⟩
      refine ⟨_, rfl, _, _, _, .str _, rfl, rfl, hT, at_in (by decide) rfl, rfl, false, bl_of (by decide +kernel), ?_⟩
      refine ⟨_, rfl, _, _, _, .str _, rfl, rfl, hT, at_in (by decide) rfl, rfl, true, bl_of (by decide +kernel), ?_⟩
      have hpl := hpos _ o0 o1
      have hpl2 : (0 : Int) < (bs.length : Nat) := by omega
      have m0 := mod_nn (at0 bs o) hpl2
      have m1 := mod_lt (at0 bs o) hpl2
      refine ⟨_, rfl, _, _, _, .int _, rfl, rfl, hT, at_in (by decide) rfl, _, rfl, _, rfl, _, rfl, _, _, _, .int _, rfl, rfl, hT, at_in (by decide) rfl, hd, _, _, _, rfl, rfl, hB, at0_at o0 o1, _, rfl, hd, _, rfl, .inl hB, _, _, rfl, rfl, hpl, ?_⟩
      rw [List.length_map]
      exact ⟨hd, _, _, _, rfl, rfl, hB, at0_at m0 m1, sz_ok rfl, fun p1 n1 => ⟨sz_ok rfl, fun p2 n2 => fin _ _ p1 p2 n1 n2 rfl⟩⟩
    | @store o b o0 o1 b0 b1 =>
      refine ⟨_, rfl, _, _, _, .str _, rfl, rfl, hT, at_in (by decide) rfl, rfl, false, bl_of (by decide +kernel), ?_⟩
      refine ⟨_, rfl, _, _, _, .str _, rfl, rfl, hT, at_in (by decide) rfl, rfl, false, bl_of (by decide +kernel), ?_⟩
      refine ⟨_, rfl, _, _, _, .str _, rfl, rfl, hT, at_in (by decide) rfl, rfl, false, bl_of (by decide +kernel), ?_⟩
      refine ⟨_, rfl, _, _, _, .str _, rfl, rfl, hT, at_in (by decide) rfl, rfl, false, bl_of (by decide +kernel), ?_⟩
      refine ⟨_, rfl, _, _, _, .str _, rfl, rfl, hT, at_in (by decide) rfl, rfl, false, bl_of (by decide +kernel), ?_⟩
      refine ⟨_, rfl, _, _, _, .str _, rfl, rfl, hT, at_in (by decide) rfl, rfl, true, bl_of (by decide +kernel), ?_⟩
      have hpl := hpos _ o0 o1
      refine ⟨_, rfl, _, rfl, _, _, _, .int _, rfl, rfl, hT, at_in (by decide) rfl, hd, _, _, _, rfl, rfl, hB, at0_at o0 o1, _, rfl, hd, _, rfl, .inl hB, _, _, rfl, rfl, hpl, ?_⟩
      rw [List.length_map]
      exact ⟨_, rfl, _, rfl, _, _, _, .int _, rfl, rfl, hT, at_in (by decide) rfl, hd, _, _, _, rfl, rfl, hB, at0_at b0 b1, sz_ok rfl, fun p1 n1 => ⟨sz_ok rfl, fun p2 n2 => fin _ _ p1 p2 n1 n2 rfl⟩⟩
    | @less o t g o0 o1 t0 t1 g0 g1 =>
      refine ⟨_, rfl, _, _, _, .str _, rfl, rfl, hT, at_in (by decide) rfl, rfl, false, bl_of (by decide +kernel), ?_⟩
      refine ⟨_, rfl, _, _, _, .str _, rfl, rfl, hT, at_in (by decide) rfl, rfl, false, bl_of (by decide +kernel), ?_⟩
      refine ⟨_, rfl, _, _, _, .str _, rfl, rfl, hT, at_in (by decide) rfl, rfl, false, bl_of (by decide +kernel), ?_⟩
      refine ⟨_, rfl, _, _, _, .str _, rfl, rfl, hT, at_in (by decide) rfl, rfl, false, bl_of (by decide +kernel), ?_⟩
      refine ⟨_, rfl, _, _, _, .str _, rfl, rfl, hT, at_in (by decide) rfl, rfl, false, bl_of (by decide +kernel), ?_⟩
      refine ⟨_, rfl, _, _, _, .str _, rfl, rfl, hT, at_in (by decide) rfl, rfl, false, bl_of (by decide +kernel), ?_⟩
      exact ⟨sz_ok rfl, fun p np => q _ p _ (Same.new np) np upd_same ⟨rfl, fun j x e => by rw [show writesOf _ _ bs = [] from rfl] at e; simp at e⟩⟩
    | @jump g g0 g1 =>
      refine ⟨_, rfl, _, _, _, .str _, rfl, rfl, hT, at_in (by decide) rfl, rfl, false, bl_of (by decide +kernel), ?_⟩
      refine ⟨_, rfl, _, _, _, .str _, rfl, rfl, hT, at_in (by decide) rfl, rfl, false, bl_of (by decide +kernel), ?_⟩
      refine ⟨_, rfl, _, _, _, .str _, rfl, rfl, hT, at_in (by decide) rfl, rfl, false, bl_of (by decide +kernel), ?_⟩
      refine ⟨_, rfl, _, _, _, .str _, rfl, rfl, hT, at_in (by decide) rfl, rfl, false, bl_of (by decide +kernel), ?_⟩
      refine ⟨_, rfl, _, _, _, .str _, rfl, rfl, hT, at_in (by decide) rfl, rfl, false, bl_of (by decide +kernel), ?_⟩
      refine ⟨_, rfl, _, _, _, .str _, rfl, rfl, hT, at_in (by decide) rfl, rfl, false, bl_of (by decide +kernel), ?_⟩
      exact ⟨sz_ok rfl, fun p np => q _ p _ (Same.new np) np upd_same ⟨rfl, fun j x e => by rw [show writesOf _ _ bs = [] from rfl] at e; simp at e⟩⟩
    | @tell o o0 o1 =>
      refine ⟨_, rfl, _, _, _, .str _, rfl, rfl, hT, at_in (by decide) rfl, rfl, false, bl_of (by decide +kernel), ?_⟩
      refine ⟨_, rfl, _, _, _, .str _, rfl, rfl, hT, at_in (by decide) rfl, rfl, false, bl_of (by decide +kernel), ?_⟩
      refine ⟨_, rfl, _, _, _, .str _, rfl, rfl, hT, at_in (by decide) rfl, rfl, false, bl_of (by decide +kernel), ?_⟩
      refine ⟨_, rfl, _, _, _, .str _, rfl, rfl, hT, at_in (by decide) rfl, rfl, false, bl_of (by decide +kernel), ?_⟩
      refine ⟨_, rfl, _, _, _, .str _, rfl, rfl, hT, at_in (by decide) rfl, rfl, false, bl_of (by decide +kernel), ?_⟩
      refine ⟨_, rfl, _, _, _, .str _, rfl, rfl, hT, at_in (by decide) rfl, rfl, false, bl_of (by decide +kernel), ?_⟩
      exact ⟨sz_ok rfl, fun p np => q _ p _ (Same.new np) np upd_same ⟨rfl, fun j x e => by rw [show writesOf _ _ bs = [] from rfl] at e; simp at e⟩⟩

theorem TchAt.same {H H' : Hp} {sn : Addr} {ts : List (Str × Int)} (h : TchAt H sn ts) (s : Same H H') : TchAt H' sn ts := by
  obtain ⟨us, h1, h2, h3⟩ := h
  refine ⟨us, s _ _ h1, h2, fun j t e => ?_⟩
  obtain ⟨q, e1, e2⟩ := h3 j t e
  exact ⟨q, e1, s _ _ e2⟩
theorem TchAt.keep {H H' : Hp} {sn x : Addr} {ts : List (Str × Int)} {ux : List V} (h : TchAt H sn ts) (hx : H x = some (.lst ux)) (n : x ≠ sn) (f : ∀ a o, H a = some o → a ≠ x → H' a = some o) : TchAt H' sn ts := by
  obtain ⟨us, h1, h2, h3⟩ := h
  refine ⟨us, f _ _ h1 n.symm, h2, fun j t e => ?_⟩
  obtain ⟨q, e1, e2⟩ := h3 j t e
  exact ⟨q, e1, f _ _ e2 fun z => by rw [z, hx] at e2; cases e2⟩
theorem TchAt.push {H : Hp} {sn q : Addr} {ts : List (Str × Int)} {us : List V} {t : Str × Int} (h : TchAt H sn ts) (hu : H sn = some (.lst us)) (hq : H q = some (.tup (tchV t))) : TchAt (upd H sn (.lst (us ++ [.ref q]))) sn (ts ++ [t]) := by
  obtain ⟨us', h1, h2, h3⟩ := h
  rw [hu] at h1
  cases h1
  have k : ∀ a u, H a = some (.tup u) → upd H sn (.lst (us ++ [.ref q])) a = some (.tup u) := fun a u e => by
    rw [upd_ne fun z => by rw [z, hu] at e; cases e]
    exact e
  refine ⟨us ++ [.ref q], upd_same, by rw [List.length_append, List.length_append, h2]; rfl, fun j t' e => ?_⟩
  by_cases hj : j < ts.length
  · rw [List.getElem?_append_left hj] at e
    obtain ⟨q', e1, e2⟩ := h3 j t' e
    exact ⟨q', by rw [List.getElem?_append_left (by omega)]; exact e1, k _ _ e2⟩
  · rw [List.getElem?_append_right (by omega)] at e
    have hj0 : j - ts.length = 0 := by
      have := (List.getElem?_eq_some_iff.mp e).1
      simp only [List.length_singleton] at this
      omega
    rw [hj0] at e
    cases e
    exact ⟨q, by rw [List.getElem?_append_right (by omega), show j - us.length = 0 by omega]; rfl, k _ _ hq⟩
def rdT (b : Int) : Str × Int := ("read", b)
def wrT (x : Int × Int) : Str × Int := ("write", x.1)
theorem touch_rw {size count : Int} {wd : Str} {ns bs : List Int} (h : RowOk size count wd ns) : touchesOf wd ns bs ++ nextT wd ns = (readsOf wd ns bs).map rdT ++ (writesOf wd ns bs).map wrT := by
  cases h <;> rfl
theorem boxes_rw {size count : Int} {wd : Str} {ns bs : List Int} (h : RowOk size count wd ns) : boxesOf wd ns bs = (writesOf wd ns bs).foldl (fun l x => l.set x.1.toNat x.2) bs := by
  cases h <;> rfl
theorem writes_in {count : Int} {wd : Str} {ns bs : List Int} (h : RowOk (bs.length : Nat) count wd ns) : ∀ x ∈ writesOf wd ns bs, 0 ≤ x.1 ∧ x.1 < (bs.length : Nat) := by
  cases h with
  | set h0 h1 => exact fun x hx => by cases List.mem_singleton.mp hx; exact ⟨h0, h1⟩
  | copy h0 h1 => exact fun x hx => by cases List.mem_singleton.mp hx; exact ⟨h0, h1⟩
  | add h0 h1 => exact fun x hx => by cases List.mem_singleton.mp hx; exact ⟨h0, h1⟩
  | sub h0 h1 => exact fun x hx => by cases List.mem_singleton.mp hx; exact ⟨h0, h1⟩
  | fetch h0 h1 => exact fun x hx => by cases List.mem_singleton.mp hx; exact ⟨h0, h1⟩
  | store h0 h1 => exact fun x hx => by cases List.mem_singleton.mp hx; exact ⟨mod_nn _ (by omega), mod_lt _ (by omega)⟩
  | _ => exact fun x hx => by cases hx
theorem reads_len (wd : Str) (ns bs : List Int) : (readsOf wd ns bs).length ≤ 2 := by
  unfold readsOf
  dsimp only
  repeat' split
  all_goals (simp only [List.length_cons, List.length_nil]; omega)
theorem w_same {H H' : Hp} {us : List V} {ws : List (Int × Int)} (h : WAt H us ws) (s : Same H H') : WAt H' us ws := ⟨h.1, fun j x e => by
  obtain ⟨q, e1, e2⟩ := h.2 j x e
  exact ⟨q, e1, s _ _ e2⟩⟩
theorem w_keep {H H' : Hp} {us ux : List V} {ws : List (Int × Int)} {a : Addr} (h : WAt H us ws) (ha : H a = some (.lst ux)) (f : ∀ q o, H q = some o → q ≠ a → H' q = some o) : WAt H' us ws := ⟨h.1, fun j x e => by
  obtain ⟨q, e1, e2⟩ := h.2 j x e
  exact ⟨q, e1, f _ _ e2 fun z => by rw [z, ha] at e2; cases e2⟩⟩
theorem writes_len (wd : Str) (ns bs : List Int) : (writesOf wd ns bs).length ≤ 1 := by
  unfold writesOf
  dsimp only
  repeat' split
  all_goals (simp only [List.length_cons, List.length_nil]; omega)
def spRunBy (K : PySem.W.Frag) : Sp := fun vs H Q _ => ∃ (rw_ gb : Addr) (xs : List V) (rows : List Rw) (bs : List Int) (n : Nat), vs = [.ref rw_, .ref gb, .int (n : Nat)] ∧ SqL K H rw_ xs ∧ RowsAt K H xs rows ∧ SqL K H gb (bs.map V.int) ∧ (∀ r ∈ rows, RowOk (bs.length : Nat) (rows.length : Nat) r.1 r.2) ∧ n ≤ 1000 ∧
  ∀ H' q tl hd sn, Same H H' → H tl = none → H hd = none → H sn = none → H' tl = some (.lst ((runM rows n ⟨0, bs, [], []⟩).tv.map V.int)) → H' hd = some (.lst ((runM rows n ⟨0, bs, [], []⟩).bs.map V.int)) → TchAt H' sn (runM rows n ⟨0, bs, [], []⟩).ts →
    H' q = some (.tup [.ref tl, .str (endOf rows (runM rows n ⟨0, bs, [], []⟩)), .ref hd, .ref sn]) → Q (.ref q) H'
abbrev s__law_run_by : Stmt := top 32
abbrev N__law_run_by : List Str := ["_law_rows", "_law_boxes", "_law_steps", "_law_held", "_law_told", "_law_seen", "_law_place", "_law_row", "_law_written", "_law_box", "_law_pair"]
theorem S__law_run_by : FnScope N__law_run_by ["_law_rows", "_law_boxes", "_law_steps"] (defScope s__law_run_by) := ⟨rfl, rfl, rfl, by decide +kernel, rfl, by decide +kernel, by decide +kernel⟩

theorem c_run_by (T : Txt K w mg) (D : DefAt K "_law_run_by" s__law_run_by) (C__law_reads : Cal P w K mg base CX0 1 "_law_reads" (spReads K)) (C__law_writes : Cal P w K mg base CX0 1 "_law_writes" (spWrites K)) : Cal P w K mg base CX0 3 "_law_run_by" (spRunBy K) := by
  have S := S__law_run_by
  refine cal_of T.toTop D S (fun _ _ _ _ _ _ us hl => match us, hl with | [_, _, _], _ => rfl) (fun vs H Q E h => ?_) (fun f cdv A outer s H vs Q E hr h => ?_)
  · obtain ⟨rw_, gb, xs, rows, bs, n, rfl, _⟩ := h
    rfl
  · obtain ⟨rw_, gb, xs, rows, bs, n, rfl, hX, hRA, hB, hRO, hn, q⟩ := h
    refine ⟨_, (pss_cons (ps_set (i := 3) S.nd rfl (Or.inl rfl) (pe_callTy call_list_of (by rfl) T.list (by decide +kernel) (pa_cons (pv 1) pa_nil)))
  (pss_cons (ps_set (i := 4) S.nd rfl (Or.inl rfl) (pe_lst pa_nil))
  (pss_cons (ps_set (i := 5) S.nd rfl (Or.inl rfl) (pe_lst pa_nil))
  (pss_cons (ps_set (i := 6) S.nd rfl (Or.inl rfl) pe_int)
  (pss_cons (ps_while PassesOwn.never (PW.pt (pw_and (pt_cmpR op_lt (pv 6) (pe_callB call_len_seq (by rfl) T.len PySem.boot_len (pa_cons (pv 0) pa_nil)) (nomark _)) (pw_and1 (pt_cmpR op_gt (pv 2) pe_int (nomark _)))))
  (pss_cons (ps_set (i := 7) S.nd rfl (Or.inl rfl) (pe_ix ix_list (pv 0) (pv 6) (fun _ _ => rfl)))
  (pss_cons (ps_set (i := 6) S.nd rfl (Or.inl rfl) (pe_op op_add (pv 6) pe_int))
  (pss_cons (ps_if (pt_cmpR op_eq (pe_ix ix_tup (pv 7) pe_int (fun _ _ => rfl)) pe_str (nomark _)) (pss_one (ps_set (i := 6) S.nd rfl (Or.inl rfl) (pe_ix ix_tup (pv 7) pe_int (fun _ _ => rfl)))) pss_nil)
  (pss_cons (ps_if (PW.pt (pw_and (pt_cmpR op_eq (pe_ix ix_tup (pv 7) pe_int (fun _ _ => rfl)) pe_str (nomark _)) (pw_and1 (pt_cmpR op_lt (pe_ix ix_list (pv 3) (pe_ix ix_tup (pv 7) pe_int (fun _ _ => rfl)) (fun _ _ => rfl)) (pe_ix ix_list (pv 3) (pe_ix ix_tup (pv 7) pe_int (fun _ _ => rfl)) (fun _ _ => rfl)) (nomark _))))) (pss_one (ps_set (i := 6) S.nd rfl (Or.inl rfl) (pe_ix ix_tup (pv 7) pe_int (fun _ _ => rfl)))) pss_nil)
  (pss_cons (ps_if (pt_cmpR op_eq (pe_ix ix_tup (pv 7) pe_int (fun _ _ => rfl)) pe_str (nomark _)) (pss_one (ps_expr (pe_bm PySem.F.plainAttrs_list PySem.F.slot_list_append PySem.F.type_list_append mt_append (pv 4) (pa_cons (pe_ix ix_list (pv 3) (pe_ix ix_tup (pv 7) pe_int (fun _ _ => rfl)) (fun _ _ => rfl)) pa_nil)))) pss_nil)
  (pss_cons (ps_set (i := 8) S.nd rfl (Or.inl rfl) (pe_c C__law_writes hr (by decide) rfl (pa_cons (pv 7) (pa_cons (pv 3) pa_nil))))
  (pss_cons (ps_for PassesOwn.never rfl (pi_list (pe_c C__law_reads hr (by decide) rfl (pa_cons (pv 7) (pa_cons (pv 3) pa_nil)))) (pg_name (i := 9) S.nd rfl (Or.inl rfl))
  (pss_one (ps_expr (pe_bm PySem.F.plainAttrs_list PySem.F.slot_list_append PySem.F.type_list_append mt_append (pv 5) (pa_cons (pe_tup (pa_cons pe_str (pa_cons (pv 9) pa_nil))) pa_nil)))))
  (pss_cons (ps_for PassesOwn.never rfl (pi_list (pv 8)) (pg_name (i := 10) S.nd rfl (Or.inl rfl))
  (pss_cons (ps_expr (pe_bm PySem.F.plainAttrs_list PySem.F.slot_list_append PySem.F.type_list_append mt_append (pv 5) (pa_cons (pe_tup (pa_cons pe_str (pa_cons (pe_ix ix_tup (pv 10) pe_int (fun _ _ => rfl)) pa_nil))) pa_nil)))
  (pss_one (ps_asg (pe_ix ix_tup (pv 10) pe_int (fun _ _ => rfl)) (pg_sub (pv 3) (pe_ix ix_tup (pv 10) pe_int (fun _ _ => rfl)) set_list)))))
  (pss_one (ps_set (i := 2) S.nd rfl (Or.inl rfl) (pe_op op_sub (pv 2) pe_int))))))))))))
  (pss_cons (ps_if (pt_cmpR op_lt (pv 6) (pe_callB call_len_seq (by rfl) T.len PySem.boot_len (pa_cons (pv 0) pa_nil)) (nomark _)) (pss_one (ps_ret (pe_tup (pa_cons (pv 4) (pa_cons pe_str (pa_cons (pv 3) (pa_cons (pv 5) pa_nil))))))) pss_nil)
  (pss_one (ps_ret (pe_tup (pa_cons (pv 4) (pa_cons pe_str (pa_cons (pv 3) (pa_cons (pv 5) pa_nil))))))))))))), ?_⟩
    refine ⟨_, rfl, gb, _, rfl, .inl hB, fun hd nh => ?_⟩
    have s1 : Same H (upd H hd (.lst (bs.map V.int))) := Same.new nh
    have g1 : upd H hd (.lst (bs.map V.int)) hd = some (.lst (bs.map V.int)) := upd_same
    generalize upd H hd (.lst (bs.map V.int)) = Ha at s1 g1
    refine ⟨sz_ok rfl, fun tl nt => ?_⟩
    have s2 : Same H (upd Ha tl (.lst [])) := s1.more nt
    have g2 : upd Ha tl (.lst []) tl = some (.lst (([] : List Int).map V.int)) := upd_same
    have g1b : upd Ha tl (.lst []) hd = some (.lst (bs.map V.int)) := Same.new nt _ _ g1
    have e1 : hd ≠ tl := ne_of_none g1 nt
    have nt0 : H tl = none := s1.free nt
    generalize upd Ha tl (.lst []) = Hb at s2 g2 g1b
    refine ⟨sz_ok rfl, fun sn ns_ => ?_⟩
    have s3 : Same H (upd Hb sn (.lst [])) := s2.more ns_
    have e2 : hd ≠ sn := ne_of_none g1b ns_
    have e3 : tl ≠ sn := ne_of_none g2 ns_
    have ns0 : H sn = none := s2.free ns_
    refine ⟨fun m σ H' => ∃ (k : Nat) (z : Ms) (v7 v8 v9 v10 : Option V), m = n - k ∧ k ≤ n ∧ σ = [some (.ref rw_), some (.ref gb), some (.int ((n : Int) - (k : Int))), some (.ref hd), some (.ref tl), some (.ref sn), some (.int z.place), v7, v8, v9, v10] ∧
      runM rows (n - k) z = runM rows n ⟨0, bs, [], []⟩ ∧ 0 ≤ z.place ∧ z.place ≤ (rows.length : Nat) ∧ z.bs.length = bs.length ∧ z.ts.length ≤ 5 * k ∧ z.tv.length ≤ k ∧ Same H H' ∧ H' hd = some (.lst (z.bs.map V.int)) ∧ H' tl = some (.lst (z.tv.map V.int)) ∧ TchAt H' sn z.ts,
      ⟨n, 0, ⟨0, bs, [], []⟩, none, none, none, none, by omega, by omega, by rw [show ((n : Int) - ((0 : Nat) : Int)) = (n : Nat) by omega]; rfl, rfl, Int.le_refl _, Int.natCast_nonneg _, rfl, Nat.zero_le _, Nat.zero_le _, s3, Same.new ns_ _ _ g1b, Same.new ns_ _ _ g2, [], upd_same, rfl, fun j t e => by simp at e⟩, fun m σ H1 hW => ?_⟩
    obtain ⟨k, z, v7, v8, v9, v10, rfl, hk, rfl, hrun, hz0, hz1, hbl, htl, htv, sm, gh, gt, hsn⟩ := hW
    have fin : runM rows n ⟨0, bs, [], []⟩ = z → ∀ e : Str, endOf rows z = e → ∀ q0, H1 q0 = none → Q (.ref q0) (upd H1 q0 (.tup [.ref tl, .str e, .ref hd, .ref sn])) := fun hf e he q0 nq => by
      have s4 : Same H1 (upd H1 q0 (.tup [.ref tl, .str e, .ref hd, .ref sn])) := Same.new nq
      refine q _ q0 tl hd sn (sm.trans s4) nt0 nh ns0 ?_ ?_ ?_ ?_
      · rw [hf]; exact s4 _ _ gt
      · rw [hf]; exact s4 _ _ gh
      · rw [hf]; exact hsn.same s4
      · rw [hf, he]; exact upd_same
    have hxl := hRA.1
    refine ⟨_, rfl, _, rfl, rw_, xs, rfl, .inl (sm.seq hX), _, _, rfl, rfl, ?_⟩
    by_cases hp : z.place < (rows.length : Nat)
    case neg =>
      refine ⟨false, bl_of (decide_eq_false (by rw [hxl]; exact hp)), ?_⟩
      refine ⟨_, rfl, _, rfl, rw_, xs, rfl, .inl (sm.seq hX), _, _, rfl, rfl, false, bl_of (decide_eq_false (by rw [hxl]; exact hp)), ?_⟩
      exact ⟨_, rfl, _, rfl, _, rfl, sz_ok rfl, fun q0 nq => fin (hrun.symm.trans (runM_end hp _)) "over" (if_neg hp) q0 nq⟩
    refine ⟨true, bl_of (decide_eq_true (by rw [hxl]; exact hp)), ?_⟩
    by_cases hk2 : k < n
    case neg =>
      refine ⟨_, rfl, _, _, rfl, rfl, false, bl_of (decide_eq_false (by omega)), ?_⟩
      refine ⟨_, rfl, _, rfl, rw_, xs, rfl, .inl (sm.seq hX), _, _, rfl, rfl, true, bl_of (decide_eq_true (by rw [hxl]; exact hp)), ?_⟩
      exact ⟨_, rfl, _, rfl, _, rfl, sz_ok rfl, fun q0 nq => fin (hrun.symm.trans (by rw [show n - k = 0 by omega]; rfl)) "steps" (if_pos hp) q0 nq⟩
    refine ⟨_, rfl, _, _, rfl, rfl, true, bl_of (decide_eq_true (by omega)), ?_⟩
    refine ⟨_, fun _ _ h => h, ?_⟩
    have hj : z.place.toNat < rows.length := by omega
    obtain ⟨⟨wd, ns⟩, erow⟩ : ∃ r, rows[z.place.toNat]? = some r := ⟨_, List.getElem?_eq_getElem hj⟩
    obtain ⟨a, ea, hT0⟩ := hRA.2 _ _ erow
    have hT : SqT K H1 a (.str wd :: ns.map V.int) := sm.sqt hT0
    have hro0 := hRO _ (List.mem_of_getElem? erow)
    rw [← hbl] at hro0
    have hro : RowOk (z.bs.length : Nat) (rows.length : Nat) wd ns := hro0
    have hst : stepM rows z = ⟨nextOf wd ns (boxesOf wd ns z.bs) z.place, boxesOf wd ns z.bs, z.ts ++ touchesOf wd ns z.bs ++ nextT wd ns, z.tv ++ toldOf wd ns z.bs⟩ := by
      unfold stepM
      rw [erow]
    have hni := next_in (bs := boxesOf wd ns z.bs) hro hz0 hp
    have hl1 := touches_len wd ns z.bs
    have hl2 := nextT_len wd ns
    have hl3 := told_len wd ns z.bs
    have hbx := boxes_len wd ns z.bs
    have hro1 := hro
    have htw := touch_rw (bs := z.bs) hro
    have hbw := boxes_rw (bs := z.bs) hro
    have hwin := writes_in hro
    obtain ⟨PL, hPL⟩ : ∃ x, nextOf wd ns (boxesOf wd ns z.bs) z.place = x := ⟨_, rfl⟩
    obtain ⟨BX, hBX⟩ : ∃ x, boxesOf wd ns z.bs = x := ⟨_, rfl⟩
    obtain ⟨TD, hTD⟩ : ∃ x, toldOf wd ns z.bs = x := ⟨_, rfl⟩
    obtain ⟨RD, hRD⟩ : ∃ x, readsOf wd ns z.bs = x := ⟨_, rfl⟩
    obtain ⟨WR, hWR⟩ : ∃ x, writesOf wd ns z.bs = x := ⟨_, rfl⟩
    refine ⟨_, rfl, _, rfl, rw_, xs, _, .ref a, rfl, rfl, sm.seq hX, at_in hz0 ea, ?_⟩
    refine ⟨_, rfl, _, _, rfl, rfl, ?_⟩
    cases hro with
    | @set b nn m0 m1 m2 m3 =>
        refine ⟨_, rfl, _, _, _, .str _, rfl, rfl, hT, at_in (by decide) rfl, rfl, false, bl_of (by decide +kernel), ?_⟩
        refine ⟨_, rfl, _, _, _, .str _, rfl, rfl, hT, at_in (by decide) rfl, rfl, false, bl_of (by decide +kernel), ?_⟩
        refine ⟨_, rfl, _, _, _, .str _, rfl, rfl, hT, at_in (by decide) rfl, rfl, false, bl_of (by decide +kernel), ?_⟩
        have hS2 := sm
        have gh2 := gh
        have gt2 : H1 tl = some (.lst ((z.tv ++ TD).map V.int)) := by rw [← hTD]; exact (congrArg (fun l : List Int => some (HO.lst (l.map V.int))) (List.append_nil z.tv)).symm ▸ gt
        have hs2 := hsn
        have hT2 := hT
        have hpx : PL = z.place + 1 := hPL.symm.trans rfl
        refine ⟨_, rfl, _, rfl, a, hd, _, _, z.bs, _, rfl, hT2, SqL.of gh2, hro1, fun H3 p3 us t3 n3 g3 hW => ?_⟩
        rw [hWR] at hW
        have n3s : p3 ≠ sn := by
          obtain ⟨_, hu, _⟩ := id hs2
          exact (ne_of_none hu n3).symm
        have n3h : p3 ≠ hd := (ne_of_none gh2 n3).symm
        refine ⟨_, rfl, _, rfl, a, hd, _, _, z.bs, _, rfl, t3.sqt hT2, SqL.of (t3 _ _ gh2), hro1, fun H4 p4 t4 n4 g4 => ?_⟩
        rw [hRD] at g4
        have n4s : p4 ≠ sn := by
          obtain ⟨_, hu, _⟩ := id (hs2.same t3)
          exact (ne_of_none hu n4).symm
        have hrl : RD.length ≤ 2 := by rw [← hRD]; exact reads_len _ _ _
        refine ⟨p4, rfl, ⟨_, SqL.of g4⟩, for_list (xs := RD.map V.int) (fun i σ H' => (∃ v9, σ = [some (.ref rw_), some (.ref gb), some (.int ((n : Int) - (k : Int))), some (.ref hd), some (.ref tl), some (.ref sn), some (.int (z.place + 1)), some (.ref a), some (.ref p3), v9, v10]) ∧ H' p4 = some (.lst (RD.map V.int)) ∧ H' hd = some (.lst (z.bs.map V.int)) ∧ H' tl = some (.lst ((z.tv ++ TD).map V.int)) ∧ TchAt H' sn (z.ts ++ (RD.take i).map rdT) ∧ Same H H' ∧ H' p3 = some (.lst us) ∧ WAt H' us WR)
          ⟨⟨_, rfl⟩, g4, t4 _ _ (t3 _ _ gh2), t4 _ _ (t3 _ _ gt2), by rw [List.take_zero, List.map_nil, List.append_nil]; exact (hs2.same t3).same t4, (hS2.trans t3).trans t4, t4 _ _ g3, w_same hW t4⟩ (fun i σ H' _ h => SqL.of h.2.1) (fun i x σ H' hi h => ?_) (fun σ H' h => ?_)⟩
        · obtain ⟨⟨v9, rfl⟩, i4, ih, it, is_, im, i3, iw⟩ := h
          obtain ⟨b', hb', rfl⟩ : ∃ b', RD[i]? = some b' ∧ x = V.int b' := by
            rw [List.getElem?_map] at hi
            obtain ⟨b', e, e'⟩ := Option.map_eq_some_iff.mp hi
            exact ⟨b', e, e'.symm⟩
          obtain ⟨us', hu, hul, _⟩ := id is_
          refine ⟨_, rfl, .inl ⟨rfl, _, SqL.of hu⟩, _, rfl, sz_ok rfl, fun t nt => ?_⟩
          have st : Same H' (upd H' t (.tup [.str "read", .int b'])) := Same.new nt
          have gt_ : upd H' t (.tup [.str "read", .int b']) t = some (.tup (tchV (rdT b'))) := upd_same
          generalize upd H' t (.tup [.str "read", .int b']) = H5 at st gt_
          have hlen : us'.length ≤ 6000 := by
            rw [hul, List.length_append, List.length_map, List.length_take]
            omega
          have kp : ∀ q o, H5 q = some o → q ≠ sn → upd H5 sn (.lst (us' ++ [.ref t])) q = some o := fun q o e n => by
            rw [upd_ne n]
            exact e
          refine ⟨sn, us', _, rfl, rfl, st _ _ hu, Nat.lt_of_le_of_lt hlen (by decide), ⟨_, rfl⟩, kp _ _ (st _ _ i4) n4s, kp _ _ (st _ _ ih) e2, kp _ _ (st _ _ it) e3, ?_, (im.trans st).mut ns0, kp _ _ (st _ _ i3) n3s, w_keep (w_same iw st) (st _ _ hu) kp⟩
          rw [List.take_add_one, hb', List.map_append, ← List.append_assoc]
          exact (is_.same st).push (st _ _ hu) gt_
        · obtain ⟨⟨v9, rfl⟩, i4, ih, it, is_, im, i3, iw⟩ := h
          rw [List.length_map, List.take_length] at is_
          refine ⟨_, rfl, p3, rfl, ⟨_, SqL.of i3⟩, for_list (xs := us) (fun i σ H' => (∃ v10, σ = [some (.ref rw_), some (.ref gb), some (.int ((n : Int) - (k : Int))), some (.ref hd), some (.ref tl), some (.ref sn), some (.int (z.place + 1)), some (.ref a), some (.ref p3), v9, v10]) ∧ H' p3 = some (.lst us) ∧ H' hd = some (.lst (((WR.take i).foldl (fun l x => l.set x.1.toNat x.2) z.bs).map V.int)) ∧ H' tl = some (.lst ((z.tv ++ TD).map V.int)) ∧ TchAt H' sn (z.ts ++ RD.map rdT ++ (WR.take i).map wrT) ∧ Same H H' ∧ WAt H' us WR)
            ⟨⟨_, rfl⟩, i3, ih, it, by rw [List.take_zero, List.map_nil, List.append_nil]; exact is_, im, iw⟩ (fun i σ H' _ h => SqL.of h.2.1) (fun i x σ H' hi h => ?_) (fun σ H' h => ?_)⟩
          · obtain ⟨⟨v10, rfl⟩, j3, jh, jt, js, jm, jw⟩ := h
            obtain ⟨y, hy⟩ : ∃ y, WR[i]? = some y := ⟨_, List.getElem?_eq_getElem (by have := (List.getElem?_eq_some_iff.mp hi).1; have := jw.1; omega)⟩
            obtain ⟨q', eq1, hq'⟩ := jw.2 i y hy
            rw [hi] at eq1
            cases eq1
            have hyin := hwin y (by rw [hWR]; exact List.mem_of_getElem? hy)
            obtain ⟨us', hu, hul, _⟩ := id js
            refine ⟨_, rfl, .inl ⟨rfl, _, SqL.of hu⟩, _, rfl, _, _, _, .int _, rfl, rfl, SqT.of hq', at_in (by decide) rfl, sz_ok rfl, fun t nt => ?_⟩
            have st : Same H' (upd H' t (.tup [.str "write", .int y.1])) := Same.new nt
            have gt_ : upd H' t (.tup [.str "write", .int y.1]) t = some (.tup (tchV (wrT y))) := upd_same
            generalize upd H' t (.tup [.str "write", .int y.1]) = H5 at st gt_
            have hwl : WR.length ≤ 1 := by rw [← hWR]; exact writes_len _ _ _
            have hlen : us'.length ≤ 6000 := by
              rw [hul, List.length_append, List.length_append, List.length_map, List.length_map, List.length_take]
              omega
            have kp : ∀ q o, H5 q = some o → q ≠ sn → upd H5 sn (.lst (us' ++ [.ref t])) q = some o := fun q o e n => by
              rw [upd_ne n]
              exact e
            have ju : TchAt (upd H5 sn (.lst (us' ++ [.ref t]))) sn (z.ts ++ RD.map rdT ++ (WR.take (i + 1)).map wrT) := by
              rw [List.take_add_one, hy, List.map_append, ← List.append_assoc]
              exact (js.same st).push (st _ _ hu) gt_
            have jm2 := (jm.trans st).mut (o := .lst (us' ++ [.ref t])) ns0
            have jw2 := w_keep (w_same jw st) (st _ _ hu) kp
            have jh2 := kp _ _ (st _ _ jh) e2
            have jt2 := kp _ _ (st _ _ jt) e3
            have j32 := kp _ _ (st _ _ j3) n3s
            have hq2 := kp _ _ (st _ _ hq') fun z => by rw [z, hu] at hq'; cases hq'
            refine ⟨sn, us', _, rfl, rfl, st _ _ hu, Nat.lt_of_le_of_lt hlen (by decide), ?_⟩
            generalize upd H5 sn (.lst (us' ++ [.ref t])) = H6 at ju jm2 jw2 jh2 jt2 j32 hq2
            refine ⟨_, rfl, _, _, _, .int _, rfl, rfl, SqT.of hq2, at_in (by decide) rfl, _, rfl, _, rfl, _, _, _, .int _, rfl, rfl, SqT.of hq2, at_in (by decide) rfl, ?_⟩
            have hfl : ∀ (ws : List (Int × Int)) (l : List Int), (ws.foldl (fun l x => l.set x.1.toNat x.2) l).length = l.length := fun ws => by
              induction ws with
              | nil => exact fun l => rfl
              | cons x ws ih => exact fun l => (ih _).trans List.length_set
            refine ⟨hd, _, _, y.1.toNat, rfl, rfl, jh2, ?_, ?_⟩
            · unfold ixN
              rw [List.length_map, hfl, if_pos hyin.1, if_pos hyin.2]
            have kh : ∀ q o, H6 q = some o → q ≠ hd → ∀ u, upd H6 hd (.lst u) q = some o := fun q o e n u => by
              rw [upd_ne n]
              exact e
            refine ⟨⟨_, rfl⟩, kh _ _ j32 n3h _, ?_, kh _ _ jt2 e1.symm _, ju.keep jh2 e2 fun q o e n => kh _ _ e n _, jm2.mut nh, w_keep jw2 jh2 fun q o e n => kh _ _ e n _⟩
            rw [upd_same, List.take_add_one, hy, List.foldl_append]
            rw [show (some y).toList = [y] from rfl, List.foldl_cons, List.foldl_nil, List.map_set]
          · obtain ⟨⟨v10, rfl⟩, j3, jh, jt, js, jm, jw⟩ := h
            rw [jw.1, List.take_length] at jh js
            rw [← hWR, ← hRD, List.append_assoc, ← htw, ← List.append_assoc] at js
            rw [← hWR, ← hbw] at jh
            rw [← hTD] at jt
            refine ⟨_, rfl, _, _, rfl, rfl, ?_⟩
            rw [hPL, hpx] at hni hst
            refine ⟨n - (k + 1), by omega, k + 1, ⟨_, _, _, _⟩, _, _, _, _, rfl, by omega, by rw [show ((n : Int) - (((k + 1 : Nat)) : Int)) = (n : Int) - (k : Int) - 1 by omega]; rfl, ?_, hni.1, hni.2, hbx.trans hbl, ?_, ?_, jm, jh, jt, js⟩
            · refine Eq.trans (congrArg (runM rows (n - (k + 1))) (show _ = stepM rows z from hst.symm)) ?_
              rw [← hrun, show n - k = (n - (k + 1)) + 1 by omega]
              exact (if_pos hp).symm
            · simp only [List.length_append]
              omega
            · simp only [List.length_append]
              omega
    | @copy b o b0 b1 o0 o1 =>
        refine ⟨_, rfl, _, _, _, .str _, rfl, rfl, hT, at_in (by decide) rfl, rfl, false, bl_of (by decide +kernel), ?_⟩
        refine ⟨_, rfl, _, _, _, .str _, rfl, rfl, hT, at_in (by decide) rfl, rfl, false, bl_of (by decide +kernel), ?_⟩
        refine ⟨_, rfl, _, _, _, .str _, rfl, rfl, hT, at_in (by decide) rfl, rfl, false, bl_of (by decide +kernel), ?_⟩
        have hS2 := sm
        have gh2 := gh
        have gt2 : H1 tl = some (.lst ((z.tv ++ TD).map V.int)) := by rw [← hTD]; exact (congrArg (fun l : List Int => some (HO.lst (l.map V.int))) (List.append_nil z.tv)).symm ▸ gt
        have hs2 := hsn
        have hT2 := hT
        have hpx : PL = z.place + 1 := hPL.symm.trans rfl
        refine ⟨_, rfl, _, rfl, a, hd, _, _, z.bs, _, rfl, hT2, SqL.of gh2, hro1, fun H3 p3 us t3 n3 g3 hW => ?_⟩
        rw [hWR] at hW
        have n3s : p3 ≠ sn := by
          obtain ⟨_, hu, _⟩ := id hs2
          exact (ne_of_none hu n3).symm
        have n3h : p3 ≠ hd := (ne_of_none gh2 n3).symm
        refine ⟨_, rfl, _, rfl, a, hd, _, _, z.bs, _, rfl, t3.sqt hT2, SqL.of (t3 _ _ gh2), hro1, fun H4 p4 t4 n4 g4 => ?_⟩
        rw [hRD] at g4
        have n4s : p4 ≠ sn := by
          obtain ⟨_, hu, _⟩ := id (hs2.same t3)
          exact (ne_of_none hu n4).symm
        have hrl : RD.length ≤ 2 := by rw [← hRD]; exact reads_len _ _ _
        refine ⟨p4, rfl, ⟨_, SqL.of g4⟩, for_list (xs := RD.map V.int) (fun i σ H' => (∃ v9, σ = [some (.ref rw_), some (.ref gb), some (.int ((n : Int) - (k : Int))), some (.ref hd), some (.ref tl), some (.ref sn), some (.int (z.place + 1)), some (.ref a), some (.ref p3), v9, v10]) ∧ H' p4 = some (.lst (RD.map V.int)) ∧ H' hd = some (.lst (z.bs.map V.int)) ∧ H' tl = some (.lst ((z.tv ++ TD).map V.int)) ∧ TchAt H' sn (z.ts ++ (RD.take i).map rdT) ∧ Same H H' ∧ H' p3 = some (.lst us) ∧ WAt H' us WR)
          ⟨⟨_, rfl⟩, g4, t4 _ _ (t3 _ _ gh2), t4 _ _ (t3 _ _ gt2), by rw [List.take_zero, List.map_nil, List.append_nil]; exact (hs2.same t3).same t4, (hS2.trans t3).trans t4, t4 _ _ g3, w_same hW t4⟩ (fun i σ H' _ h => SqL.of h.2.1) (fun i x σ H' hi h => ?_) (fun σ H' h => ?_)⟩
        · obtain ⟨⟨v9, rfl⟩, i4, ih, it, is_, im, i3, iw⟩ := h
          obtain ⟨b', hb', rfl⟩ : ∃ b', RD[i]? = some b' ∧ x = V.int b' := by
            rw [List.getElem?_map] at hi
            obtain ⟨b', e, e'⟩ := Option.map_eq_some_iff.mp hi
            exact ⟨b', e, e'.symm⟩
          obtain ⟨us', hu, hul, _⟩ := id is_
          refine ⟨_, rfl, .inl ⟨rfl, _, SqL.of hu⟩, _, rfl, sz_ok rfl, fun t nt => ?_⟩
          have st : Same H' (upd H' t (.tup [.str "read", .int b'])) := Same.new nt
          have gt_ : upd H' t (.tup [.str "read", .int b']) t = some (.tup (tchV (rdT b'))) := upd_same
          generalize upd H' t (.tup [.str "read", .int b']) = H5 at st gt_
          have hlen : us'.length ≤ 6000 := by
            rw [hul, List.length_append, List.length_map, List.length_take]
            omega
          have kp : ∀ q o, H5 q = some o → q ≠ sn → upd H5 sn (.lst (us' ++ [.ref t])) q = some o := fun q o e n => by
            rw [upd_ne n]
            exact e
          refine ⟨sn, us', _, rfl, rfl, st _ _ hu, Nat.lt_of_le_of_lt hlen (by decide), ⟨_, rfl⟩, kp _ _ (st _ _ i4) n4s, kp _ _ (st _ _ ih) e2, kp _ _ (st _ _ it) e3, ?_, (im.trans st).mut ns0, kp _ _ (st _ _ i3) n3s, w_keep (w_same iw st) (st _ _ hu) kp⟩
          rw [List.take_add_one, hb', List.map_append, ← List.append_assoc]
          exact (is_.same st).push (st _ _ hu) gt_
        · obtain ⟨⟨v9, rfl⟩, i4, ih, it, is_, im, i3, iw⟩ := h
          rw [List.length_map, List.take_length] at is_
          refine ⟨_, rfl, p3, rfl, ⟨_, SqL.of i3⟩, for_list (xs := us) (fun i σ H' => (∃ v10, σ = [some (.ref rw_), some (.ref gb), some (.int ((n : Int) - (k : Int))), some (.ref hd), some (.ref tl), some (.ref sn), some (.int (z.place + 1)), some (.ref a), some (.ref p3), v9, v10]) ∧ H' p3 = some (.lst us) ∧ H' hd = some (.lst (((WR.take i).foldl (fun l x => l.set x.1.toNat x.2) z.bs).map V.int)) ∧ H' tl = some (.lst ((z.tv ++ TD).map V.int)) ∧ TchAt H' sn (z.ts ++ RD.map rdT ++ (WR.take i).map wrT) ∧ Same H H' ∧ WAt H' us WR)
            ⟨⟨_, rfl⟩, i3, ih, it, by rw [List.take_zero, List.map_nil, List.append_nil]; exact is_, im, iw⟩ (fun i σ H' _ h => SqL.of h.2.1) (fun i x σ H' hi h => ?_) (fun σ H' h => ?_)⟩
          · obtain ⟨⟨v10, rfl⟩, j3, jh, jt, js, jm, jw⟩ := h
            obtain ⟨y, hy⟩ : ∃ y, WR[i]? = some y := ⟨_, List.getElem?_eq_getElem (by have := (List.getElem?_eq_some_iff.mp hi).1; have := jw.1; omega)⟩
            obtain ⟨q', eq1, hq'⟩ := jw.2 i y hy
            rw [hi] at eq1
            cases eq1
            have hyin := hwin y (by rw [hWR]; exact List.mem_of_getElem? hy)
            obtain ⟨us', hu, hul, _⟩ := id js
            refine ⟨_, rfl, .inl ⟨rfl, _, SqL.of hu⟩, _, rfl, _, _, _, .int _, rfl, rfl, SqT.of hq', at_in (by decide) rfl, sz_ok rfl, fun t nt => ?_⟩
            have st : Same H' (upd H' t (.tup [.str "write", .int y.1])) := Same.new nt
            have gt_ : upd H' t (.tup [.str "write", .int y.1]) t = some (.tup (tchV (wrT y))) := upd_same
            generalize upd H' t (.tup [.str "write", .int y.1]) = H5 at st gt_
            have hwl : WR.length ≤ 1 := by rw [← hWR]; exact writes_len _ _ _
            have hlen : us'.length ≤ 6000 := by
              rw [hul, List.length_append, List.length_append, List.length_map, List.length_map, List.length_take]
              omega
            have kp : ∀ q o, H5 q = some o → q ≠ sn → upd H5 sn (.lst (us' ++ [.ref t])) q = some o := fun q o e n => by
              rw [upd_ne n]
              exact e
            have ju : TchAt (upd H5 sn (.lst (us' ++ [.ref t]))) sn (z.ts ++ RD.map rdT ++ (WR.take (i + 1)).map wrT) := by
              rw [List.take_add_one, hy, List.map_append, ← List.append_assoc]
              exact (js.same st).push (st _ _ hu) gt_
            have jm2 := (jm.trans st).mut (o := .lst (us' ++ [.ref t])) ns0
            have jw2 := w_keep (w_same jw st) (st _ _ hu) kp
            have jh2 := kp _ _ (st _ _ jh) e2
            have jt2 := kp _ _ (st _ _ jt) e3
            have j32 := kp _ _ (st _ _ j3) n3s
            have hq2 := kp _ _ (st _ _ hq') fun z => by rw [z, hu] at hq'; cases hq'
            refine ⟨sn, us', _, rfl, rfl, st _ _ hu, Nat.lt_of_le_of_lt hlen (by decide), ?_⟩
            generalize upd H5 sn (.lst (us' ++ [.ref t])) = H6 at ju jm2 jw2 jh2 jt2 j32 hq2
            refine ⟨_, rfl, _, _, _, .int _, rfl, rfl, SqT.of hq2, at_in (by decide) rfl, _, rfl, _, rfl, _, _, _, .int _, rfl, rfl, SqT.of hq2, at_in (by decide) rfl, ?_⟩
            have hfl : ∀ (ws : List (Int × Int)) (l : List Int), (ws.foldl (fun l x => l.set x.1.toNat x.2) l).length = l.length := fun ws => by
              induction ws with
              | nil => exact fun l => rfl
              | cons x ws ih => exact fun l => (ih _).trans List.length_set
            refine ⟨hd, _, _, y.1.toNat, rfl, rfl, jh2, ?_, ?_⟩
            · unfold ixN
              rw [List.length_map, hfl, if_pos hyin.1, if_pos hyin.2]
            have kh : ∀ q o, H6 q = some o → q ≠ hd → ∀ u, upd H6 hd (.lst u) q = some o := fun q o e n u => by
              rw [upd_ne n]
              exact e
            refine ⟨⟨_, rfl⟩, kh _ _ j32 n3h _, ?_, kh _ _ jt2 e1.symm _, ju.keep jh2 e2 fun q o e n => kh _ _ e n _, jm2.mut nh, w_keep jw2 jh2 fun q o e n => kh _ _ e n _⟩
            rw [upd_same, List.take_add_one, hy, List.foldl_append]
            rw [show (some y).toList = [y] from rfl, List.foldl_cons, List.foldl_nil, List.map_set]
          · obtain ⟨⟨v10, rfl⟩, j3, jh, jt, js, jm, jw⟩ := h
            rw [jw.1, List.take_length] at jh js
            rw [← hWR, ← hRD, List.append_assoc, ← htw, ← List.append_assoc] at js
            rw [← hWR, ← hbw] at jh
            rw [← hTD] at jt
            refine ⟨_, rfl, _, _, rfl, rfl, ?_⟩
            rw [hPL, hpx] at hni hst
            refine ⟨n - (k + 1), by omega, k + 1, ⟨_, _, _, _⟩, _, _, _, _, rfl, by omega, by rw [show ((n : Int) - (((k + 1 : Nat)) : Int)) = (n : Int) - (k : Int) - 1 by omega]; rfl, ?_, hni.1, hni.2, hbx.trans hbl, ?_, ?_, jm, jh, jt, js⟩
            · refine Eq.trans (congrArg (runM rows (n - (k + 1))) (show _ = stepM rows z from hst.symm)) ?_
              rw [← hrun, show n - k = (n - (k + 1)) + 1 by omega]
              exact (if_pos hp).symm
            · simp only [List.length_append]
              omega
            · simp only [List.length_append]
              omega
    | @add b o t b0 b1 o0 o1 t0 t1 =>
        refine ⟨_, rfl, _, _, _, .str _, rfl, rfl, hT, at_in (by decide) rfl, rfl, false, bl_of (by decide +kernel), ?_⟩
        refine ⟨_, rfl, _, _, _, .str _, rfl, rfl, hT, at_in (by decide) rfl, rfl, false, bl_of (by decide +kernel), ?_⟩
        refine ⟨_, rfl, _, _, _, .str _, rfl, rfl, hT, at_in (by decide) rfl, rfl, false, bl_of (by decide +kernel), ?_⟩
        have hS2 := sm
        have gh2 := gh
        have gt2 : H1 tl = some (.lst ((z.tv ++ TD).map V.int)) := by rw [← hTD]; exact (congrArg (fun l : List Int => some (HO.lst (l.map V.int))) (List.append_nil z.tv)).symm ▸ gt
        have hs2 := hsn
        have hT2 := hT
        have hpx : PL = z.place + 1 := hPL.symm.trans rfl
        refine ⟨_, rfl, _, rfl, a, hd, _, _, z.bs, _, rfl, hT2, SqL.of gh2, hro1, fun H3 p3 us t3 n3 g3 hW => ?_⟩
        rw [hWR] at hW
        have n3s : p3 ≠ sn := by
          obtain ⟨_, hu, _⟩ := id hs2
          exact (ne_of_none hu n3).symm
        have n3h : p3 ≠ hd := (ne_of_none gh2 n3).symm
        refine ⟨_, rfl, _, rfl, a, hd, _, _, z.bs, _, rfl, t3.sqt hT2, SqL.of (t3 _ _ gh2), hro1, fun H4 p4 t4 n4 g4 => ?_⟩
        rw [hRD] at g4
        have n4s : p4 ≠ sn := by
          obtain ⟨_, hu, _⟩ := id (hs2.same t3)
          exact (ne_of_none hu n4).symm
        have hrl : RD.length ≤ 2 := by rw [← hRD]; exact reads_len _ _ _
        refine ⟨p4, rfl, ⟨_, SqL.of g4⟩, for_list (xs := RD.map V.int) (fun i σ H' => (∃ v9, σ = [some (.ref rw_), some (.ref gb), some (.int ((n : Int) - (k : Int))), some (.ref hd), some (.ref tl), some (.ref sn), some (.int (z.place + 1)), some (.ref a), some (.ref p3), v9, v10]) ∧ H' p4 = some (.lst (RD.map V.int)) ∧ H' hd = some (.lst (z.bs.map V.int)) ∧ H' tl = some (.lst ((z.tv ++ TD).map V.int)) ∧ TchAt H' sn (z.ts ++ (RD.take i).map rdT) ∧ Same H H' ∧ H' p3 = some (.lst us) ∧ WAt H' us WR)
          ⟨⟨_, rfl⟩, g4, t4 _ _ (t3 _ _ gh2), t4 _ _ (t3 _ _ gt2), by rw [List.take_zero, List.map_nil, List.append_nil]; exact (hs2.same t3).same t4, (hS2.trans t3).trans t4, t4 _ _ g3, w_same hW t4⟩ (fun i σ H' _ h => SqL.of h.2.1) (fun i x σ H' hi h => ?_) (fun σ H' h => ?_)⟩
        · obtain ⟨⟨v9, rfl⟩, i4, ih, it, is_, im, i3, iw⟩ := h
          obtain ⟨b', hb', rfl⟩ : ∃ b', RD[i]? = some b' ∧ x = V.int b' := by
            rw [List.getElem?_map] at hi
            obtain ⟨b', e, e'⟩ := Option.map_eq_some_iff.mp hi
            exact ⟨b', e, e'.symm⟩
          obtain ⟨us', hu, hul, _⟩ := id is_
          refine ⟨_, rfl, .inl ⟨rfl, _, SqL.of hu⟩, _, rfl, sz_ok rfl, fun t nt => ?_⟩
          have st : Same H' (upd H' t (.tup [.str "read", .int b'])) := Same.new nt
          have gt_ : upd H' t (.tup [.str "read", .int b']) t = some (.tup (tchV (rdT b'))) := upd_same
          generalize upd H' t (.tup [.str "read", .int b']) = H5 at st gt_
          have hlen : us'.length ≤ 6000 := by
            rw [hul, List.length_append, List.length_map, List.length_take]
            omega
          have kp : ∀ q o, H5 q = some o → q ≠ sn → upd H5 sn (.lst (us' ++ [.ref t])) q = some o := fun q o e n => by
            rw [upd_ne n]
            exact e
          refine ⟨sn, us', _, rfl, rfl, st _ _ hu, Nat.lt_of_le_of_lt hlen (by decide), ⟨_, rfl⟩, kp _ _ (st _ _ i4) n4s, kp _ _ (st _ _ ih) e2, kp _ _ (st _ _ it) e3, ?_, (im.trans st).mut ns0, kp _ _ (st _ _ i3) n3s, w_keep (w_same iw st) (st _ _ hu) kp⟩
          rw [List.take_add_one, hb', List.map_append, ← List.append_assoc]
          exact (is_.same st).push (st _ _ hu) gt_
        · obtain ⟨⟨v9, rfl⟩, i4, ih, it, is_, im, i3, iw⟩ := h
          rw [List.length_map, List.take_length] at is_
          refine ⟨_, rfl, p3, rfl, ⟨_, SqL.of i3⟩, for_list (xs := us) (fun i σ H' => (∃ v10, σ = [some (.ref rw_), some (.ref gb), some (.int ((n : Int) - (k : Int))), some (.ref hd), some (.ref tl), some (.ref sn), some (.int (z.place + 1)), some (.ref a), some (.ref p3), v9, v10]) ∧ H' p3 = some (.lst us) ∧ H' hd = some (.lst (((WR.take i).foldl (fun l x => l.set x.1.toNat x.2) z.bs).map V.int)) ∧ H' tl = some (.lst ((z.tv ++ TD).map V.int)) ∧ TchAt H' sn (z.ts ++ RD.map rdT ++ (WR.take i).map wrT) ∧ Same H H' ∧ WAt H' us WR)
            ⟨⟨_, rfl⟩, i3, ih, it, by rw [List.take_zero, List.map_nil, List.append_nil]; exact is_, im, iw⟩ (fun i σ H' _ h => SqL.of h.2.1) (fun i x σ H' hi h => ?_) (fun σ H' h => ?_)⟩
          · obtain ⟨⟨v10, rfl⟩, j3, jh, jt, js, jm, jw⟩ := h
            obtain ⟨y, hy⟩ : ∃ y, WR[i]? = some y := ⟨_, List.getElem?_eq_getElem (by have := (List.getElem?_eq_some_iff.mp hi).1; have := jw.1; omega)⟩
            obtain ⟨q', eq1, hq'⟩ := jw.2 i y hy
            rw [hi] at eq1
            cases eq1
            have hyin := hwin y (by rw [hWR]; exact List.mem_of_getElem? hy)
            obtain ⟨us', hu, hul, _⟩ := id js
            refine ⟨_, rfl, .inl ⟨rfl, _, SqL.of hu⟩, _, rfl, _, _, _, .int _, rfl, rfl, SqT.of hq', at_in (by decide) rfl, sz_ok rfl, fun t nt => ?_⟩
            have st : Same H' (upd H' t (.tup [.str "write", .int y.1])) := Same.new nt
            have gt_ : upd H' t (.tup [.str "write", .int y.1]) t = some (.tup (tchV (wrT y))) := upd_same
            generalize upd H' t (.tup [.str "write", .int y.1]) = H5 at st gt_
            have hwl : WR.length ≤ 1 := by rw [← hWR]; exact writes_len _ _ _
            have hlen : us'.length ≤ 6000 := by
              rw [hul, List.length_append, List.length_append, List.length_map, List.length_map, List.length_take]
              omega
            have kp : ∀ q o, H5 q = some o → q ≠ sn → upd H5 sn (.lst (us' ++ [.ref t])) q = some o := fun q o e n => by
              rw [upd_ne n]
              exact e
            have ju : TchAt (upd H5 sn (.lst (us' ++ [.ref t]))) sn (z.ts ++ RD.map rdT ++ (WR.take (i + 1)).map wrT) := by
              rw [List.take_add_one, hy, List.map_append, ← List.append_assoc]
              exact (js.same st).push (st _ _ hu) gt_
            have jm2 := (jm.trans st).mut (o := .lst (us' ++ [.ref t])) ns0
            have jw2 := w_keep (w_same jw st) (st _ _ hu) kp
            have jh2 := kp _ _ (st _ _ jh) e2
            have jt2 := kp _ _ (st _ _ jt) e3
            have j32 := kp _ _ (st _ _ j3) n3s
            have hq2 := kp _ _ (st _ _ hq') fun z => by rw [z, hu] at hq'; cases hq'
            refine ⟨sn, us', _, rfl, rfl, st _ _ hu, Nat.lt_of_le_of_lt hlen (by decide), ?_⟩
            generalize upd H5 sn (.lst (us' ++ [.ref t])) = H6 at ju jm2 jw2 jh2 jt2 j32 hq2
            refine ⟨_, rfl, _, _, _, .int _, rfl, rfl, SqT.of hq2, at_in (by decide) rfl, _, rfl, _, rfl, _, _, _, .int _, rfl, rfl, SqT.of hq2, at_in (by decide) rfl, ?_⟩
            have hfl : ∀ (ws : List (Int × Int)) (l : List Int), (ws.foldl (fun l x => l.set x.1.toNat x.2) l).length = l.length := fun ws => by
              induction ws with
              | nil => exact fun l => rfl
              | cons x ws ih => exact fun l => (ih _).trans List.length_set
            refine ⟨hd, _, _, y.1.toNat, rfl, rfl, jh2, ?_, ?_⟩
            · unfold ixN
              rw [List.length_map, hfl, if_pos hyin.1, if_pos hyin.2]
            have kh : ∀ q o, H6 q = some o → q ≠ hd → ∀ u, upd H6 hd (.lst u) q = some o := fun q o e n u => by
              rw [upd_ne n]
              exact e
            refine ⟨⟨_, rfl⟩, kh _ _ j32 n3h _, ?_, kh _ _ jt2 e1.symm _, ju.keep jh2 e2 fun q o e n => kh _ _ e n _, jm2.mut nh, w_keep jw2 jh2 fun q o e n => kh _ _ e n _⟩
            rw [upd_same, List.take_add_one, hy, List.foldl_append]
            rw [show (some y).toList = [y] from rfl, List.foldl_cons, List.foldl_nil, List.map_set]
          · obtain ⟨⟨v10, rfl⟩, j3, jh, jt, js, jm, jw⟩ := h
            rw [jw.1, List.take_length] at jh js
            rw [← hWR, ← hRD, List.append_assoc, ← htw, ← List.append_assoc] at js
            rw [← hWR, ← hbw] at jh
            rw [← hTD] at jt
            refine ⟨_, rfl, _, _, rfl, rfl, ?_⟩
            rw [hPL, hpx] at hni hst
            refine ⟨n - (k + 1), by omega, k + 1, ⟨_, _, _, _⟩, _, _, _, _, rfl, by omega, by rw [show ((n : Int) - (((k + 1 : Nat)) : Int)) = (n : Int) - (k : Int) - 1 by omega]; rfl, ?_, hni.1, hni.2, hbx.trans hbl, ?_, ?_, jm, jh, jt, js⟩
            · refine Eq.trans (congrArg (runM rows (n - (k + 1))) (show _ = stepM rows z from hst.symm)) ?_
              rw [← hrun, show n - k = (n - (k + 1)) + 1 by omega]
              exact (if_pos hp).symm
            · simp only [List.length_append]
              omega
            · simp only [List.length_append]
              omega
    | @sub b o t b0 b1 o0 o1 t0 t1 =>
        refine ⟨_, rfl, _, _, _, .str _, rfl, rfl, hT, at_in (by decide) rfl, rfl, false, bl_of (by decide +kernel), ?_⟩
        refine ⟨_, rfl, _, _, _, .str _, rfl, rfl, hT, at_in (by decide) rfl, rfl, false, bl_of (by decide +kernel), ?_⟩
        refine ⟨_, rfl, _, _, _, .str _, rfl, rfl, hT, at_in (by decide) rfl, rfl, false, bl_of (by decide +kernel), ?_⟩
        have hS2 := sm
        have gh2 := gh
        have gt2 : H1 tl = some (.lst ((z.tv ++ TD).map V.int)) := by rw [← hTD]; exact (congrArg (fun l : List Int => some (HO.lst (l.map V.int))) (List.append_nil z.tv)).symm ▸ gt
        have hs2 := hsn
        have hT2 := hT
        have hpx : PL = z.place + 1 := hPL.symm.trans rfl
        refine ⟨_, rfl, _, rfl, a, hd, _, _, z.bs, _, rfl, hT2, SqL.of gh2, hro1, fun H3 p3 us t3 n3 g3 hW => ?_⟩
        rw [hWR] at hW
        have n3s : p3 ≠ sn := by
          obtain ⟨_, hu, _⟩ := id hs2
          exact (ne_of_none hu n3).symm
        have n3h : p3 ≠ hd := (ne_of_none gh2 n3).symm
        refine ⟨_, rfl, _, rfl, a, hd, _, _, z.bs, _, rfl, t3.sqt hT2, SqL.of (t3 _ _ gh2), hro1, fun H4 p4 t4 n4 g4 => ?_⟩
        rw [hRD] at g4
        have n4s : p4 ≠ sn := by
          obtain ⟨_, hu, _⟩ := id (hs2.same t3)
          exact (ne_of_none hu n4).symm
        have hrl : RD.length ≤ 2 := by rw [← hRD]; exact reads_len _ _ _
        refine ⟨p4, rfl, ⟨_, SqL.of g4⟩, for_list (xs := RD.map V.int) (fun i σ H' => (∃ v9, σ = [some (.ref rw_), some (.ref gb), some (.int ((n : Int) - (k : Int))), some (.ref hd), some (.ref tl), some (.ref sn), some (.int (z.place + 1)), some (.ref a), some (.ref p3), v9, v10]) ∧ H' p4 = some (.lst (RD.map V.int)) ∧ H' hd = some (.lst (z.bs.map V.int)) ∧ H' tl = some (.lst ((z.tv ++ TD).map V.int)) ∧ TchAt H' sn (z.ts ++ (RD.take i).map rdT) ∧ Same H H' ∧ H' p3 = some (.lst us) ∧ WAt H' us WR)
          ⟨⟨_, rfl⟩, g4, t4 _ _ (t3 _ _ gh2), t4 _ _ (t3 _ _ gt2), by rw [List.take_zero, List.map_nil, List.append_nil]; exact (hs2.same t3).same t4, (hS2.trans t3).trans t4, t4 _ _ g3, w_same hW t4⟩ (fun i σ H' _ h => SqL.of h.2.1) (fun i x σ H' hi h => ?_) (fun σ H' h => ?_)⟩
        · obtain ⟨⟨v9, rfl⟩, i4, ih, it, is_, im, i3, iw⟩ := h
          obtain ⟨b', hb', rfl⟩ : ∃ b', RD[i]? = some b' ∧ x = V.int b' := by
            rw [List.getElem?_map] at hi
            obtain ⟨b', e, e'⟩ := Option.map_eq_some_iff.mp hi
            exact ⟨b', e, e'.symm⟩
          obtain ⟨us', hu, hul, _⟩ := id is_
          refine ⟨_, rfl, .inl ⟨rfl, _, SqL.of hu⟩, _, rfl, sz_ok rfl, fun t nt => ?_⟩
          have st : Same H' (upd H' t (.tup [.str "read", .int b'])) := Same.new nt
          have gt_ : upd H' t (.tup [.str "read", .int b']) t = some (.tup (tchV (rdT b'))) := upd_same
          generalize upd H' t (.tup [.str "read", .int b']) = H5 at st gt_
          have hlen : us'.length ≤ 6000 := by
            rw [hul, List.length_append, List.length_map, List.length_take]
            omega
          have kp : ∀ q o, H5 q = some o → q ≠ sn → upd H5 sn (.lst (us' ++ [.ref t])) q = some o := fun q o e n => by
            rw [upd_ne n]
            exact e
          refine ⟨sn, us', _, rfl, rfl, st _ _ hu, Nat.lt_of_le_of_lt hlen (by decide), ⟨_, rfl⟩, kp _ _ (st _ _ i4) n4s, kp _ _ (st _ _ ih) e2, kp _ _ (st _ _ it) e3, ?_, (im.trans st).mut ns0, kp _ _ (st _ _ i3) n3s, w_keep (w_same iw st) (st _ _ hu) kp⟩
          rw [List.take_add_one, hb', List.map_append, ← List.append_assoc]
          exact (is_.same st).push (st _ _ hu) gt_
        · obtain ⟨⟨v9, rfl⟩, i4, ih, it, is_, im, i3, iw⟩ := h
          rw [List.length_map, List.take_length] at is_
          refine ⟨_, rfl, p3, rfl, ⟨_, SqL.of i3⟩, for_list (xs := us) (fun i σ H' => (∃ v10, σ = [some (.ref rw_), some (.ref gb), some (.int ((n : Int) - (k : Int))), some (.ref hd), some (.ref tl), some (.ref sn), some (.int (z.place + 1)), some (.ref a), some (.ref p3), v9, v10]) ∧ H' p3 = some (.lst us) ∧ H' hd = some (.lst (((WR.take i).foldl (fun l x => l.set x.1.toNat x.2) z.bs).map V.int)) ∧ H' tl = some (.lst ((z.tv ++ TD).map V.int)) ∧ TchAt H' sn (z.ts ++ RD.map rdT ++ (WR.take i).map wrT) ∧ Same H H' ∧ WAt H' us WR)
            ⟨⟨_, rfl⟩, i3, ih, it, by rw [List.take_zero, List.map_nil, List.append_nil]; exact is_, im, iw⟩ (fun i σ H' _ h => SqL.of h.2.1) (fun i x σ H' hi h => ?_) (fun σ H' h => ?_)⟩
          · obtain ⟨⟨v10, rfl⟩, j3, jh, jt, js, jm, jw⟩ := h
            obtain ⟨y, hy⟩ : ∃ y, WR[i]? = some y := ⟨_, List.getElem?_eq_getElem (by have := (List.getElem?_eq_some_iff.mp hi).1; have := jw.1; omega)⟩
            obtain ⟨q', eq1, hq'⟩ := jw.2 i y hy
            rw [hi] at eq1
            cases eq1
            have hyin := hwin y (by rw [hWR]; exact List.mem_of_getElem? hy)
            obtain ⟨us', hu, hul, _⟩ := id js
            refine ⟨_, rfl, .inl ⟨rfl, _, SqL.of hu⟩, _, rfl, _, _, _, .int _, rfl, rfl, SqT.of hq', at_in (by decide) rfl, sz_ok rfl, fun t nt => ?_⟩
            have st : Same H' (upd H' t (.tup [.str "write", .int y.1])) := Same.new nt
            have gt_ : upd H' t (.tup [.str "write", .int y.1]) t = some (.tup (tchV (wrT y))) := upd_same
            generalize upd H' t (.tup [.str "write", .int y.1]) = H5 at st gt_
            have hwl : WR.length ≤ 1 := by rw [← hWR]; exact writes_len _ _ _
            have hlen : us'.length ≤ 6000 := by
              rw [hul, List.length_append, List.length_append, List.length_map, List.length_map, List.length_take]
              omega
            have kp : ∀ q o, H5 q = some o → q ≠ sn → upd H5 sn (.lst (us' ++ [.ref t])) q = some o := fun q o e n => by
              rw [upd_ne n]
              exact e
            have ju : TchAt (upd H5 sn (.lst (us' ++ [.ref t]))) sn (z.ts ++ RD.map rdT ++ (WR.take (i + 1)).map wrT) := by
              rw [List.take_add_one, hy, List.map_append, ← List.append_assoc]
              exact (js.same st).push (st _ _ hu) gt_
            have jm2 := (jm.trans st).mut (o := .lst (us' ++ [.ref t])) ns0
            have jw2 := w_keep (w_same jw st) (st _ _ hu) kp
            have jh2 := kp _ _ (st _ _ jh) e2
            have jt2 := kp _ _ (st _ _ jt) e3
            have j32 := kp _ _ (st _ _ j3) n3s
            have hq2 := kp _ _ (st _ _ hq') fun z => by rw [z, hu] at hq'; cases hq'
            refine ⟨sn, us', _, rfl, rfl, st _ _ hu, Nat.lt_of_le_of_lt hlen (by decide), ?_⟩
            generalize upd H5 sn (.lst (us' ++ [.ref t])) = H6 at ju jm2 jw2 jh2 jt2 j32 hq2
            refine ⟨_, rfl, _, _, _, .int _, rfl, rfl, SqT.of hq2, at_in (by decide) rfl, _, rfl, _, rfl, _, _, _, .int _, rfl, rfl, SqT.of hq2, at_in (by decide) rfl, ?_⟩
            have hfl : ∀ (ws : List (Int × Int)) (l : List Int), (ws.foldl (fun l x => l.set x.1.toNat x.2) l).length = l.length := fun ws => by
              induction ws with
              | nil => exact fun l => rfl
              | cons x ws ih => exact fun l => (ih _).trans List.length_set
            refine ⟨hd, _, _, y.1.toNat, rfl, rfl, jh2, ?_, ?_⟩
            · unfold ixN
              rw [List.length_map, hfl, if_pos hyin.1, if_pos hyin.2]
            have kh : ∀ q o, H6 q = some o → q ≠ hd → ∀ u, upd H6 hd (.lst u) q = some o := fun q o e n u => by
              rw [upd_ne n]
              exact e
            refine ⟨⟨_, rfl⟩, kh _ _ j32 n3h _, ?_, kh _ _ jt2 e1.symm _, ju.keep jh2 e2 fun q o e n => kh _ _ e n _, jm2.mut nh, w_keep jw2 jh2 fun q o e n => kh _ _ e n _⟩
            rw [upd_same, List.take_add_one, hy, List.foldl_append]
            rw [show (some y).toList = [y] from rfl, List.foldl_cons, List.foldl_nil, List.map_set]
          · obtain ⟨⟨v10, rfl⟩, j3, jh, jt, js, jm, jw⟩ := h
            rw [jw.1, List.take_length] at jh js
            rw [← hWR, ← hRD, List.append_assoc, ← htw, ← List.append_assoc] at js
            rw [← hWR, ← hbw] at jh
            rw [← hTD] at jt
            refine ⟨_, rfl, _, _, rfl, rfl, ?_⟩
            rw [hPL, hpx] at hni hst
            refine ⟨n - (k + 1), by omega, k + 1, ⟨_, _, _, _⟩, _, _, _, _, rfl, by omega, by rw [show ((n : Int) - (((k + 1 : Nat)) : Int)) = (n : Int) - (k : Int) - 1 by omega]; rfl, ?_, hni.1, hni.2, hbx.trans hbl, ?_, ?_, jm, jh, jt, js⟩
            · refine Eq.trans (congrArg (runM rows (n - (k + 1))) (show _ = stepM rows z from hst.symm)) ?_
              rw [← hrun, show n - k = (n - (k + 1)) + 1 by omega]
              exact (if_pos hp).symm
            · simp only [List.length_append]
              omega
            · simp only [List.length_append]
              omega
    | @fetch b o b0 b1 o0 o1 =>
        refine ⟨_, rfl, _, _, _, .str _, rfl, rfl, hT, at_in (by decide) rfl, rfl, false, bl_of (by decide +kernel), ?_⟩
        refine ⟨_, rfl, _, _, _, .str _, rfl, rfl, hT, at_in (by decide) rfl, rfl, false, bl_of (by decide +kernel), ?_⟩
        refine ⟨_, rfl, _, _, _, .str _, rfl, rfl, hT, at_in (by decide) rfl, rfl, false, bl_of (by decide +kernel), ?_⟩
        have hS2 := sm
        have gh2 := gh
        have gt2 : H1 tl = some (.lst ((z.tv ++ TD).map V.int)) := by rw [← hTD]; exact (congrArg (fun l : List Int => some (HO.lst (l.map V.int))) (List.append_nil z.tv)).symm ▸ gt
        have hs2 := hsn
        have hT2 := hT
        have hpx : PL = z.place + 1 := hPL.symm.trans rfl
        refine ⟨_, rfl, _, rfl, a, hd, _, _, z.bs, _, rfl, hT2, SqL.of gh2, hro1, fun H3 p3 us t3 n3 g3 hW => ?_⟩
        rw [hWR] at hW
        have n3s : p3 ≠ sn := by
          obtain ⟨_, hu, _⟩ := id hs2
          exact (ne_of_none hu n3).symm
        have n3h : p3 ≠ hd := (ne_of_none gh2 n3).symm
        refine ⟨_, rfl, _, rfl, a, hd, _, _, z.bs, _, rfl, t3.sqt hT2, SqL.of (t3 _ _ gh2), hro1, fun H4 p4 t4 n4 g4 => ?_⟩
        rw [hRD] at g4
        have n4s : p4 ≠ sn := by
          obtain ⟨_, hu, _⟩ := id (hs2.same t3)
          exact (ne_of_none hu n4).symm
        have hrl : RD.length ≤ 2 := by rw [← hRD]; exact reads_len _ _ _
        refine ⟨p4, rfl, ⟨_, SqL.of g4⟩, for_list (xs := RD.map V.int) (fun i σ H' => (∃ v9, σ = [some (.ref rw_), some (.ref gb), some (.int ((n : Int) - (k : Int))), some (.ref hd), some (.ref tl), some (.ref sn), some (.int (z.place + 1)), some (.ref a), some (.ref p3), v9, v10]) ∧ H' p4 = some (.lst (RD.map V.int)) ∧ H' hd = some (.lst (z.bs.map V.int)) ∧ H' tl = some (.lst ((z.tv ++ TD).map V.int)) ∧ TchAt H' sn (z.ts ++ (RD.take i).map rdT) ∧ Same H H' ∧ H' p3 = some (.lst us) ∧ WAt H' us WR)
          ⟨⟨_, rfl⟩, g4, t4 _ _ (t3 _ _ gh2), t4 _ _ (t3 _ _ gt2), by rw [List.take_zero, List.map_nil, List.append_nil]; exact (hs2.same t3).same t4, (hS2.trans t3).trans t4, t4 _ _ g3, w_same hW t4⟩ (fun i σ H' _ h => SqL.of h.2.1) (fun i x σ H' hi h => ?_) (fun σ H' h => ?_)⟩
        · obtain ⟨⟨v9, rfl⟩, i4, ih, it, is_, im, i3, iw⟩ := h
          obtain ⟨b', hb', rfl⟩ : ∃ b', RD[i]? = some b' ∧ x = V.int b' := by
            rw [List.getElem?_map] at hi
            obtain ⟨b', e, e'⟩ := Option.map_eq_some_iff.mp hi
            exact ⟨b', e, e'.symm⟩
          obtain ⟨us', hu, hul, _⟩ := id is_
          refine ⟨_, rfl, .inl ⟨rfl, _, SqL.of hu⟩, _, rfl, sz_ok rfl, fun t nt => ?_⟩
          have st : Same H' (upd H' t (.tup [.str "read", .int b'])) := Same.new nt
          have gt_ : upd H' t (.tup [.str "read", .int b']) t = some (.tup (tchV (rdT b'))) := upd_same
          generalize upd H' t (.tup [.str "read", .int b']) = H5 at st gt_
          have hlen : us'.length ≤ 6000 := by
            rw [hul, List.length_append, List.length_map, List.length_take]
            omega
          have kp : ∀ q o, H5 q = some o → q ≠ sn → upd H5 sn (.lst (us' ++ [.ref t])) q = some o := fun q o e n => by
            rw [upd_ne n]
            exact e
          refine ⟨sn, us', _, rfl, rfl, st _ _ hu, Nat.lt_of_le_of_lt hlen (by decide), ⟨_, rfl⟩, kp _ _ (st _ _ i4) n4s, kp _ _ (st _ _ ih) e2, kp _ _ (st _ _ it) e3, ?_, (im.trans st).mut ns0, kp _ _ (st _ _ i3) n3s, w_keep (w_same iw st) (st _ _ hu) kp⟩
          rw [List.take_add_one, hb', List.map_append, ← List.append_assoc]
          exact (is_.same st).push (st _ _ hu) gt_
        · obtain ⟨⟨v9, rfl⟩, i4, ih, it, is_, im, i3, iw⟩ := h
          rw [List.length_map, List.take_length] at is_
          refine ⟨_, rfl, p3, rfl, ⟨_, SqL.of i3⟩, for_list (xs := us) (fun i σ H' => (∃ v10, σ = [some (.ref rw_), some (.ref gb), some (.int ((n : Int) - (k : Int))), some (.ref hd), some (.ref tl), some (.ref sn), some (.int (z.place + 1)), some (.ref a), some (.ref p3), v9, v10]) ∧ H' p3 = some (.lst us) ∧ H' hd = some (.lst (((WR.take i).foldl (fun l x => l.set x.1.toNat x.2) z.bs).map V.int)) ∧ H' tl = some (.lst ((z.tv ++ TD).map V.int)) ∧ TchAt H' sn (z.ts ++ RD.map rdT ++ (WR.take i).map wrT) ∧ Same H H' ∧ WAt H' us WR)
            ⟨⟨_, rfl⟩, i3, ih, it, by rw [List.take_zero, List.map_nil, List.append_nil]; exact is_, im, iw⟩ (fun i σ H' _ h => SqL.of h.2.1) (fun i x σ H' hi h => ?_) (fun σ H' h => ?_)⟩
          · obtain ⟨⟨v10, rfl⟩, j3, jh, jt, js, jm, jw⟩ := h
            obtain ⟨y, hy⟩ : ∃ y, WR[i]? = some y := ⟨_, List.getElem?_eq_getElem (by have := (List.getElem?_eq_some_iff.mp hi).1; have := jw.1; omega)⟩
            obtain ⟨q', eq1, hq'⟩ := jw.2 i y hy
            rw [hi] at eq1
            cases eq1
            have hyin := hwin y (by rw [hWR]; exact List.mem_of_getElem? hy)
            obtain ⟨us', hu, hul, _⟩ := id js
            refine ⟨_, rfl, .inl ⟨rfl, _, SqL.of hu⟩, _, rfl, _, _, _, .int _, rfl, rfl, SqT.of hq', at_in (by decide) rfl, sz_ok rfl, fun t nt => ?_⟩
            have st : Same H' (upd H' t (.tup [.str "write", .int y.1])) := Same.new nt
            have gt_ : upd H' t (.tup [.str "write", .int y.1]) t = some (.tup (tchV (wrT y))) := upd_same
            generalize upd H' t (.tup [.str "write", .int y.1]) = H5 at st gt_
            have hwl : WR.length ≤ 1 := by rw [← hWR]; exact writes_len _ _ _
            have hlen : us'.length ≤ 6000 := by
              rw [hul, List.length_append, List.length_append, List.length_map, List.length_map, List.length_take]
              omega
            have kp : ∀ q o, H5 q = some o → q ≠ sn → upd H5 sn (.lst (us' ++ [.ref t])) q = some o := fun q o e n => by
              rw [upd_ne n]
              exact e
            have ju : TchAt (upd H5 sn (.lst (us' ++ [.ref t]))) sn (z.ts ++ RD.map rdT ++ (WR.take (i + 1)).map wrT) := by
              rw [List.take_add_one, hy, List.map_append, ← List.append_assoc]
              exact (js.same st).push (st _ _ hu) gt_
            have jm2 := (jm.trans st).mut (o := .lst (us' ++ [.ref t])) ns0
            have jw2 := w_keep (w_same jw st) (st _ _ hu) kp
            have jh2 := kp _ _ (st _ _ jh) e2
            have jt2 := kp _ _ (st _ _ jt) e3
            have j32 := kp _ _ (st _ _ j3) n3s
            have hq2 := kp _ _ (st _ _ hq') fun z => by rw [z, hu] at hq'; cases hq'
            refine ⟨sn, us', _, rfl, rfl, st _ _ hu, Nat.lt_of_le_of_lt hlen (by decide), ?_⟩
            generalize upd H5 sn (.lst (us' ++ [.ref t])) = H6 at ju jm2 jw2 jh2 jt2 j32 hq2
            refine ⟨_, rfl, _, _, _, .int _, rfl, rfl, SqT.of hq2, at_in (by decide) rfl, _, rfl, _, rfl, _, _, _, .int _, rfl, rfl, SqT.of hq2, at_in (by decide) rfl, ?_⟩
            have hfl : ∀ (ws : List (Int × Int)) (l : List Int), (ws.foldl (fun l x => l.set x.1.toNat x.2) l).length = l.length := fun ws => by
              induction ws with
              | nil => exact fun l => rfl
              | cons x ws ih => exact fun l => (ih _).trans List.length_set
            refine ⟨hd, _, _, y.1.toNat, rfl, rfl, jh2, ?_, ?_⟩
            · unfold ixN
              rw [List.length_map, hfl, if_pos hyin.1, if_pos hyin.2]
            have kh : ∀ q o, H6 q = some o → q ≠ hd → ∀ u, upd H6 hd (.lst u) q = some o := fun q o e n u => by
              rw [upd_ne n]
              exact e
            refine ⟨⟨_, rfl⟩, kh _ _ j32 n3h _, ?_, kh _ _ jt2 e1.symm _, ju.keep jh2 e2 fun q o e n => kh _ _ e n _, jm2.mut nh, w_keep jw2 jh2 fun q o e n => kh _ _ e n _⟩
            rw [upd_same, List.take_add_one, hy, List.foldl_append]
            rw [show (some y).toList = [y] from rfl, List.foldl_cons, List.foldl_nil, List.map_set]
          · obtain ⟨⟨v10, rfl⟩, j3, jh, jt, js, jm, jw⟩ := h
            rw [jw.1, List.take_length] at jh js
            rw [← hWR, ← hRD, List.append_assoc, ← htw, ← List.append_assoc] at js
            rw [← hWR, ← hbw] at jh
            rw [← hTD] at jt
            refine ⟨_, rfl, _, _, rfl, rfl, ?_⟩
            rw [hPL, hpx] at hni hst
            refine ⟨n - (k + 1), by omega, k + 1, ⟨_, _, _, _⟩, _, _, _, _, rfl, by omega, by rw [show ((n : Int) - (((k + 1 : Nat)) : Int)) = (n : Int) - (k : Int) - 1 by omega]; rfl, ?_, hni.1, hni.2, hbx.trans hbl, ?_, ?_, jm, jh, jt, js⟩
            · refine Eq.trans (congrArg (runM rows (n - (k + 1))) (show _ = stepM rows z from hst.symm)) ?_
              rw [← hrun, show n - k = (n - (k + 1)) + 1 by omega]
              exact (if_pos hp).symm
            · simp only [List.length_append]
              omega
            · simp only [List.length_append]
              omega
    | @store o b o0 o1 b0 b1 =>
        refine ⟨_, rfl, _, _, _, .str _, rfl, rfl, hT, at_in (by decide) rfl, rfl, false, bl_of (by decide +kernel), ?_⟩
        refine ⟨_, rfl, _, _, _, .str _, rfl, rfl, hT, at_in (by decide) rfl, rfl, false, bl_of (by decide +kernel), ?_⟩
        refine ⟨_, rfl, _, _, _, .str _, rfl, rfl, hT, at_in (by decide) rfl, rfl, false, bl_of (by decide +kernel), ?_⟩
        have hS2 := sm
        have gh2 := gh
        have gt2 : H1 tl = some (.lst ((z.tv ++ TD).map V.int)) := by rw [← hTD]; exact (congrArg (fun l : List Int => some (HO.lst (l.map V.int))) (List.append_nil z.tv)).symm ▸ gt
        have hs2 := hsn
        have hT2 := hT
        have hpx : PL = z.place + 1 := hPL.symm.trans rfl
        refine ⟨_, rfl, _, rfl, a, hd, _, _, z.bs, _, rfl, hT2, SqL.of gh2, hro1, fun H3 p3 us t3 n3 g3 hW => ?_⟩
        rw [hWR] at hW
        have n3s : p3 ≠ sn := by
          obtain ⟨_, hu, _⟩ := id hs2
          exact (ne_of_none hu n3).symm
        have n3h : p3 ≠ hd := (ne_of_none gh2 n3).symm
        refine ⟨_, rfl, _, rfl, a, hd, _, _, z.bs, _, rfl, t3.sqt hT2, SqL.of (t3 _ _ gh2), hro1, fun H4 p4 t4 n4 g4 => ?_⟩
        rw [hRD] at g4
        have n4s : p4 ≠ sn := by
          obtain ⟨_, hu, _⟩ := id (hs2.same t3)
          exact (ne_of_none hu n4).symm
        have hrl : RD.length ≤ 2 := by rw [← hRD]; exact reads_len _ _ _
        refine ⟨p4, rfl, ⟨_, SqL.of g4⟩, for_list (xs := RD.map V.int) (fun i σ H' => (∃ v9, σ = [some (.ref rw_), some (.ref gb), some (.int ((n : Int) - (k : Int))), some (.ref hd), some (.ref tl), some (.ref sn), some (.int (z.place + 1)), some (.ref a), some (.ref p3), v9, v10]) ∧ H' p4 = some (.lst (RD.map V.int)) ∧ H' hd = some (.lst (z.bs.map V.int)) ∧ H' tl = some (.lst ((z.tv ++ TD).map V.int)) ∧ TchAt H' sn (z.ts ++ (RD.take i).map rdT) ∧ Same H H' ∧ H' p3 = some (.lst us) ∧ WAt H' us WR)
          ⟨⟨_, rfl⟩, g4, t4 _ _ (t3 _ _ gh2), t4 _ _ (t3 _ _ gt2), by rw [List.take_zero, List.map_nil, List.append_nil]; exact (hs2.same t3).same t4, (hS2.trans t3).trans t4, t4 _ _ g3, w_same hW t4⟩ (fun i σ H' _ h => SqL.of h.2.1) (fun i x σ H' hi h => ?_) (fun σ H' h => ?_)⟩
        · obtain ⟨⟨v9, rfl⟩, i4, ih, it, is_, im, i3, iw⟩ := h
          obtain ⟨b', hb', rfl⟩ : ∃ b', RD[i]? = some b' ∧ x = V.int b' := by
            rw [List.getElem?_map] at hi
            obtain ⟨b', e, e'⟩ := Option.map_eq_some_iff.mp hi
            exact ⟨b', e, e'.symm⟩
          obtain ⟨us', hu, hul, _⟩ := id is_
          refine ⟨_, rfl, .inl ⟨rfl, _, SqL.of hu⟩, _, rfl, sz_ok rfl, fun t nt => ?_⟩
          have st : Same H' (upd H' t (.tup [.str "read", .int b'])) := Same.new nt
          have gt_ : upd H' t (.tup [.str "read", .int b']) t = some (.tup (tchV (rdT b'))) := upd_same
          generalize upd H' t (.tup [.str "read", .int b']) = H5 at st gt_
          have hlen : us'.length ≤ 6000 := by
            rw [hul, List.length_append, List.length_map, List.length_take]
            omega
          have kp : ∀ q o, H5 q = some o → q ≠ sn → upd H5 sn (.lst (us' ++ [.ref t])) q = some o := fun q o e n => by
            rw [upd_ne n]
            exact e
          refine ⟨sn, us', _, rfl, rfl, st _ _ hu, Nat.lt_of_le_of_lt hlen (by decide), ⟨_, rfl⟩, kp _ _ (st _ _ i4) n4s, kp _ _ (st _ _ ih) e2, kp _ _ (st _ _ it) e3, ?_, (im.trans st).mut ns0, kp _ _ (st _ _ i3) n3s, w_keep (w_same iw st) (st _ _ hu) kp⟩
          rw [List.take_add_one, hb', List.map_append, ← List.append_assoc]
          exact (is_.same st).push (st _ _ hu) gt_
        · obtain ⟨⟨v9, rfl⟩, i4, ih, it, is_, im, i3, iw⟩ := h
          rw [List.length_map, List.take_length] at is_
          refine ⟨_, rfl, p3, rfl, ⟨_, SqL.of i3⟩, for_list (xs := us) (fun i σ H' => (∃ v10, σ = [some (.ref rw_), some (.ref gb), some (.int ((n : Int) - (k : Int))), some (.ref hd), some (.ref tl), some (.ref sn), some (.int (z.place + 1)), some (.ref a), some (.ref p3), v9, v10]) ∧ H' p3 = some (.lst us) ∧ H' hd = some (.lst (((WR.take i).foldl (fun l x => l.set x.1.toNat x.2) z.bs).map V.int)) ∧ H' tl = some (.lst ((z.tv ++ TD).map V.int)) ∧ TchAt H' sn (z.ts ++ RD.map rdT ++ (WR.take i).map wrT) ∧ Same H H' ∧ WAt H' us WR)
            ⟨⟨_, rfl⟩, i3, ih, it, by rw [List.take_zero, List.map_nil, List.append_nil]; exact is_, im, iw⟩ (fun i σ H' _ h => SqL.of h.2.1) (fun i x σ H' hi h => ?_) (fun σ H' h => ?_)⟩
          · obtain ⟨⟨v10, rfl⟩, j3, jh, jt, js, jm, jw⟩ := h
            obtain ⟨y, hy⟩ : ∃ y, WR[i]? = some y := ⟨_, List.getElem?_eq_getElem (by have := (List.getElem?_eq_some_iff.mp hi).1; have := jw.1; omega)⟩
            obtain ⟨q', eq1, hq'⟩ := jw.2 i y hy
            rw [hi] at eq1
            cases eq1
            have hyin := hwin y (by rw [hWR]; exact List.mem_of_getElem? hy)
            obtain ⟨us', hu, hul, _⟩ := id js
            refine ⟨_, rfl, .inl ⟨rfl, _, SqL.of hu⟩, _, rfl, _, _, _, .int _, rfl, rfl, SqT.of hq', at_in (by decide) rfl, sz_ok rfl, fun t nt => ?_⟩
            have st : Same H' (upd H' t (.tup [.str "write", .int y.1])) := Same.new nt
            have gt_ : upd H' t (.tup [.str "write", .int y.1]) t = some (.tup (tchV (wrT y))) := upd_same
            generalize upd H' t (.tup [.str "write", .int y.1]) = H5 at st gt_
            have hwl : WR.length ≤ 1 := by rw [← hWR]; exact writes_len _ _ _
            have hlen : us'.length ≤ 6000 := by
              rw [hul, List.length_append, List.length_append, List.length_map, List.length_map, List.length_take]
              omega
            have kp : ∀ q o, H5 q = some o → q ≠ sn → upd H5 sn (.lst (us' ++ [.ref t])) q = some o := fun q o e n => by
              rw [upd_ne n]
              exact e
            have ju : TchAt (upd H5 sn (.lst (us' ++ [.ref t]))) sn (z.ts ++ RD.map rdT ++ (WR.take (i + 1)).map wrT) := by
              rw [List.take_add_one, hy, List.map_append, ← List.append_assoc]
              exact (js.same st).push (st _ _ hu) gt_
            have jm2 := (jm.trans st).mut (o := .lst (us' ++ [.ref t])) ns0
            have jw2 := w_keep (w_same jw st) (st _ _ hu) kp
            have jh2 := kp _ _ (st _ _ jh) e2
            have jt2 := kp _ _ (st _ _ jt) e3
            have j32 := kp _ _ (st _ _ j3) n3s
            have hq2 := kp _ _ (st _ _ hq') fun z => by rw [z, hu] at hq'; cases hq'
            refine ⟨sn, us', _, rfl, rfl, st _ _ hu, Nat.lt_of_le_of_lt hlen (by decide), ?_⟩
            generalize upd H5 sn (.lst (us' ++ [.ref t])) = H6 at ju jm2 jw2 jh2 jt2 j32 hq2
            refine ⟨_, rfl, _, _, _, .int _, rfl, rfl, SqT.of hq2, at_in (by decide) rfl, _, rfl, _, rfl, _, _, _, .int _, rfl, rfl, SqT.of hq2, at_in (by decide) rfl, ?_⟩
            have hfl : ∀ (ws : List (Int × Int)) (l : List Int), (ws.foldl (fun l x => l.set x.1.toNat x.2) l).length = l.length := fun ws => by
              induction ws with
              | nil => exact fun l => rfl
              | cons x ws ih => exact fun l => (ih _).trans List.length_set
            refine ⟨hd, _, _, y.1.toNat, rfl, rfl, jh2, ?_, ?_⟩
            · unfold ixN
              rw [List.length_map, hfl, if_pos hyin.1, if_pos hyin.2]
            have kh : ∀ q o, H6 q = some o → q ≠ hd → ∀ u, upd H6 hd (.lst u) q = some o := fun q o e n u => by
              rw [upd_ne n]
              exact e
            refine ⟨⟨_, rfl⟩, kh _ _ j32 n3h _, ?_, kh _ _ jt2 e1.symm _, ju.keep jh2 e2 fun q o e n => kh _ _ e n _, jm2.mut nh, w_keep jw2 jh2 fun q o e n => kh _ _ e n _⟩
            rw [upd_same, List.take_add_one, hy, List.foldl_append]
            rw [show (some y).toList = [y] from rfl, List.foldl_cons, List.foldl_nil, List.map_set]
          · obtain ⟨⟨v10, rfl⟩, j3, jh, jt, js, jm, jw⟩ := h
            rw [jw.1, List.take_length] at jh js
            rw [← hWR, ← hRD, List.append_assoc, ← htw, ← List.append_assoc] at js
            rw [← hWR, ← hbw] at jh
            rw [← hTD] at jt
            refine ⟨_, rfl, _, _, rfl, rfl, ?_⟩
            rw [hPL, hpx] at hni hst
            refine ⟨n - (k + 1), by omega, k + 1, ⟨_, _, _, _⟩, _, _, _, _, rfl, by omega, by rw [show ((n : Int) - (((k + 1 : Nat)) : Int)) = (n : Int) - (k : Int) - 1 by omega]; rfl, ?_, hni.1, hni.2, hbx.trans hbl, ?_, ?_, jm, jh, jt, js⟩
            · refine Eq.trans (congrArg (runM rows (n - (k + 1))) (show _ = stepM rows z from hst.symm)) ?_
              rw [← hrun, show n - k = (n - (k + 1)) + 1 by omega]
              exact (if_pos hp).symm
            · simp only [List.length_append]
              omega
            · simp only [List.length_append]
              omega
    | @less o t g o0 o1 t0 t1 g0 g1 =>
        refine ⟨_, rfl, _, _, _, .str _, rfl, rfl, hT, at_in (by decide) rfl, rfl, false, bl_of (by decide +kernel), ?_⟩
        refine ⟨_, rfl, _, _, _, .str _, rfl, rfl, hT, at_in (by decide) rfl, rfl, true, bl_of (by decide +kernel), ?_⟩
        refine ⟨_, rfl, _, rfl, _, _, _, .int _, rfl, rfl, hT, at_in (by decide) rfl, hd, _, _, _, rfl, rfl, SqL.of gh, at0_at o0 o1, _, rfl, _, rfl, _, _, _, .int _, rfl, rfl, hT, at_in (by decide) rfl, hd, _, _, _, rfl, rfl, SqL.of gh, at0_at t0 t1, _, _, rfl, rfl, ?_⟩
        by_cases hlt : at0 z.bs o < at0 z.bs t
        · refine ⟨true, bl_of (decide_eq_true hlt), _, rfl, _, _, _, .int _, rfl, rfl, hT, at_in (by decide) rfl, ?_⟩
          refine ⟨_, rfl, _, _, _, .str _, rfl, rfl, hT, at_in (by decide) rfl, rfl, false, bl_of (by decide +kernel), ?_⟩
          have hS2 := sm
          have gh2 := gh
          have gt2 : H1 tl = some (.lst ((z.tv ++ TD).map V.int)) := by rw [← hTD]; exact (congrArg (fun l : List Int => some (HO.lst (l.map V.int))) (List.append_nil z.tv)).symm ▸ gt
          have hs2 := hsn
          have hT2 := hT
          have hpx : PL = g := hPL.symm.trans (if_pos hlt)
          refine ⟨_, rfl, _, rfl, a, hd, _, _, z.bs, _, rfl, hT2, SqL.of gh2, hro1, fun H3 p3 us t3 n3 g3 hW => ?_⟩
          rw [hWR] at hW
          have n3s : p3 ≠ sn := by
            obtain ⟨_, hu, _⟩ := id hs2
            exact (ne_of_none hu n3).symm
          have n3h : p3 ≠ hd := (ne_of_none gh2 n3).symm
          refine ⟨_, rfl, _, rfl, a, hd, _, _, z.bs, _, rfl, t3.sqt hT2, SqL.of (t3 _ _ gh2), hro1, fun H4 p4 t4 n4 g4 => ?_⟩
          rw [hRD] at g4
          have n4s : p4 ≠ sn := by
            obtain ⟨_, hu, _⟩ := id (hs2.same t3)
            exact (ne_of_none hu n4).symm
          have hrl : RD.length ≤ 2 := by rw [← hRD]; exact reads_len _ _ _
          refine ⟨p4, rfl, ⟨_, SqL.of g4⟩, for_list (xs := RD.map V.int) (fun i σ H' => (∃ v9, σ = [some (.ref rw_), some (.ref gb), some (.int ((n : Int) - (k : Int))), some (.ref hd), some (.ref tl), some (.ref sn), some (.int (g)), some (.ref a), some (.ref p3), v9, v10]) ∧ H' p4 = some (.lst (RD.map V.int)) ∧ H' hd = some (.lst (z.bs.map V.int)) ∧ H' tl = some (.lst ((z.tv ++ TD).map V.int)) ∧ TchAt H' sn (z.ts ++ (RD.take i).map rdT) ∧ Same H H' ∧ H' p3 = some (.lst us) ∧ WAt H' us WR)
            ⟨⟨_, rfl⟩, g4, t4 _ _ (t3 _ _ gh2), t4 _ _ (t3 _ _ gt2), by rw [List.take_zero, List.map_nil, List.append_nil]; exact (hs2.same t3).same t4, (hS2.trans t3).trans t4, t4 _ _ g3, w_same hW t4⟩ (fun i σ H' _ h => SqL.of h.2.1) (fun i x σ H' hi h => ?_) (fun σ H' h => ?_)⟩
          · obtain ⟨⟨v9, rfl⟩, i4, ih, it, is_, im, i3, iw⟩ := h
            obtain ⟨b', hb', rfl⟩ : ∃ b', RD[i]? = some b' ∧ x = V.int b' := by
              rw [List.getElem?_map] at hi
              obtain ⟨b', e, e'⟩ := Option.map_eq_some_iff.mp hi
              exact ⟨b', e, e'.symm⟩
            obtain ⟨us', hu, hul, _⟩ := id is_
            refine ⟨_, rfl, .inl ⟨rfl, _, SqL.of hu⟩, _, rfl, sz_ok rfl, fun t nt => ?_⟩
            have st : Same H' (upd H' t (.tup [.str "read", .int b'])) := Same.new nt
            have gt_ : upd H' t (.tup [.str "read", .int b']) t = some (.tup (tchV (rdT b'))) := upd_same
            generalize upd H' t (.tup [.str "read", .int b']) = H5 at st gt_
            have hlen : us'.length ≤ 6000 := by
              rw [hul, List.length_append, List.length_map, List.length_take]
              omega
            have kp : ∀ q o, H5 q = some o → q ≠ sn → upd H5 sn (.lst (us' ++ [.ref t])) q = some o := fun q o e n => by
              rw [upd_ne n]
              exact e
            refine ⟨sn, us', _, rfl, rfl, st _ _ hu, Nat.lt_of_le_of_lt hlen (by decide), ⟨_, rfl⟩, kp _ _ (st _ _ i4) n4s, kp _ _ (st _ _ ih) e2, kp _ _ (st _ _ it) e3, ?_, (im.trans st).mut ns0, kp _ _ (st _ _ i3) n3s, w_keep (w_same iw st) (st _ _ hu) kp⟩
            rw [List.take_add_one, hb', List.map_append, ← List.append_assoc]
            exact (is_.same st).push (st _ _ hu) gt_
          · obtain ⟨⟨v9, rfl⟩, i4, ih, it, is_, im, i3, iw⟩ := h
            rw [List.length_map, List.take_length] at is_
            refine ⟨_, rfl, p3, rfl, ⟨_, SqL.of i3⟩, for_list (xs := us) (fun i σ H' => (∃ v10, σ = [some (.ref rw_), some (.ref gb), some (.int ((n : Int) - (k : Int))), some (.ref hd), some (.ref tl), some (.ref sn), some (.int (g)), some (.ref a), some (.ref p3), v9, v10]) ∧ H' p3 = some (.lst us) ∧ H' hd = some (.lst (((WR.take i).foldl (fun l x => l.set x.1.toNat x.2) z.bs).map V.int)) ∧ H' tl = some (.lst ((z.tv ++ TD).map V.int)) ∧ TchAt H' sn (z.ts ++ RD.map rdT ++ (WR.take i).map wrT) ∧ Same H H' ∧ WAt H' us WR)
              ⟨⟨_, rfl⟩, i3, ih, it, by rw [List.take_zero, List.map_nil, List.append_nil]; exact is_, im, iw⟩ (fun i σ H' _ h => SqL.of h.2.1) (fun i x σ H' hi h => ?_) (fun σ H' h => ?_)⟩
            · obtain ⟨⟨v10, rfl⟩, j3, jh, jt, js, jm, jw⟩ := h
              obtain ⟨y, hy⟩ : ∃ y, WR[i]? = some y := ⟨_, List.getElem?_eq_getElem (by have := (List.getElem?_eq_some_iff.mp hi).1; have := jw.1; omega)⟩
              obtain ⟨q', eq1, hq'⟩ := jw.2 i y hy
              rw [hi] at eq1
              cases eq1
              have hyin := hwin y (by rw [hWR]; exact List.mem_of_getElem? hy)
              obtain ⟨us', hu, hul, _⟩ := id js
              refine ⟨_, rfl, .inl ⟨rfl, _, SqL.of hu⟩, _, rfl, _, _, _, .int _, rfl, rfl, SqT.of hq', at_in (by decide) rfl, sz_ok rfl, fun t nt => ?_⟩
              have st : Same H' (upd H' t (.tup [.str "write", .int y.1])) := Same.new nt
              have gt_ : upd H' t (.tup [.str "write", .int y.1]) t = some (.tup (tchV (wrT y))) := upd_same
              generalize upd H' t (.tup [.str "write", .int y.1]) = H5 at st gt_
              have hwl : WR.length ≤ 1 := by rw [← hWR]; exact writes_len _ _ _
              have hlen : us'.length ≤ 6000 := by
                rw [hul, List.length_append, List.length_append, List.length_map, List.length_map, List.length_take]
                omega
              have kp : ∀ q o, H5 q = some o → q ≠ sn → upd H5 sn (.lst (us' ++ [.ref t])) q = some o := fun q o e n => by
                rw [upd_ne n]
                exact e
              have ju : TchAt (upd H5 sn (.lst (us' ++ [.ref t]))) sn (z.ts ++ RD.map rdT ++ (WR.take (i + 1)).map wrT) := by
                rw [List.take_add_one, hy, List.map_append, ← List.append_assoc]
                exact (js.same st).push (st _ _ hu) gt_
              have jm2 := (jm.trans st).mut (o := .lst (us' ++ [.ref t])) ns0
              have jw2 := w_keep (w_same jw st) (st _ _ hu) kp
              have jh2 := kp _ _ (st _ _ jh) e2
              have jt2 := kp _ _ (st _ _ jt) e3
              have j32 := kp _ _ (st _ _ j3) n3s
              have hq2 := kp _ _ (st _ _ hq') fun z => by rw [z, hu] at hq'; cases hq'
              refine ⟨sn, us', _, rfl, rfl, st _ _ hu, Nat.lt_of_le_of_lt hlen (by decide), ?_⟩
              generalize upd H5 sn (.lst (us' ++ [.ref t])) = H6 at ju jm2 jw2 jh2 jt2 j32 hq2
              refine ⟨_, rfl, _, _, _, .int _, rfl, rfl, SqT.of hq2, at_in (by decide) rfl, _, rfl, _, rfl, _, _, _, .int _, rfl, rfl, SqT.of hq2, at_in (by decide) rfl, ?_⟩
              have hfl : ∀ (ws : List (Int × Int)) (l : List Int), (ws.foldl (fun l x => l.set x.1.toNat x.2) l).length = l.length := fun ws => by
                induction ws with
                | nil => exact fun l => rfl
                | cons x ws ih => exact fun l => (ih _).trans List.length_set
              refine ⟨hd, _, _, y.1.toNat, rfl, rfl, jh2, ?_, ?_⟩
              · unfold ixN
                rw [List.length_map, hfl, if_pos hyin.1, if_pos hyin.2]
              have kh : ∀ q o, H6 q = some o → q ≠ hd → ∀ u, upd H6 hd (.lst u) q = some o := fun q o e n u => by
                rw [upd_ne n]
                exact e
              refine ⟨⟨_, rfl⟩, kh _ _ j32 n3h _, ?_, kh _ _ jt2 e1.symm _, ju.keep jh2 e2 fun q o e n => kh _ _ e n _, jm2.mut nh, w_keep jw2 jh2 fun q o e n => kh _ _ e n _⟩
              rw [upd_same, List.take_add_one, hy, List.foldl_append]
              rw [show (some y).toList = [y] from rfl, List.foldl_cons, List.foldl_nil, List.map_set]
            · obtain ⟨⟨v10, rfl⟩, j3, jh, jt, js, jm, jw⟩ := h
              rw [jw.1, List.take_length] at jh js
              rw [← hWR, ← hRD, List.append_assoc, ← htw, ← List.append_assoc] at js
              rw [← hWR, ← hbw] at jh
              rw [← hTD] at jt
              refine ⟨_, rfl, _, _, rfl, rfl, ?_⟩
              rw [hPL, hpx] at hni hst
              refine ⟨n - (k + 1), by omega, k + 1, ⟨_, _, _, _⟩, _, _, _, _, rfl, by omega, by rw [show ((n : Int) - (((k + 1 : Nat)) : Int)) = (n : Int) - (k : Int) - 1 by omega]; rfl, ?_, hni.1, hni.2, hbx.trans hbl, ?_, ?_, jm, jh, jt, js⟩
              · refine Eq.trans (congrArg (runM rows (n - (k + 1))) (show _ = stepM rows z from hst.symm)) ?_
                rw [← hrun, show n - k = (n - (k + 1)) + 1 by omega]
                exact (if_pos hp).symm
              · simp only [List.length_append]
                omega
              · simp only [List.length_append]
                omega
        · refine ⟨false, bl_of (decide_eq_false hlt), ?_⟩
          refine ⟨_, rfl, _, _, _, .str _, rfl, rfl, hT, at_in (by decide) rfl, rfl, false, bl_of (by decide +kernel), ?_⟩
          have hS2 := sm
          have gh2 := gh
          have gt2 : H1 tl = some (.lst ((z.tv ++ TD).map V.int)) := by rw [← hTD]; exact (congrArg (fun l : List Int => some (HO.lst (l.map V.int))) (List.append_nil z.tv)).symm ▸ gt
          have hs2 := hsn
          have hT2 := hT
          have hpx : PL = z.place + 1 := hPL.symm.trans (if_neg hlt)
          refine ⟨_, rfl, _, rfl, a, hd, _, _, z.bs, _, rfl, hT2, SqL.of gh2, hro1, fun H3 p3 us t3 n3 g3 hW => ?_⟩
          rw [hWR] at hW
          have n3s : p3 ≠ sn := by
            obtain ⟨_, hu, _⟩ := id hs2
            exact (ne_of_none hu n3).symm
          have n3h : p3 ≠ hd := (ne_of_none gh2 n3).symm
          refine ⟨_, rfl, _, rfl, a, hd, _, _, z.bs, _, rfl, t3.sqt hT2, SqL.of (t3 _ _ gh2), hro1, fun H4 p4 t4 n4 g4 => ?_⟩
          rw [hRD] at g4
          have n4s : p4 ≠ sn := by
            obtain ⟨_, hu, _⟩ := id (hs2.same t3)
            exact (ne_of_none hu n4).symm
          have hrl : RD.length ≤ 2 := by rw [← hRD]; exact reads_len _ _ _
          refine ⟨p4, rfl, ⟨_, SqL.of g4⟩, for_list (xs := RD.map V.int) (fun i σ H' => (∃ v9, σ = [some (.ref rw_), some (.ref gb), some (.int ((n : Int) - (k : Int))), some (.ref hd), some (.ref tl), some (.ref sn), some (.int (z.place + 1)), some (.ref a), some (.ref p3), v9, v10]) ∧ H' p4 = some (.lst (RD.map V.int)) ∧ H' hd = some (.lst (z.bs.map V.int)) ∧ H' tl = some (.lst ((z.tv ++ TD).map V.int)) ∧ TchAt H' sn (z.ts ++ (RD.take i).map rdT) ∧ Same H H' ∧ H' p3 = some (.lst us) ∧ WAt H' us WR)
            ⟨⟨_, rfl⟩, g4, t4 _ _ (t3 _ _ gh2), t4 _ _ (t3 _ _ gt2), by rw [List.take_zero, List.map_nil, List.append_nil]; exact (hs2.same t3).same t4, (hS2.trans t3).trans t4, t4 _ _ g3, w_same hW t4⟩ (fun i σ H' _ h => SqL.of h.2.1) (fun i x σ H' hi h => ?_) (fun σ H' h => ?_)⟩
          · obtain ⟨⟨v9, rfl⟩, i4, ih, it, is_, im, i3, iw⟩ := h
            obtain ⟨b', hb', rfl⟩ : ∃ b', RD[i]? = some b' ∧ x = V.int b' := by
              rw [List.getElem?_map] at hi
              obtain ⟨b', e, e'⟩ := Option.map_eq_some_iff.mp hi
              exact ⟨b', e, e'.symm⟩
            obtain ⟨us', hu, hul, _⟩ := id is_
            refine ⟨_, rfl, .inl ⟨rfl, _, SqL.of hu⟩, _, rfl, sz_ok rfl, fun t nt => ?_⟩
            have st : Same H' (upd H' t (.tup [.str "read", .int b'])) := Same.new nt
            have gt_ : upd H' t (.tup [.str "read", .int b']) t = some (.tup (tchV (rdT b'))) := upd_same
            generalize upd H' t (.tup [.str "read", .int b']) = H5 at st gt_
            have hlen : us'.length ≤ 6000 := by
              rw [hul, List.length_append, List.length_map, List.length_take]
              omega
            have kp : ∀ q o, H5 q = some o → q ≠ sn → upd H5 sn (.lst (us' ++ [.ref t])) q = some o := fun q o e n => by
              rw [upd_ne n]
              exact e
            refine ⟨sn, us', _, rfl, rfl, st _ _ hu, Nat.lt_of_le_of_lt hlen (by decide), ⟨_, rfl⟩, kp _ _ (st _ _ i4) n4s, kp _ _ (st _ _ ih) e2, kp _ _ (st _ _ it) e3, ?_, (im.trans st).mut ns0, kp _ _ (st _ _ i3) n3s, w_keep (w_same iw st) (st _ _ hu) kp⟩
            rw [List.take_add_one, hb', List.map_append, ← List.append_assoc]
            exact (is_.same st).push (st _ _ hu) gt_
          · obtain ⟨⟨v9, rfl⟩, i4, ih, it, is_, im, i3, iw⟩ := h
            rw [List.length_map, List.take_length] at is_
            refine ⟨_, rfl, p3, rfl, ⟨_, SqL.of i3⟩, for_list (xs := us) (fun i σ H' => (∃ v10, σ = [some (.ref rw_), some (.ref gb), some (.int ((n : Int) - (k : Int))), some (.ref hd), some (.ref tl), some (.ref sn), some (.int (z.place + 1)), some (.ref a), some (.ref p3), v9, v10]) ∧ H' p3 = some (.lst us) ∧ H' hd = some (.lst (((WR.take i).foldl (fun l x => l.set x.1.toNat x.2) z.bs).map V.int)) ∧ H' tl = some (.lst ((z.tv ++ TD).map V.int)) ∧ TchAt H' sn (z.ts ++ RD.map rdT ++ (WR.take i).map wrT) ∧ Same H H' ∧ WAt H' us WR)
              ⟨⟨_, rfl⟩, i3, ih, it, by rw [List.take_zero, List.map_nil, List.append_nil]; exact is_, im, iw⟩ (fun i σ H' _ h => SqL.of h.2.1) (fun i x σ H' hi h => ?_) (fun σ H' h => ?_)⟩
            · obtain ⟨⟨v10, rfl⟩, j3, jh, jt, js, jm, jw⟩ := h
              obtain ⟨y, hy⟩ : ∃ y, WR[i]? = some y := ⟨_, List.getElem?_eq_getElem (by have := (List.getElem?_eq_some_iff.mp hi).1; have := jw.1; omega)⟩
              obtain ⟨q', eq1, hq'⟩ := jw.2 i y hy
              rw [hi] at eq1
              cases eq1
              have hyin := hwin y (by rw [hWR]; exact List.mem_of_getElem? hy)
              obtain ⟨us', hu, hul, _⟩ := id js
              refine ⟨_, rfl, .inl ⟨rfl, _, SqL.of hu⟩, _, rfl, _, _, _, .int _, rfl, rfl, SqT.of hq', at_in (by decide) rfl, sz_ok rfl, fun t nt => ?_⟩
              have st : Same H' (upd H' t (.tup [.str "write", .int y.1])) := Same.new nt
              have gt_ : upd H' t (.tup [.str "write", .int y.1]) t = some (.tup (tchV (wrT y))) := upd_same
              generalize upd H' t (.tup [.str "write", .int y.1]) = H5 at st gt_
              have hwl : WR.length ≤ 1 := by rw [← hWR]; exact writes_len _ _ _
              have hlen : us'.length ≤ 6000 := by
                rw [hul, List.length_append, List.length_append, List.length_map, List.length_map, List.length_take]
                omega
              have kp : ∀ q o, H5 q = some o → q ≠ sn → upd H5 sn (.lst (us' ++ [.ref t])) q = some o := fun q o e n => by
                rw [upd_ne n]
                exact e
              have ju : TchAt (upd H5 sn (.lst (us' ++ [.ref t]))) sn (z.ts ++ RD.map rdT ++ (WR.take (i + 1)).map wrT) := by
                rw [List.take_add_one, hy, List.map_append, ← List.append_assoc]
                exact (js.same st).push (st _ _ hu) gt_
              have jm2 := (jm.trans st).mut (o := .lst (us' ++ [.ref t])) ns0
              have jw2 := w_keep (w_same jw st) (st _ _ hu) kp
              have jh2 := kp _ _ (st _ _ jh) e2
              have jt2 := kp _ _ (st _ _ jt) e3
              have j32 := kp _ _ (st _ _ j3) n3s
              have hq2 := kp _ _ (st _ _ hq') fun z => by rw [z, hu] at hq'; cases hq'
              refine ⟨sn, us', _, rfl, rfl, st _ _ hu, Nat.lt_of_le_of_lt hlen (by decide), ?_⟩
              generalize upd H5 sn (.lst (us' ++ [.ref t])) = H6 at ju jm2 jw2 jh2 jt2 j32 hq2
              refine ⟨_, rfl, _, _, _, .int _, rfl, rfl, SqT.of hq2, at_in (by decide) rfl, _, rfl, _, rfl, _, _, _, .int _, rfl, rfl, SqT.of hq2, at_in (by decide) rfl, ?_⟩
              have hfl : ∀ (ws : List (Int × Int)) (l : List Int), (ws.foldl (fun l x => l.set x.1.toNat x.2) l).length = l.length := fun ws => by
                induction ws with
                | nil => exact fun l => rfl
                | cons x ws ih => exact fun l => (ih _).trans List.length_set
              refine ⟨hd, _, _, y.1.toNat, rfl, rfl, jh2, ?_, ?_⟩
              · unfold ixN
                rw [List.length_map, hfl, if_pos hyin.1, if_pos hyin.2]
              have kh : ∀ q o, H6 q = some o → q ≠ hd → ∀ u, upd H6 hd (.lst u) q = some o := fun q o e n u => by
                rw [upd_ne n]
                exact e
              refine ⟨⟨_, rfl⟩, kh _ _ j32 n3h _, ?_, kh _ _ jt2 e1.symm _, ju.keep jh2 e2 fun q o e n => kh _ _ e n _, jm2.mut nh, w_keep jw2 jh2 fun q o e n => kh _ _ e n _⟩
              rw [upd_same, List.take_add_one, hy, List.foldl_append]
              rw [show (some y).toList = [y] from rfl, List.foldl_cons, List.foldl_nil, List.map_set]
            · obtain ⟨⟨v10, rfl⟩, j3, jh, jt, js, jm, jw⟩ := h
              rw [jw.1, List.take_length] at jh js
              rw [← hWR, ← hRD, List.append_assoc, ← htw, ← List.append_assoc] at js
              rw [← hWR, ← hbw] at jh
              rw [← hTD] at jt
              refine ⟨_, rfl, _, _, rfl, rfl, ?_⟩
              rw [hPL, hpx] at hni hst
              refine ⟨n - (k + 1), by omega, k + 1, ⟨_, _, _, _⟩, _, _, _, _, rfl, by omega, by rw [show ((n : Int) - (((k + 1 : Nat)) : Int)) = (n : Int) - (k : Int) - 1 by omega]; rfl, ?_, hni.1, hni.2, hbx.trans hbl, ?_, ?_, jm, jh, jt, js⟩
              · refine Eq.trans (congrArg (runM rows (n - (k + 1))) (show _ = stepM rows z from hst.symm)) ?_
                rw [← hrun, show n - k = (n - (k + 1)) + 1 by omega]
                exact (if_pos hp).symm
              · simp only [List.length_append]
                omega
              · simp only [List.length_append]
                omega
    | @jump g g0 g1 =>
        refine ⟨_, rfl, _, _, _, .str _, rfl, rfl, hT, at_in (by decide) rfl, rfl, true, bl_of (by decide +kernel), ?_⟩
        refine ⟨_, rfl, _, _, _, .int _, rfl, rfl, hT, at_in (by decide) rfl, ?_⟩
        refine ⟨_, rfl, _, _, _, .str _, rfl, rfl, hT, at_in (by decide) rfl, rfl, false, bl_of (by decide +kernel), ?_⟩
        refine ⟨_, rfl, _, _, _, .str _, rfl, rfl, hT, at_in (by decide) rfl, rfl, false, bl_of (by decide +kernel), ?_⟩
        have hS2 := sm
        have gh2 := gh
        have gt2 : H1 tl = some (.lst ((z.tv ++ TD).map V.int)) := by rw [← hTD]; exact (congrArg (fun l : List Int => some (HO.lst (l.map V.int))) (List.append_nil z.tv)).symm ▸ gt
        have hs2 := hsn
        have hT2 := hT
        have hpx : PL = g := hPL.symm.trans rfl
        refine ⟨_, rfl, _, rfl, a, hd, _, _, z.bs, _, rfl, hT2, SqL.of gh2, hro1, fun H3 p3 us t3 n3 g3 hW => ?_⟩
        rw [hWR] at hW
        have n3s : p3 ≠ sn := by
          obtain ⟨_, hu, _⟩ := id hs2
          exact (ne_of_none hu n3).symm
        have n3h : p3 ≠ hd := (ne_of_none gh2 n3).symm
        refine ⟨_, rfl, _, rfl, a, hd, _, _, z.bs, _, rfl, t3.sqt hT2, SqL.of (t3 _ _ gh2), hro1, fun H4 p4 t4 n4 g4 => ?_⟩
        rw [hRD] at g4
        have n4s : p4 ≠ sn := by
          obtain ⟨_, hu, _⟩ := id (hs2.same t3)
          exact (ne_of_none hu n4).symm
        have hrl : RD.length ≤ 2 := by rw [← hRD]; exact reads_len _ _ _
        refine ⟨p4, rfl, ⟨_, SqL.of g4⟩, for_list (xs := RD.map V.int) (fun i σ H' => (∃ v9, σ = [some (.ref rw_), some (.ref gb), some (.int ((n : Int) - (k : Int))), some (.ref hd), some (.ref tl), some (.ref sn), some (.int (g)), some (.ref a), some (.ref p3), v9, v10]) ∧ H' p4 = some (.lst (RD.map V.int)) ∧ H' hd = some (.lst (z.bs.map V.int)) ∧ H' tl = some (.lst ((z.tv ++ TD).map V.int)) ∧ TchAt H' sn (z.ts ++ (RD.take i).map rdT) ∧ Same H H' ∧ H' p3 = some (.lst us) ∧ WAt H' us WR)
          ⟨⟨_, rfl⟩, g4, t4 _ _ (t3 _ _ gh2), t4 _ _ (t3 _ _ gt2), by rw [List.take_zero, List.map_nil, List.append_nil]; exact (hs2.same t3).same t4, (hS2.trans t3).trans t4, t4 _ _ g3, w_same hW t4⟩ (fun i σ H' _ h => SqL.of h.2.1) (fun i x σ H' hi h => ?_) (fun σ H' h => ?_)⟩
        · obtain ⟨⟨v9, rfl⟩, i4, ih, it, is_, im, i3, iw⟩ := h
          obtain ⟨b', hb', rfl⟩ : ∃ b', RD[i]? = some b' ∧ x = V.int b' := by
            rw [List.getElem?_map] at hi
            obtain ⟨b', e, e'⟩ := Option.map_eq_some_iff.mp hi
            exact ⟨b', e, e'.symm⟩
          obtain ⟨us', hu, hul, _⟩ := id is_
          refine ⟨_, rfl, .inl ⟨rfl, _, SqL.of hu⟩, _, rfl, sz_ok rfl, fun t nt => ?_⟩
          have st : Same H' (upd H' t (.tup [.str "read", .int b'])) := Same.new nt
          have gt_ : upd H' t (.tup [.str "read", .int b']) t = some (.tup (tchV (rdT b'))) := upd_same
          generalize upd H' t (.tup [.str "read", .int b']) = H5 at st gt_
          have hlen : us'.length ≤ 6000 := by
            rw [hul, List.length_append, List.length_map, List.length_take]
            omega
          have kp : ∀ q o, H5 q = some o → q ≠ sn → upd H5 sn (.lst (us' ++ [.ref t])) q = some o := fun q o e n => by
            rw [upd_ne n]
            exact e
          refine ⟨sn, us', _, rfl, rfl, st _ _ hu, Nat.lt_of_le_of_lt hlen (by decide), ⟨_, rfl⟩, kp _ _ (st _ _ i4) n4s, kp _ _ (st _ _ ih) e2, kp _ _ (st _ _ it) e3, ?_, (im.trans st).mut ns0, kp _ _ (st _ _ i3) n3s, w_keep (w_same iw st) (st _ _ hu) kp⟩
          rw [List.take_add_one, hb', List.map_append, ← List.append_assoc]
          exact (is_.same st).push (st _ _ hu) gt_
        · obtain ⟨⟨v9, rfl⟩, i4, ih, it, is_, im, i3, iw⟩ := h
          rw [List.length_map, List.take_length] at is_
          refine ⟨_, rfl, p3, rfl, ⟨_, SqL.of i3⟩, for_list (xs := us) (fun i σ H' => (∃ v10, σ = [some (.ref rw_), some (.ref gb), some (.int ((n : Int) - (k : Int))), some (.ref hd), some (.ref tl), some (.ref sn), some (.int (g)), some (.ref a), some (.ref p3), v9, v10]) ∧ H' p3 = some (.lst us) ∧ H' hd = some (.lst (((WR.take i).foldl (fun l x => l.set x.1.toNat x.2) z.bs).map V.int)) ∧ H' tl = some (.lst ((z.tv ++ TD).map V.int)) ∧ TchAt H' sn (z.ts ++ RD.map rdT ++ (WR.take i).map wrT) ∧ Same H H' ∧ WAt H' us WR)
            ⟨⟨_, rfl⟩, i3, ih, it, by rw [List.take_zero, List.map_nil, List.append_nil]; exact is_, im, iw⟩ (fun i σ H' _ h => SqL.of h.2.1) (fun i x σ H' hi h => ?_) (fun σ H' h => ?_)⟩
          · obtain ⟨⟨v10, rfl⟩, j3, jh, jt, js, jm, jw⟩ := h
            obtain ⟨y, hy⟩ : ∃ y, WR[i]? = some y := ⟨_, List.getElem?_eq_getElem (by have := (List.getElem?_eq_some_iff.mp hi).1; have := jw.1; omega)⟩
            obtain ⟨q', eq1, hq'⟩ := jw.2 i y hy
            rw [hi] at eq1
            cases eq1
            have hyin := hwin y (by rw [hWR]; exact List.mem_of_getElem? hy)
            obtain ⟨us', hu, hul, _⟩ := id js
            refine ⟨_, rfl, .inl ⟨rfl, _, SqL.of hu⟩, _, rfl, _, _, _, .int _, rfl, rfl, SqT.of hq', at_in (by decide) rfl, sz_ok rfl, fun t nt => ?_⟩
            have st : Same H' (upd H' t (.tup [.str "write", .int y.1])) := Same.new nt
            have gt_ : upd H' t (.tup [.str "write", .int y.1]) t = some (.tup (tchV (wrT y))) := upd_same
            generalize upd H' t (.tup [.str "write", .int y.1]) = H5 at st gt_
            have hwl : WR.length ≤ 1 := by rw [← hWR]; exact writes_len _ _ _
            have hlen : us'.length ≤ 6000 := by
              rw [hul, List.length_append, List.length_append, List.length_map, List.length_map, List.length_take]
              omega
            have kp : ∀ q o, H5 q = some o → q ≠ sn → upd H5 sn (.lst (us' ++ [.ref t])) q = some o := fun q o e n => by
              rw [upd_ne n]
              exact e
            have ju : TchAt (upd H5 sn (.lst (us' ++ [.ref t]))) sn (z.ts ++ RD.map rdT ++ (WR.take (i + 1)).map wrT) := by
              rw [List.take_add_one, hy, List.map_append, ← List.append_assoc]
              exact (js.same st).push (st _ _ hu) gt_
            have jm2 := (jm.trans st).mut (o := .lst (us' ++ [.ref t])) ns0
            have jw2 := w_keep (w_same jw st) (st _ _ hu) kp
            have jh2 := kp _ _ (st _ _ jh) e2
            have jt2 := kp _ _ (st _ _ jt) e3
            have j32 := kp _ _ (st _ _ j3) n3s
            have hq2 := kp _ _ (st _ _ hq') fun z => by rw [z, hu] at hq'; cases hq'
            refine ⟨sn, us', _, rfl, rfl, st _ _ hu, Nat.lt_of_le_of_lt hlen (by decide), ?_⟩
            generalize upd H5 sn (.lst (us' ++ [.ref t])) = H6 at ju jm2 jw2 jh2 jt2 j32 hq2
            refine ⟨_, rfl, _, _, _, .int _, rfl, rfl, SqT.of hq2, at_in (by decide) rfl, _, rfl, _, rfl, _, _, _, .int _, rfl, rfl, SqT.of hq2, at_in (by decide) rfl, ?_⟩
            have hfl : ∀ (ws : List (Int × Int)) (l : List Int), (ws.foldl (fun l x => l.set x.1.toNat x.2) l).length = l.length := fun ws => by
              induction ws with
              | nil => exact fun l => rfl
              | cons x ws ih => exact fun l => (ih _).trans List.length_set
            refine ⟨hd, _, _, y.1.toNat, rfl, rfl, jh2, ?_, ?_⟩
            · unfold ixN
              rw [List.length_map, hfl, if_pos hyin.1, if_pos hyin.2]
            have kh : ∀ q o, H6 q = some o → q ≠ hd → ∀ u, upd H6 hd (.lst u) q = some o := fun q o e n u => by
              rw [upd_ne n]
              exact e
            refine ⟨⟨_, rfl⟩, kh _ _ j32 n3h _, ?_, kh _ _ jt2 e1.symm _, ju.keep jh2 e2 fun q o e n => kh _ _ e n _, jm2.mut nh, w_keep jw2 jh2 fun q o e n => kh _ _ e n _⟩
            rw [upd_same, List.take_add_one, hy, List.foldl_append]
            rw [show (some y).toList = [y] from rfl, List.foldl_cons, List.foldl_nil, List.map_set]
          · obtain ⟨⟨v10, rfl⟩, j3, jh, jt, js, jm, jw⟩ := h
            rw [jw.1, List.take_length] at jh js
            rw [← hWR, ← hRD, List.append_assoc, ← htw, ← List.append_assoc] at js
            rw [← hWR, ← hbw] at jh
            rw [← hTD] at jt
            refine ⟨_, rfl, _, _, rfl, rfl, ?_⟩
            rw [hPL, hpx] at hni hst
            refine ⟨n - (k + 1), by omega, k + 1, ⟨_, _, _, _⟩, _, _, _, _, rfl, by omega, by rw [show ((n : Int) - (((k + 1 : Nat)) : Int)) = (n : Int) - (k : Int) - 1 by omega]; rfl, ?_, hni.1, hni.2, hbx.trans hbl, ?_, ?_, jm, jh, jt, js⟩
            · refine Eq.trans (congrArg (runM rows (n - (k + 1))) (show _ = stepM rows z from hst.symm)) ?_
              rw [← hrun, show n - k = (n - (k + 1)) + 1 by omega]
              exact (if_pos hp).symm
            · simp only [List.length_append]
              omega
            · simp only [List.length_append]
              omega
    | @tell o o0 o1 =>
        refine ⟨_, rfl, _, _, _, .str _, rfl, rfl, hT, at_in (by decide) rfl, rfl, false, bl_of (by decide +kernel), ?_⟩
        refine ⟨_, rfl, _, _, _, .str _, rfl, rfl, hT, at_in (by decide) rfl, rfl, false, bl_of (by decide +kernel), ?_⟩
        refine ⟨_, rfl, _, _, _, .str _, rfl, rfl, hT, at_in (by decide) rfl, rfl, true, bl_of (by decide +kernel), ?_⟩
        refine ⟨_, rfl, .inl ⟨rfl, _, SqL.of gt⟩, _, rfl, _, rfl, _, _, _, .int _, rfl, rfl, hT, at_in (by decide) rfl, hd, _, _, _, rfl, rfl, SqL.of gh, at0_at o0 o1, tl, _, _, rfl, rfl, gt, by rw [List.length_map]; exact small1000 (by omega), ?_⟩
        have kt : ∀ q o', H1 q = some o' → q ≠ tl → upd H1 tl (.lst (z.tv.map V.int ++ [.int (at0 z.bs o)])) q = some o' := fun q o' e n => by
          rw [upd_ne n]
          exact e
        have gt2 : upd H1 tl (.lst (z.tv.map V.int ++ [.int (at0 z.bs o)])) tl = some (.lst ((z.tv ++ TD).map V.int)) := by
          rw [upd_same, List.map_append, ← hTD]
          rfl
        have gh2 := kt _ _ gh e1
        have hs2 := hsn.keep gt e3 kt
        have hS2 := sm.mut (o := .lst (z.tv.map V.int ++ [.int (at0 z.bs o)])) nt0
        have hT2 := hS2.sqt hT0
        generalize upd H1 tl (.lst (z.tv.map V.int ++ [.int (at0 z.bs o)])) = H2 at gt2 gh2 hs2 hS2 hT2
        have hpx : PL = z.place + 1 := hPL.symm.trans rfl
        refine ⟨_, rfl, _, rfl, a, hd, _, _, z.bs, _, rfl, hT2, SqL.of gh2, hro1, fun H3 p3 us t3 n3 g3 hW => ?_⟩
        rw [hWR] at hW
        have n3s : p3 ≠ sn := by
          obtain ⟨_, hu, _⟩ := id hs2
          exact (ne_of_none hu n3).symm
        have n3h : p3 ≠ hd := (ne_of_none gh2 n3).symm
        refine ⟨_, rfl, _, rfl, a, hd, _, _, z.bs, _, rfl, t3.sqt hT2, SqL.of (t3 _ _ gh2), hro1, fun H4 p4 t4 n4 g4 => ?_⟩
        rw [hRD] at g4
        have n4s : p4 ≠ sn := by
          obtain ⟨_, hu, _⟩ := id (hs2.same t3)
          exact (ne_of_none hu n4).symm
        have hrl : RD.length ≤ 2 := by rw [← hRD]; exact reads_len _ _ _
        refine ⟨p4, rfl, ⟨_, SqL.of g4⟩, for_list (xs := RD.map V.int) (fun i σ H' => (∃ v9, σ = [some (.ref rw_), some (.ref gb), some (.int ((n : Int) - (k : Int))), some (.ref hd), some (.ref tl), some (.ref sn), some (.int (z.place + 1)), some (.ref a), some (.ref p3), v9, v10]) ∧ H' p4 = some (.lst (RD.map V.int)) ∧ H' hd = some (.lst (z.bs.map V.int)) ∧ H' tl = some (.lst ((z.tv ++ TD).map V.int)) ∧ TchAt H' sn (z.ts ++ (RD.take i).map rdT) ∧ Same H H' ∧ H' p3 = some (.lst us) ∧ WAt H' us WR)
          ⟨⟨_, rfl⟩, g4, t4 _ _ (t3 _ _ gh2), t4 _ _ (t3 _ _ gt2), by rw [List.take_zero, List.map_nil, List.append_nil]; exact (hs2.same t3).same t4, (hS2.trans t3).trans t4, t4 _ _ g3, w_same hW t4⟩ (fun i σ H' _ h => SqL.of h.2.1) (fun i x σ H' hi h => ?_) (fun σ H' h => ?_)⟩
        · obtain ⟨⟨v9, rfl⟩, i4, ih, it, is_, im, i3, iw⟩ := h
          obtain ⟨b', hb', rfl⟩ : ∃ b', RD[i]? = some b' ∧ x = V.int b' := by
            rw [List.getElem?_map] at hi
            obtain ⟨b', e, e'⟩ := Option.map_eq_some_iff.mp hi
            exact ⟨b', e, e'.symm⟩
          obtain ⟨us', hu, hul, _⟩ := id is_
          refine ⟨_, rfl, .inl ⟨rfl, _, SqL.of hu⟩, _, rfl, sz_ok rfl, fun t nt => ?_⟩
          have st : Same H' (upd H' t (.tup [.str "read", .int b'])) := Same.new nt
          have gt_ : upd H' t (.tup [.str "read", .int b']) t = some (.tup (tchV (rdT b'))) := upd_same
          generalize upd H' t (.tup [.str "read", .int b']) = H5 at st gt_
          have hlen : us'.length ≤ 6000 := by
            rw [hul, List.length_append, List.length_map, List.length_take]
            omega
          have kp : ∀ q o, H5 q = some o → q ≠ sn → upd H5 sn (.lst (us' ++ [.ref t])) q = some o := fun q o e n => by
            rw [upd_ne n]
            exact e
          refine ⟨sn, us', _, rfl, rfl, st _ _ hu, Nat.lt_of_le_of_lt hlen (by decide), ⟨_, rfl⟩, kp _ _ (st _ _ i4) n4s, kp _ _ (st _ _ ih) e2, kp _ _ (st _ _ it) e3, ?_, (im.trans st).mut ns0, kp _ _ (st _ _ i3) n3s, w_keep (w_same iw st) (st _ _ hu) kp⟩
          rw [List.take_add_one, hb', List.map_append, ← List.append_assoc]
          exact (is_.same st).push (st _ _ hu) gt_
        · obtain ⟨⟨v9, rfl⟩, i4, ih, it, is_, im, i3, iw⟩ := h
          rw [List.length_map, List.take_length] at is_
          refine ⟨_, rfl, p3, rfl, ⟨_, SqL.of i3⟩, for_list (xs := us) (fun i σ H' => (∃ v10, σ = [some (.ref rw_), some (.ref gb), some (.int ((n : Int) - (k : Int))), some (.ref hd), some (.ref tl), some (.ref sn), some (.int (z.place + 1)), some (.ref a), some (.ref p3), v9, v10]) ∧ H' p3 = some (.lst us) ∧ H' hd = some (.lst (((WR.take i).foldl (fun l x => l.set x.1.toNat x.2) z.bs).map V.int)) ∧ H' tl = some (.lst ((z.tv ++ TD).map V.int)) ∧ TchAt H' sn (z.ts ++ RD.map rdT ++ (WR.take i).map wrT) ∧ Same H H' ∧ WAt H' us WR)
            ⟨⟨_, rfl⟩, i3, ih, it, by rw [List.take_zero, List.map_nil, List.append_nil]; exact is_, im, iw⟩ (fun i σ H' _ h => SqL.of h.2.1) (fun i x σ H' hi h => ?_) (fun σ H' h => ?_)⟩
          · obtain ⟨⟨v10, rfl⟩, j3, jh, jt, js, jm, jw⟩ := h
            obtain ⟨y, hy⟩ : ∃ y, WR[i]? = some y := ⟨_, List.getElem?_eq_getElem (by have := (List.getElem?_eq_some_iff.mp hi).1; have := jw.1; omega)⟩
            obtain ⟨q', eq1, hq'⟩ := jw.2 i y hy
            rw [hi] at eq1
            cases eq1
            have hyin := hwin y (by rw [hWR]; exact List.mem_of_getElem? hy)
            obtain ⟨us', hu, hul, _⟩ := id js
            refine ⟨_, rfl, .inl ⟨rfl, _, SqL.of hu⟩, _, rfl, _, _, _, .int _, rfl, rfl, SqT.of hq', at_in (by decide) rfl, sz_ok rfl, fun t nt => ?_⟩
            have st : Same H' (upd H' t (.tup [.str "write", .int y.1])) := Same.new nt
            have gt_ : upd H' t (.tup [.str "write", .int y.1]) t = some (.tup (tchV (wrT y))) := upd_same
            generalize upd H' t (.tup [.str "write", .int y.1]) = H5 at st gt_
            have hwl : WR.length ≤ 1 := by rw [← hWR]; exact writes_len _ _ _
            have hlen : us'.length ≤ 6000 := by
              rw [hul, List.length_append, List.length_append, List.length_map, List.length_map, List.length_take]
              omega
            have kp : ∀ q o, H5 q = some o → q ≠ sn → upd H5 sn (.lst (us' ++ [.ref t])) q = some o := fun q o e n => by
              rw [upd_ne n]
              exact e
            have ju : TchAt (upd H5 sn (.lst (us' ++ [.ref t]))) sn (z.ts ++ RD.map rdT ++ (WR.take (i + 1)).map wrT) := by
              rw [List.take_add_one, hy, List.map_append, ← List.append_assoc]
              exact (js.same st).push (st _ _ hu) gt_
            have jm2 := (jm.trans st).mut (o := .lst (us' ++ [.ref t])) ns0
            have jw2 := w_keep (w_same jw st) (st _ _ hu) kp
            have jh2 := kp _ _ (st _ _ jh) e2
            have jt2 := kp _ _ (st _ _ jt) e3
            have j32 := kp _ _ (st _ _ j3) n3s
            have hq2 := kp _ _ (st _ _ hq') fun z => by rw [z, hu] at hq'; cases hq'
            refine ⟨sn, us', _, rfl, rfl, st _ _ hu, Nat.lt_of_le_of_lt hlen (by decide), ?_⟩
            generalize upd H5 sn (.lst (us' ++ [.ref t])) = H6 at ju jm2 jw2 jh2 jt2 j32 hq2
            refine ⟨_, rfl, _, _, _, .int _, rfl, rfl, SqT.of hq2, at_in (by decide) rfl, _, rfl, _, rfl, _, _, _, .int _, rfl, rfl, SqT.of hq2, at_in (by decide) rfl, ?_⟩
            have hfl : ∀ (ws : List (Int × Int)) (l : List Int), (ws.foldl (fun l x => l.set x.1.toNat x.2) l).length = l.length := fun ws => by
              induction ws with
              | nil => exact fun l => rfl
              | cons x ws ih => exact fun l => (ih _).trans List.length_set
            refine ⟨hd, _, _, y.1.toNat, rfl, rfl, jh2, ?_, ?_⟩
            · unfold ixN
              rw [List.length_map, hfl, if_pos hyin.1, if_pos hyin.2]
            have kh : ∀ q o, H6 q = some o → q ≠ hd → ∀ u, upd H6 hd (.lst u) q = some o := fun q o e n u => by
              rw [upd_ne n]
              exact e
            refine ⟨⟨_, rfl⟩, kh _ _ j32 n3h _, ?_, kh _ _ jt2 e1.symm _, ju.keep jh2 e2 fun q o e n => kh _ _ e n _, jm2.mut nh, w_keep jw2 jh2 fun q o e n => kh _ _ e n _⟩
            rw [upd_same, List.take_add_one, hy, List.foldl_append]
            rw [show (some y).toList = [y] from rfl, List.foldl_cons, List.foldl_nil, List.map_set]
          · obtain ⟨⟨v10, rfl⟩, j3, jh, jt, js, jm, jw⟩ := h
            rw [jw.1, List.take_length] at jh js
            rw [← hWR, ← hRD, List.append_assoc, ← htw, ← List.append_assoc] at js
            rw [← hWR, ← hbw] at jh
            rw [← hTD] at jt
            refine ⟨_, rfl, _, _, rfl, rfl, ?_⟩
            rw [hPL, hpx] at hni hst
            refine ⟨n - (k + 1), by omega, k + 1, ⟨_, _, _, _⟩, _, _, _, _, rfl, by omega, by rw [show ((n : Int) - (((k + 1 : Nat)) : Int)) = (n : Int) - (k : Int) - 1 by omega]; rfl, ?_, hni.1, hni.2, hbx.trans hbl, ?_, ?_, jm, jh, jt, js⟩
            · refine Eq.trans (congrArg (runM rows (n - (k + 1))) (show _ = stepM rows z from hst.symm)) ?_
              rw [← hrun, show n - k = (n - (k + 1)) + 1 by omega]
              exact (if_pos hp).symm
            · simp only [List.length_append]
              omega
            · simp only [List.length_append]
              omega

def spSizeBy : Sp := fun vs H Q _ => ∃ c : Int, vs = [.int c] ∧ ∀ z H', 1 ≤ z → z ≤ 200 → Same H H' → Q (.int z) H'
abbrev s__law_size_by : Stmt := top 28
abbrev N__law_size_by : List Str := ["_law_cell"]
theorem S__law_size_by : FnScope N__law_size_by ["_law_cell"] (defScope s__law_size_by) := ⟨rfl, rfl, rfl, by decide +kernel, rfl, by decide +kernel, by decide +kernel⟩

theorem c_size_by (T : Txt K w mg) (D : DefAt K "_law_size_by" s__law_size_by) : Cal P w K mg base CX0 1 "_law_size_by" spSizeBy := by
  have S := S__law_size_by
  refine cal_of T.toTop D S (fun _ _ _ _ _ _ us hl => match us, hl with | [_], _ => rfl) (fun vs H Q E h => ?_) (fun f cdv A outer s H vs Q E hr h => ?_)
  · obtain ⟨c, rfl, _⟩ := h
    rfl
  · obtain ⟨c, rfl, q⟩ := h
    refine ⟨_, (pss_one (ps_ret (pe_ix ix_list (pe_lst (pa_cons (pe_op op_add pe_int (pe_op op_mod (pe_op op_fdiv (pv 0) pe_int) pe_int)) (pa_cons (pe_op op_add pe_int (pe_op op_mod (pe_op op_fdiv (pv 0) pe_int) pe_int)) (pa_cons (pe_op op_add pe_int (pe_op op_mod (pe_op op_fdiv (pv 0) pe_int) pe_int)) (pa_cons pe_int pa_nil))))) (pe_ix ix_list (pe_lst (pa_cons pe_int (pa_cons pe_int (pa_cons pe_int (pa_cons pe_int (pa_cons pe_int (pa_cons pe_int (pa_cons pe_int (pa_cons pe_int pa_nil))))))))) (pe_op op_mod (pv 0) pe_int) (fun _ _ => rfl)) (fun _ _ => rfl)))), ?_⟩
    repeat walk_at "rd"
    refine ⟨sz_ok rfl, fun p1 n1 => ?_⟩
    repeat walk_at "rd"
    refine ⟨sz_ok rfl, fun p2 n2 => ?_⟩
    repeat walk_at "rd"
    refine ⟨p2, _, _, _, rfl, rfl, SqL.of upd_same, at_ints_mod (ns := [0, 0, 0, 0, 1, 2, 2, 3]) c (by decide) rfl, ?_⟩
    have hi : ∀ k, k < 8 → ([0, 0, 0, 0, 1, 2, 2, 3] : List Int).getD k 0 = 0 ∨ ([0, 0, 0, 0, 1, 2, 2, 3] : List Int).getD k 0 = 1 ∨ ([0, 0, 0, 0, 1, 2, 2, 3] : List Int).getD k 0 = 2 ∨ ([0, 0, 0, 0, 1, 2, 2, 3] : List Int).getD k 0 = 3 := by decide
    have hi := hi (c % 8).toNat (by omega)
    generalize ([0, 0, 0, 0, 1, 2, 2, 3] : List Int).getD (c % 8).toNat 0 = i at hi
    refine ⟨p1, _, _, _, rfl, rfl, SqL.of (Same.new n2 _ _ upd_same), at_ints (ns := [_, _, _, _]) (by omega) (by show i < 4; omega), q _ _ ?_ ?_ ((Same.new n1).trans (Same.new n2))⟩
    all_goals
      rcases hi with rfl | rfl | rfl | rfl
      all_goals
        first
        | (show (1 : Int) ≤ 1 + c / 8 % 9; omega)
        | (show (1 : Int) ≤ 1 + c / 8 % 3; omega)
        | (show (1 : Int) ≤ 10 + c / 8 % 190; omega)
        | (show (1 : Int) ≤ 200; omega)
        | (show 1 + c / 8 % 9 ≤ (200 : Int); omega)
        | (show 1 + c / 8 % 3 ≤ (200 : Int); omega)
        | (show 10 + c / 8 % 190 ≤ (200 : Int); omega)
        | (show (200 : Int) ≤ 200; omega)

theorem touches_kind (wd : Str) (ns bs : List Int) : ∀ t ∈ touchesOf wd ns bs, t.1 = "read" ∨ t.1 = "write" := by
  unfold touchesOf
  dsimp only
  repeat' split
  all_goals simp
theorem nextT_kind (wd : Str) (ns : List Int) : ∀ t ∈ nextT wd ns, t.1 = "read" ∨ t.1 = "write" := by
  unfold nextT
  split
  all_goals simp
theorem runM_kind {rows : List Rw} : ∀ (n : Nat) (s : Ms), (∀ t ∈ s.ts, t.1 = "read" ∨ t.1 = "write") → ∀ t ∈ (runM rows n s).ts, t.1 = "read" ∨ t.1 = "write"
  | 0, s, h => h
  | n + 1, s, h => by
    by_cases hp : s.place < (rows.length : Nat)
    · rw [show runM rows (n + 1) s = runM rows n (stepM rows s) from if_pos hp]
      refine runM_kind n _ ?_
      unfold stepM
      cases e : rows[s.place.toNat]? with
      | none => exact h
      | some r =>
        intro t ht
        rcases List.mem_append.mp ht with ht | ht
        · rcases List.mem_append.mp ht with ht | ht
          · exact h t ht
          · exact touches_kind _ _ _ t ht
        · exact nextT_kind _ _ t ht
    · rw [show runM rows (n + 1) s = s from if_neg hp]
      exact h
/-- the machine's bounds -/
theorem runM_len {rows : List Rw} : ∀ (n : Nat) (s : Ms), (runM rows n s).bs.length = s.bs.length ∧ (runM rows n s).tv.length ≤ s.tv.length + n ∧ (runM rows n s).ts.length ≤ s.ts.length + 5 * n
  | 0, s => ⟨rfl, Nat.le_refl _, Nat.le_refl _⟩
  | n + 1, s => by
    by_cases hp : s.place < (rows.length : Nat)
    · rw [show runM rows (n + 1) s = runM rows n (stepM rows s) from if_pos hp]
      obtain ⟨h1, h2, h3⟩ := runM_len (rows := rows) n (stepM rows s)
      have e : (stepM rows s).bs.length = s.bs.length ∧ (stepM rows s).tv.length ≤ s.tv.length + 1 ∧ (stepM rows s).ts.length ≤ s.ts.length + 5 := by
        unfold stepM
        cases rows[s.place.toNat]? with
        | none => exact ⟨rfl, Nat.le_succ _, Nat.le_add_right _ _⟩
        | some r =>
          have a1 := touches_len r.1 r.2 s.bs
          have a2 := nextT_len r.1 r.2
          have a3 := told_len r.1 r.2 s.bs
          refine ⟨boxes_len _ _ _, ?_, ?_⟩
          · simp only [List.length_append]; omega
          · simp only [List.length_append]; omega
      omega
    · rw [show runM rows (n + 1) s = s from if_neg hp]
      omega
def tchD (t : Str × Int) : PyData := .tuple [.str t.1, .int t.2]
theorem tch_ok {t : Str × Int} (h : t.1 = "read" ∨ t.1 = "write") : okD 1 (tchD t) := .tup fun d hd => by
  rcases List.mem_cons.mp hd with rfl | hd
  · exact .str _ (by rcases h with h | h <;> rw [h] <;> decide +kernel)
  · cases List.mem_singleton.mp hd
    exact .int _ _
theorem TchAt.dp {H : Hp} {lt : Addr} {ts : List (Str × Int)} (h : TchAt H lt ts) : Dp K H (.ref lt) (.list (ts.map tchD)) := by
  obtain ⟨us, h1, h2, h3⟩ := h
  refine .lst (SqL.of h1) (dpA_by (by rw [List.length_map]; exact h2) fun j v e => ?_)
  have hj : j < ts.length := by
    obtain ⟨hj, _⟩ := List.getElem?_eq_some_iff.mp e
    omega
  obtain ⟨q, e1, e2⟩ := h3 j _ (List.getElem?_eq_getElem hj)
  rw [e] at e1
  cases e1
  exact ⟨tchD ts[j], by rw [List.getElem?_map, List.getElem?_eq_getElem hj]; rfl, .tup (SqT.of e2) (.cons (.str _) (.cons (.int _) .nil))⟩
theorem tchs_ok {ts : List (Str × Int)} (h : ∀ t ∈ ts, t.1 = "read" ∨ t.1 = "write") : okD 2 (.list (ts.map tchD)) := .lst fun d hd => by
  obtain ⟨t, ht, rfl⟩ := List.mem_map.mp hd
  exact tch_ok (h t ht)
theorem row_word {size count : Int} {wd : Str} {ns : List Int} (h : RowOk size count wd ns) : PyData.strOk wd = true := by cases h <;> decide +kernel
theorem row_ok {size count : Int} {r : Rw} (h : RowOk size count r.1 r.2) : okD 1 (rowD r) := .tup fun d hd => by
  rcases List.mem_cons.mp hd with rfl | hd
  · exact .str _ (row_word h)
  · obtain ⟨i, _, rfl⟩ := List.mem_map.mp hd
    exact .int _ _
theorem rows_ok {size count : Int} {rows : List Rw} (h : ∀ r ∈ rows, RowOk size count r.1 r.2) : okD 2 (.list (rows.map rowD)) := .lst fun d hd => by
  obtain ⟨r, hr, rfl⟩ := List.mem_map.mp hd
  exact row_ok (h r hr)
theorem end_str {rows : List Rw} {z : Ms} : PyData.strOk (endOf rows z) = true := by
  unfold endOf
  split <;> decide +kernel
theorem RowsAt.same {H H' : Hp} {xs : List V} {rows : List Rw} (h : RowsAt K H xs rows) (s : Same H H') : RowsAt K H' xs rows := ⟨h.1, fun j r e => by
  obtain ⟨a, e1, e2⟩ := h.2 j r e
  exact ⟨a, e1, s.sqt e2⟩⟩
theorem kind_ok {t : Str × Int} (h : t.1 = "read" ∨ t.1 = "write") : SeqAt.shaped (.tuple ((tchV t).map dOf)) = true := shaped_tup (by
  show (PyData.strOk t.1 && (true && true)) = true
  rcases h with h | h <;> rw [h] <;> decide +kernel)
theorem bs_shaped (bs : List Int) : SeqAt.shaped (.list ((bs.map V.int).map dOf)) = true := shaped_lst (lay_ints bs)

def bxv (ns : List Int) (i : Nat) : Int := numberBy (mixed (cellAt ns (3 + (0 + (i : Int)) % 5) + (0 + (i : Int)) / 5) / 5)
theorem rows_shaped {size count : Int} {wd : Str} {nr : List Int} (h : RowOk size count wd nr) : SeqAt.shaped (.list [.tuple ((V.str wd :: nr.map V.int).map dOf)]) = true := by
  have hw : PyData.strOk wd = true := by cases h <;> decide +kernel
  unfold SeqAt.shaped
  have e1 : PyData.canLay0 (.list [.tuple ((V.str wd :: nr.map V.int).map dOf)]) = true := by
    show ((PyData.strOk wd && PyData.canLayAll0 ((nr.map V.int).map dOf)) && true) = true
    rw [hw, lay_ints]
    rfl
  have e2 : PyData.depth (.list [.tuple ((V.str wd :: nr.map V.int).map dOf)]) ≤ 64 := by
    rw [PyData.depth, PyData.depthAll, PyData.depth, depth_flat]
    decide
  rw [e1, decide_eq_true e2]
  rfl
abbrev s_law : Stmt := top 33
abbrev N_law : List Str := ["_law_script", "_law_size", "_law_k", "_law_boxes", "_law_rows", "_law_steps", "_law_due", "_law_given", "_law_program", "_law_found"]
theorem S_law : FnScope N_law ["_law_script"] (defScope s_law) := ⟨rfl, rfl, rfl, by decide +kernel, rfl, by decide +kernel, by decide +kernel⟩

theorem ok_law (T : Txt K w mg) (D : DefAt K "law" s_law)
    (c_cell : ∀ base, Cal P w K mg base CX0 1 "_law_cell_at" (spCellAt K)) (c_mix : ∀ base, Cal P w K mg base CX0 1 "_law_mixed" spMixed) (c_num : ∀ base, Cal P w K mg base CX0 2 "_law_number_by" spNumberBy) (c_size : ∀ base, Cal P w K mg base CX0 1 "_law_size_by" spSizeBy) (c_row : ∀ base, Cal P w K mg base CX0 3 "_law_row_by" spRowBy)
    (c_runby : ∀ base, Cal P w K mg base CX0 3 "_law_run_by" (spRunBy K)) (c_run : ∀ base, Cal P w K mg base CX0 5 "run" (spRun K)) (c_wh : ∀ base, Cal P w K mg base CX0 1 "_law_whole" (spWhole K)) (c_whs : ∀ base, Cal P w K mg base CX0 2 "_law_wholes" (spWholes K)) : LawOk P w K mg 6 := by
  have S := S_law
  refine law_of T.toTop D S (fun _ _ _ _ _ _ _ => rfl) (fun base f cdv A outer s H a ns Q E hr hS hlen q => ?_)
  have C__law_cell_at := c_cell base
  have C__law_mixed := c_mix base
  have C__law_number_by := c_num base
  have C__law_size_by := c_size base
  have C__law_row_by := c_row base
  have C__law_run_by := c_runby base
  have C_run := c_run base
  have C__law_whole := c_wh base
  have C__law_wholes := c_whs base
  have hu64 := hu64_of hr
  refine ⟨_, (pss_cons (ps_set (i := 1) S.nd rfl (Or.inl rfl) (pe_c C__law_size_by hr (by decide) rfl (pa_cons (pe_c C__law_cell_at hr (by decide) rfl (pa_cons (pv 0) (pa_cons pe_int pa_nil))) pa_nil)))
  (pss_cons (ps_setLc (i := 3) (own := [("_law_k", 2)]) (g := gName 2) (tt := tYes) rfl S.nd rfl rfl (sw_true rfl rfl rfl (by decide +kernel)) (pi_range1 rfl T.range (pa_cons (pv 1) pa_nil)) (blkOk_by (own := [("_law_k", 2)]) (N := N_law) (sc := defScope s_law) (by decide +kernel)) (fun _ _ _ _ _ => pg_name (i := 2) S.nd rfl (Or.inl rfl)) (fun _ _ _ _ _ => pts_nil) (fun _ _ _ _ _ => (pe_c C__law_number_by hr (by decide) rfl (pa_cons (pe_op op_fdiv (pe_c C__law_mixed hr (by decide) rfl (pa_cons (pe_op op_add (pe_c C__law_cell_at hr (by decide) rfl (pa_cons (pv 0) (pa_cons (pe_op op_add pe_int (pe_op op_mod (pv 2) pe_int)) pa_nil))) (pe_op op_fdiv (pv 2) pe_int)) pa_nil)) pe_int) pa_nil))))
  (pss_cons (ps_set (i := 4) S.nd rfl (Or.inl rfl) (pe_lst (pa_cons (pe_c C__law_row_by hr (by decide) rfl (pa_cons (pe_c C__law_cell_at hr (by decide) rfl (pa_cons (pv 0) (pa_cons pe_int pa_nil))) (pa_cons (pv 1) (pa_cons pe_int pa_nil)))) pa_nil)))
  (pss_cons (ps_set (i := 5) S.nd rfl (Or.inl rfl) (pe_op op_sub pe_int (pe_callTy call_int1 (by rfl) T.int (by decide +kernel) (pa_cons (pe_cmpR op_eq (pe_op op_mod (pe_c C__law_cell_at hr (by decide) rfl (pa_cons (pv 0) (pa_cons pe_int pa_nil))) pe_int) pe_int (nomark _)) pa_nil))))
  (pss_cons (ps_set (i := 6) S.nd rfl (Or.inl rfl) (pe_c C__law_run_by hr (by decide) rfl (pa_cons (pv 4) (pa_cons (pv 3) (pa_cons (pv 5) pa_nil)))))
  (pss_cons (ps_set (i := 7) S.nd rfl (Or.inl rfl) (pe_callTy call_list_of (by rfl) T.list (by decide +kernel) (pa_cons (pv 3) pa_nil)))
  (pss_cons (ps_set (i := 8) S.nd rfl (Or.inl rfl) (pe_callTy call_list_of (by rfl) T.list (by decide +kernel) (pa_cons (pv 4) pa_nil)))
  (pss_cons (ps_set (i := 9) S.nd rfl (Or.inl rfl) (pe_c C_run hr (by decide) rfl (pa_cons (pv 8) (pa_cons (pv 7) (pa_cons (pv 5) pa_nil)))))
  (pss_cons (ps_if (PW.pt (pw_or (pt_not (pt_val (pe_callB call_isi (by rfl) T.isinstance (by decide +kernel) (pa_cons (pv 9) (pa_cons ((pe_bltn (v := .ty "tuple") (u := .type "tuple") rfl T.tuple (by decide +kernel) rfl)) pa_nil))))) (pw_or (pt_cmpR op_ne (pe_callB call_len_seq (by rfl) T.len PySem.boot_len (pa_cons (pv 9) pa_nil)) pe_int (nomark _)) (pw_or (pt_cmpR (op_neD hu64) (pv 7) (pv 3) (nomark _)) (pw_or1 (pt_cmpR (op_neD hu64) (pv 8) (pv 4) (nomark _))))))) (pss_one (ps_ret pe_bl)) pss_nil)
  (pss_cons (ps_if (PW.pt (pw_or (pt_not (pt_val (pe_c C__law_wholes hr (by decide) rfl (pa_cons (pe_ix ix_tup (pv 9) pe_int (fun _ _ => rfl)) (pa_cons (pe_ix ix_tup (pv 6) pe_int (fun _ _ => rfl)) pa_nil))))) (pw_or (pt_not (pt_val (pe_callB call_isi (by rfl) T.isinstance (by decide +kernel) (pa_cons (pe_ix ix_tup (pv 9) pe_int (fun _ _ => rfl)) (pa_cons ((pe_bltn (v := .ty "str") (u := .type "str") rfl T.str (by decide +kernel) rfl)) pa_nil))))) (pw_or1 (pt_cmpR op_ne (pe_ix ix_tup (pv 9) pe_int (fun _ _ => rfl)) (pe_ix ix_tup (pv 6) pe_int (fun _ _ => rfl)) (nomark _)))))) (pss_one (ps_ret pe_bl)) pss_nil)
  (pss_cons (ps_if (PW.pt (pw_or (pt_not (pt_val (pe_c C__law_wholes hr (by decide) rfl (pa_cons (pe_ix ix_tup (pv 9) pe_int (fun _ _ => rfl)) (pa_cons (pe_ix ix_tup (pv 6) pe_int (fun _ _ => rfl)) pa_nil))))) (pw_or (pt_not (pt_val (pe_callB call_isi (by rfl) T.isinstance (by decide +kernel) (pa_cons (pe_ix ix_tup (pv 9) pe_int (fun _ _ => rfl)) (pa_cons ((pe_bltn (v := .ty "list") (u := .type "list") rfl T.list (by decide +kernel) rfl)) pa_nil))))) (pw_or1 (pt_cmpR op_ne (pe_callB call_len_seq (by rfl) T.len PySem.boot_len (pa_cons (pe_ix ix_tup (pv 9) pe_int (fun _ _ => rfl)) pa_nil)) (pe_callB call_len_seq (by rfl) T.len PySem.boot_len (pa_cons (pe_ix ix_tup (pv 6) pe_int (fun _ _ => rfl)) pa_nil)) (nomark _)))))) (pss_one (ps_ret pe_bl)) pss_nil)
  (pss_cons (ps_for PassesOwn.never rfl (pi_range1 rfl T.range (pa_cons (pe_callB call_len_seq (by rfl) T.len PySem.boot_len (pa_cons (pe_ix ix_tup (pv 6) pe_int (fun _ _ => rfl)) pa_nil)) pa_nil)) (pg_name (i := 2) S.nd rfl (Or.inl rfl))
  (pss_one (ps_if (PW.pt (pw_or (pt_not (pt_val (pe_callB call_isi (by rfl) T.isinstance (by decide +kernel) (pa_cons (pe_ix ix_list (pe_ix ix_tup (pv 9) pe_int (fun _ _ => rfl)) (pv 2) (fun _ _ => rfl)) (pa_cons ((pe_bltn (v := .ty "tuple") (u := .type "tuple") rfl T.tuple (by decide +kernel) rfl)) pa_nil))))) (pw_or (pt_cmpR (op_neD hu64) (pe_ix ix_list (pe_ix ix_tup (pv 9) pe_int (fun _ _ => rfl)) (pv 2) (fun _ _ => rfl)) (pe_ix ix_list (pe_ix ix_tup (pv 6) pe_int (fun _ _ => rfl)) (pv 2) (fun _ _ => rfl)) (nomark _)) (pw_or1 (pt_not (pt_val (pe_c C__law_whole hr (by decide) rfl (pa_cons (pe_ix ix_tup (pe_ix ix_list (pe_ix ix_tup (pv 9) pe_int (fun _ _ => rfl)) (pv 2) (fun _ _ => rfl)) pe_int (fun _ _ => rfl)) pa_nil)))))))) (pss_one (ps_ret pe_bl)) pss_nil)))
  (pss_one (ps_ret pe_bl)))))))))))))), ?_⟩
  refine ⟨_, rfl, a, ns, 0, rfl, hS, by decide, _, rfl, fun sz H1 z1 z2 s1 => ?_⟩
  obtain ⟨N, rfl⟩ : ∃ N : Nat, sz = (N : Nat) := ⟨sz.toNat, by omega⟩
  refine ⟨_, rfl, _, rfl, by omega, by omega, fun p3 np3 => lc_fr (n := N) (fun i => some (.int (bxv ns i))) np3 (small1000 (by omega)) (fun i H' hi s k1 k0 h1 h0 => ?_) (fun H2 t2 g2 => ?_)⟩
  · refine ⟨rfl, _, rfl, _, rfl, _, _, rfl, rfl, (by show (0 : Int) < 5; decide), _, _, rfl, rfl, a, ns, _, rfl, (s1.trans s).seq hS, by omega, ?_⟩
    exact ⟨_, rfl, _, _, rfl, rfl, ⟨by decide, by decide⟩, _, _, rfl, rfl, _, rfl, _, _, rfl, rfl, ⟨by decide, by decide⟩, _, rfl, fun H'' s2 => h1 _ _ rfl s2⟩
  rw [fm_some, show (fun i => V.int (bxv ns i)) = V.int ∘ bxv ns from rfl, ← List.map_map] at g2
  have hbl : ((List.range N).map (bxv ns)).length = N := by rw [List.length_map, List.length_range]
  have hbb : ∀ b ∈ (List.range N).map (bxv ns), 0 ≤ b ∧ b < 1000000 := fun b hb => by
    obtain ⟨j, _, rfl⟩ := List.mem_map.mp hb
    exact ⟨numberBy_lo _, numberBy_hi _⟩
  generalize (List.range N).map (bxv ns) = bs at g2 hbl hbb
  subst hbl
  have s2 := s1.trans t2
  refine ⟨_, rfl, a, ns, 1, rfl, s2.seq hS, by decide, _, rfl, _, _, _, rfl, z1, z2, by decide, by decide, fun wd nr H3 pr hro t3 n3 g3 => ⟨sz_ok rfl, fun pw nw => ?_⟩⟩
  have g2' := t3 _ _ g2
  have s3 := s2.trans t3
  have t4 : Same H3 (upd H3 pw (.lst [.ref pr])) := Same.new nw
  have g4 : upd H3 pw (.lst [.ref pr]) pw = some (.lst [.ref pr]) := upd_same
  generalize upd H3 pw (.lst [.ref pr]) = H4 at t4 g4
  have s4 := s3.trans t4
  refine ⟨_, rfl, a, ns, 2, rfl, s4.seq hS, by decide, _, _, rfl, rfl, (by show (0 : Int) < 7; decide), rfl, .inr ⟨_, rfl, _, _, rfl, rfl, ?_⟩⟩
  obtain ⟨nn, hnn, hn1⟩ : ∃ nn : Nat, 1 - (if decide (V.int (cellAt ns 2 % 7) = V.int 3) = true then (1 : Int) else 0) = (nn : Nat) ∧ nn ≤ 1 := by
    cases decide (V.int (cellAt ns 2 % 7) = V.int 3) with
    | true => exact ⟨0, rfl, by decide⟩
    | false => exact ⟨1, rfl, by decide⟩
  have hRA : ∀ H' : Hp, Same H4 H' → RowsAt K H' [.ref pr] [(wd, nr)] := fun H' s => ⟨rfl, fun j r e => by
    match j, e with
    | 0, e => cases e; exact ⟨pr, rfl, SqT.of (s _ _ (t4 _ _ g3))⟩
    | j + 1, e => simp at e⟩
  have hRO : ∀ r ∈ [(wd, nr)], RowOk (bs.length : Nat) (([(wd, nr)] : List Rw).length : Nat) r.1 r.2 := fun r hr => by
    cases List.mem_singleton.mp hr
    exact hro
  refine ⟨_, rfl, _, rfl, _, rfl, pw, p3, _, [(wd, nr)], bs, nn, by rw [← hnn]; rfl, SqL.of g4, hRA _ (Same.refl _), SqL.of (t4 _ _ g2'), hRO, by omega, fun H5 dq dtl dhd dsn t5 _ _ _ gdt gdh gds gdq => ?_⟩
  refine ⟨_, rfl, p3, _, rfl, .inl (SqL.of (t5 _ _ (t4 _ _ g2'))), fun pg ng => ?_⟩
  have t6 : Same H5 (upd H5 pg (.lst (bs.map V.int))) := Same.new ng
  have g6 : upd H5 pg (.lst (bs.map V.int)) pg = some (.lst (bs.map V.int)) := upd_same
  generalize upd H5 pg (.lst (bs.map V.int)) = H6 at t6 g6
  refine ⟨_, rfl, pw, _, rfl, .inl (SqL.of (t6 _ _ (t5 _ _ g4))), fun pp npp => ?_⟩
  have t7 : Same H6 (upd H6 pp (.lst [.ref pr])) := Same.new npp
  have g7 : upd H6 pp (.lst [.ref pr]) pp = some (.lst [.ref pr]) := upd_same
  generalize upd H6 pp (.lst [.ref pr]) = H7 at t7 g7
  have t57 := t6.trans t7
  have t47 := t5.trans t57
  refine ⟨_, rfl, _, rfl, _, rfl, pp, pg, _, [(wd, nr)], bs, nn, by rw [← hnn]; rfl, SqL.of g7, hRA _ t47, SqL.of (t7 _ _ g6), hRO, (show 1 ≤ 200 by decide), hbb, by omega, by omega, by omega, fun H8 fq ftl flb flt t8 _ _ _ gft gfb gfs gfq => ?_⟩
  have t68 := t57.trans t8
  have g38 := t8 _ _ (t47 _ _ (t4 _ _ g2'))
  have g48 := t8 _ _ (t47 _ _ g4)
  have gpg := t8 _ _ (t7 _ _ g6)
  have gpp := t8 _ _ g7
  have gpr := t8 _ _ (t47 _ _ (t4 _ _ g3))
  have gdq8 := t68 _ _ gdq
  have gdt8 := t68 _ _ gdt
  have gdh8 := t68 _ _ gdh
  have gds8 := gds.same t68
  have hz : (runM [(wd, nr)] nn ⟨0, bs, [], []⟩).bs.length = bs.length ∧ (runM [(wd, nr)] nn ⟨0, bs, [], []⟩).tv.length ≤ nn := by
    have h1 : nn = 0 ∨ nn = 1 := by omega
    rcases h1 with rfl | rfl
    · exact ⟨rfl, Nat.le_refl _⟩
    · exact ⟨boxes_len _ _ _, told_len _ _ _⟩
  have hk_ := runM_kind (rows := [(wd, nr)]) nn ⟨0, bs, [], []⟩ (fun t h => by cases h)
  have htl : (runM [(wd, nr)] nn ⟨0, bs, [], []⟩).ts.length ≤ 5 := by
    have h1 : nn = 0 ∨ nn = 1 := by omega
    rcases h1 with rfl | rfl
    · exact Nat.zero_le _
    · have h2 := touches_len wd nr bs
      have h3 := nextT_len wd nr
      show ([] ++ touchesOf wd nr bs ++ nextT wd nr).length ≤ 5
      simp only [List.length_append, List.nil_append]
      omega
  generalize runM [(wd, nr)] nn ⟨0, bs, [], []⟩ = z at gdt8 gdh8 gds8 gdq8 gft gfb gfs gfq hz hk_ htl
  have hfl : (bs.map V.int).all flatV = true := by
    rw [List.all_map]
    exact List.all_eq_true.mpr fun _ _ => rfl
  have hrf : (V.str wd :: nr.map V.int).all flatV = true := by
    rw [List.all_cons, List.all_map]
    exact List.all_eq_true.mpr fun _ _ => rfl
  have hrs : SeqAt.shaped (.list [.tuple ((V.str wd :: nr.map V.int).map dOf)]) = true := rows_shaped hro
  have ne0 : ∀ d : PyData, SeqAt.shaped d = true → V.bl (!PyData.eqv d d) = V.bl false := fun d h => by rw [eqv_same h]; rfl
  refine ⟨_, rfl, _, _, _, _, _, rfl, .ty _, ty_t (SqT.of gfq), kit_ty (r := true) (by decide +kernel), _, rfl, ?_⟩
  refine ⟨_, rfl, fq, _, rfl, .inr (SqT.of gfq), rfl, false, rfl, ?_⟩
  refine ⟨_, rfl, _, rfl, _, _, dp_lst (SqL.of gpg) hfl, dp_lst (SqL.of g38) hfl, bs_shaped bs, bs_shaped bs, false, ne0 _ (bs_shaped bs), ?_⟩
  refine ⟨_, rfl, _, rfl, _, _, .lst (SqL.of gpp) (.cons (dp_tup (SqT.of gpr) hrf) .nil), .lst (SqL.of g48) (.cons (dp_tup (SqT.of gpr) hrf) .nil), hrs, hrs, false, ne0 _ hrs, ?_⟩
  refine ⟨_, rfl, fq, _, _, _, rfl, rfl, SqT.of gfq, at_in (by decide) rfl, _, rfl, dq, _, _, _, rfl, rfl, SqT.of gdq8, at_in (by decide) rfl, ftl, dtl, z.tv, rfl, SqL.of gft, SqL.of gdt8, by omega, _, rfl, ?_⟩
  refine ⟨_, rfl, fq, _, _, _, rfl, rfl, SqT.of gfq, at_in (by decide) rfl, _, _, _, _, _, rfl, .ty _, .base (.str _), kit_ty (r := true) (by decide +kernel), _, rfl, ?_⟩
  refine ⟨_, rfl, fq, _, _, _, rfl, rfl, SqT.of gfq, at_in (by decide) rfl, _, rfl, dq, _, _, _, rfl, rfl, SqT.of gdq8, at_in (by decide) rfl, rfl, false, bl_of (by rw [decide_eq_true rfl]; rfl), ?_⟩
  refine ⟨_, rfl, fq, _, _, _, rfl, rfl, SqT.of gfq, at_in (by decide) rfl, _, rfl, dq, _, _, _, rfl, rfl, SqT.of gdq8, at_in (by decide) rfl, flb, dhd, z.bs, rfl, SqL.of gfb, SqL.of gdh8, by omega, _, rfl, ?_⟩
  obtain ⟨us1, h1, l1, c1⟩ := gfs
  obtain ⟨us2, h2, l2, c2⟩ := gds8
  refine ⟨_, rfl, fq, _, _, _, rfl, rfl, SqT.of gfq, at_in (by decide) rfl, _, _, _, _, _, rfl, .ty _, ty_l (SqL.of h1), kit_ty (r := true) (by decide +kernel), _, rfl, ?_⟩
  refine ⟨_, rfl, fq, _, _, _, rfl, rfl, SqT.of gfq, at_in (by decide) rfl, flt, us1, rfl, .inl (SqL.of h1), _, rfl, dq, _, _, _, rfl, rfl, SqT.of gdq8, at_in (by decide) rfl, dsn, us2, rfl, .inl (SqL.of h2), rfl, false, bl_of (by rw [l1, l2, decide_eq_true rfl]; rfl), ?_⟩
  refine ⟨_, rfl, dq, _, _, _, rfl, rfl, SqT.of gdq8, at_in (by decide) rfl, dsn, us2, rfl, .inl (SqL.of h2), _, rfl, by omega, by omega, for_range (n := us2.length) (fun k σ H' => H' = H8 ∧ ∃ v2 : Option V, σ = [some (.ref a), some (.int (bs.length : Nat)), v2, some (.ref p3), some (.ref pw), some (.int (nn : Nat)), some (.ref dq), some (.ref pg), some (.ref pp), some (.ref fq)]) ⟨rfl, none, by rw [← hnn]; rfl⟩ (fun k σ H' hk ⟨eH, v2, eσ⟩ => ?_) (fun σ H' ⟨eH, v2, eσ⟩ => ?_)⟩
  · subst eH eσ
    have hkt : k < z.ts.length := by omega
    obtain ⟨q1, eq1, hq1⟩ := c1 k _ (List.getElem?_eq_getElem hkt)
    obtain ⟨q2, eq2, hq2⟩ := c2 k _ (List.getElem?_eq_getElem hkt)
    have hko := kind_ok (hk_ _ (List.getElem_mem hkt))
    generalize z.ts[k] = tt at hq1 hq2 hko
    have hat1 : atI us1 (0 + (k : Int)) = some (.ref q1) := at_in (by omega) (by rw [show (0 + (k : Int)).toNat = k by omega]; exact eq1)
    have hat2 : atI us2 (0 + (k : Int)) = some (.ref q2) := at_in (by omega) (by rw [show (0 + (k : Int)).toNat = k by omega]; exact eq2)
    refine ⟨_, rfl, fq, _, _, _, rfl, rfl, SqT.of gfq, at_in (by decide) rfl, _, rfl, flt, us1, _, .ref q1, rfl, rfl, SqL.of h1, hat1, _, _, _, _, _, rfl, .ty _, ty_t (SqT.of hq1), kit_ty (r := true) (by decide +kernel), _, rfl, ?_⟩
    refine ⟨_, rfl, fq, _, _, _, rfl, rfl, SqT.of gfq, at_in (by decide) rfl, _, rfl, flt, us1, _, .ref q1, rfl, rfl, SqL.of h1, hat1, _, rfl, dq, _, _, _, rfl, rfl, SqT.of gdq8, at_in (by decide) rfl, _, rfl, dsn, us2, _, .ref q2, rfl, rfl, SqL.of h2, hat2, _, _, dp_tup (SqT.of hq1) rfl, dp_tup (SqT.of hq2) rfl, hko, hko, false, ne0 _ hko, ?_⟩
    refine ⟨_, rfl, fq, _, _, _, rfl, rfl, SqT.of gfq, at_in (by decide) rfl, _, rfl, flt, us1, _, .ref q1, rfl, rfl, SqL.of h1, hat1, q1, _, _, .int tt.2, rfl, rfl, SqT.of hq1, at_in (by decide) rfl, _, "int", rfl, .base (.int _), by decide +kernel, by decide +kernel, _, rfl, ?_⟩
    exact ⟨rfl, _, rfl⟩
  · exact q H'

theorem isStr_lit (x z : Str) (t : Tok) : (Value.str x t).isStr z = decide (z = x) := by
  have h : (Value.str x t).isStr z = (x == z) := rfl
  rw [h, Bool.eq_iff_iff, beq_iff_eq, decide_eq_true_eq]
  exact eq_comm
/-- a written dict of tuples of texts, entry by entry -/
def TabOk (K : PySem.W.Frag) : List DictEntry → List (Str × List Str) → Prop
  | [], [] => True
  | e :: es, (k, l) :: r => (∃ t a, e.key = .str k t ∧ e.val = .ref a ∧ ∀ H, SqT K H a (l.map V.str)) ∧ e.refKey = false ∧ TabOk K es r
  | _, _ => False
theorem sqt_mk {K : PySem.W.Frag} {a : Addr} {dd : Option Addr} {us : Array Value} {n : Nat} {sl : Array (Option Value)} {xs : List V} (h : K.lookup a = some ⟨.type "tuple", dd, .seq us n, sl⟩) (hz : Nat.ble us.size 1000 = true) (hv : Vals xs us.toList) : ∀ H, SqT K H a xs :=
  fun H => .inr ⟨_, us, n, h, rfl, rfl, sz_ok hz, hv⟩
theorem tab_get {K : PySem.W.Frag} : ∀ {es : List DictEntry} {r : List (Str × List Str)}, TabOk K es r → ∀ z, (r.lookup z = none ∧ es.find? (·.key.isStr z) = none) ∨ ∃ l e a, r.lookup z = some l ∧ es.find? (·.key.isStr z) = some e ∧ e.val = .ref a ∧ ∀ H, SqT K H a (l.map V.str)
  | [], [], _, z => .inl ⟨rfl, rfl⟩
  | e :: es, (k, l) :: r, h, z => by
    obtain ⟨⟨t, a, hk, hv, hs⟩, _, hr⟩ := h
    by_cases hz : z = k
    · subst hz
      refine .inr ⟨l, e, a, by rw [List.lookup_cons]; simp, ?_, hv, hs⟩
      have h1 : e.key.isStr z = true := by rw [hk, isStr_lit]; exact decide_eq_true rfl
      exact List.find?_cons_of_pos (p := fun (x : DictEntry) => x.key.isStr z) h1
    · have e1 : ((k, l) :: r).lookup z = r.lookup z := by
        rw [List.lookup_cons, show (z == k) = false from beq_eq_false_iff_ne.mpr hz]
      have e2 : (e :: es).find? (·.key.isStr z) = es.find? (·.key.isStr z) := by
        have h1 : ¬ e.key.isStr z = true := by rw [hk, isStr_lit]; simp [hz]
        exact List.find?_cons_of_neg (p := fun (x : DictEntry) => x.key.isStr z) h1
      rw [e1, e2]
      exact tab_get hr z
  | [], _ :: _, h, _ => h.elim
  | _ :: _, [], h, _ => h.elim
theorem tab_ref {K : PySem.W.Frag} : ∀ {es : List DictEntry} {r : List (Str × List Str)}, TabOk K es r → es.any (·.refKey) = false
  | [], [], _ => rfl
  | e :: es, (k, l) :: r, h => by
    obtain ⟨_, h2, hr⟩ := h
    rw [List.any_cons, h2, tab_ref hr]
    rfl
  | [], _ :: _, h => h.elim
  | _ :: _, [], h => h.elim
theorem glob_mk {K : PySem.W.Frag} {x : Str} {v : V} {u : Value} (h : PySem.W.nsIn K mainGlobals x = some (some u)) (r : RelV v u) : ∃ u, PySem.W.nsIn K mainGlobals x = some (some u) ∧ RelV v u := ⟨u, h, r⟩
/-- the table of the rows' words, by its nine entries -/
theorem shapes_mk {K : PySem.W.Frag} {w : World} {mg : Str → Option Value} {dS : Addr} {es : Array DictEntry} {n : Nat} (g : mg "SHAPES" = some (.ref dS)) (at_ : K.lookup dS = some ⟨.type "dict", none,   .dict es n, #[]⟩) (low : (dS == sysModules) = false)
    (lit : PySem.W.KeysLit w.params es.toList) (tab : TabOk K es.toList sTab) : Shapes K w mg dS := by
  have hr := tab_ref tab
  have ns1 : ∀ z e, es.toList.find? (·.key.isStr z) = some e → PySem.W.nsIn K dS z = some (some e.val) := fun z e h => by
    unfold PySem.W.nsIn
    rw [at_]
    simp only [h]
  have ns0 : ∀ z, es.toList.find? (·.key.isStr z) = none → PySem.W.nsIn K dS z = some none := fun z h => by
    unfold PySem.W.nsIn
    rw [at_]
    simp only [h, hr]
    rfl
  refine ⟨g, ⟨es, n, at_, lit, low⟩, fun z hz => ?_, fun z l hz => ?_⟩
  · rcases tab_get tab z with ⟨_, h⟩ | ⟨l, e, a, h, _⟩
    · exact ns0 z h
    · rw [show shapeOf z = some l from h] at hz; cases hz
  · rcases tab_get tab z with ⟨h, _⟩ | ⟨l', e, a, h, h2, h3, h4⟩
    · rw [show shapeOf z = none from h] at hz; cases hz
    · rw [show shapeOf z = some l' from h] at hz
      cases hz
      exact ⟨a, by rw [ns1 z e h2, h3], h4⟩

theorem k04_all {dS C C0 C1 : Addr} (T : Top K mg)
    (D1 : DefAt K "_law_cell_at" s__law_cell_at)
    (D2 : DefAt K "_law_mixed" s__law_mixed)
    (D3 : DefAt K "_law_number_by" s__law_number_by)
    (D4 : DefAt K "_law_whole" s__law_whole)
    (D5 : DefAt K "is_whole" s_is_whole)
    (Dw : DefAt K "is_any_whole" s_is_any_whole)
    (D6 : DefAt K "_has_shape" s__has_shape)
    (D7 : DefAt K "fits" s_fits)
    (D8 : DefAt K "checked" s_checked)
    (D9 : DefAt K "checked_boxes" s_checked_boxes)
    (D10 : DefAt K "_act" s__act)
    (D11 : DefAt K "_next_place" s__next_place)
    (D12 : DefAt K "walk" s_walk)
    (D13 : DefAt K "run" s_run)
    (D14 : DefAt K "_law_wholes" s__law_wholes)
    (D15 : DefAt K "_law_row_by" s__law_row_by)
    (D16 : DefAt K "_law_reads" s__law_reads)
    (D17 : DefAt K "_law_writes" s__law_writes)
    (D18 : DefAt K "_law_run_by" s__law_run_by)
    (D19 : DefAt K "_law_size_by" s__law_size_by)
    (D20 : DefAt K "law" s_law)
    (m1 : PySem.W.nsIn K mainGlobals "len" = some none)
    (m2 : PySem.W.nsIn K mainGlobals "range" = some none)
    (m3 : PySem.W.nsIn K mainGlobals "isinstance" = some none)
    (m4 : PySem.W.nsIn K mainGlobals "all" = some none)
    (m5 : PySem.W.nsIn K mainGlobals "int" = some none)
    (m6 : PySem.W.nsIn K mainGlobals "str" = some none)
    (m7 : PySem.W.nsIn K mainGlobals "bool" = some none)
    (m8 : PySem.W.nsIn K mainGlobals "tuple" = some none)
    (m9 : PySem.W.nsIn K mainGlobals "list" = some none)
    (m10 : PySem.W.nsIn K mainGlobals "zip" = some none)
    (m11 : PySem.W.nsIn K mainGlobals "enumerate" = some none)
    (gR : ∃ u, PySem.W.nsIn K mainGlobals "ROUND" = some (some u) ∧ RelV (.int 1000000) u) (gM : ∃ u, PySem.W.nsIn K mainGlobals "MOST" = some (some u) ∧ RelV (.int 200) u)
    (Z : (mg "SHAPES" = some (.ref dS)) → Shapes K w mg dS) (gS : PySem.W.nsIn K mainGlobals "SHAPES" = some (some (.ref dS)))
    (gB0 : PySem.W.nsIn K mainGlobals "BadRow" = some (some (.ref C0))) (xB0 : PySem.W.excIn K C0 [.type "ValueError", .type "Exception", .type "BaseException", .type "object"] "ValueError.__new__" = true) (kB0 : PySem.W.keepIn K (.ref C0) = true) (bB0 : PySem.W.subIn K (.ref C0) (.type "BaseException") = some true) (tB0 : PySem.W.typeIn K (.ref C0) = some (.type "type"))
    (gB1 : PySem.W.nsIn K mainGlobals "BadBoxes" = some (some (.ref C1))) (xB1 : PySem.W.excIn K C1 [.type "ValueError", .type "Exception", .type "BaseException", .type "object"] "ValueError.__new__" = true) (kB1 : PySem.W.keepIn K (.ref C1) = true) (bB1 : PySem.W.subIn K (.ref C1) (.type "BaseException") = some true) (tB1 : PySem.W.typeIn K (.ref C1) = some (.type "type"))
    (gW : PySem.W.nsIn K mainGlobals "Watched" = some (some (.ref C))) (cl : Cls K C) (nB : PySem.W.findIn K (.ref C) "boxes" = some none) (nT : PySem.W.findIn K (.ref C) "touches" = some none) (mk : PySem.W.makesIn K C = true) (kc : PySem.W.keepIn K (.ref C) = true)
    (M1 : MethAt K C "__init__" "Watched.__init__" s_Watched___init__) (M2 : MethAt K C "look" "Watched.look" s_Watched_look) (M3 : MethAt K C "put" "Watched.put" s_Watched_put) : LawOk P w K mg 6 := by
  have X : Txt K w mg := ⟨T, T.none m1, T.none m2, T.none m3, T.none m4, T.none m5, T.none m6, T.none m7, T.none m8, T.none m9, T.none m10, T.none m11⟩
  obtain ⟨_, gR, tR, rfl⟩ := gR
  obtain ⟨_, gM, tM, rfl⟩ := gM
  have W : WCls K C := ⟨cl, nB, nT⟩
  have c1 := fun base => c_cell_at (P := P) (base := base) X D1
  have c2 := fun base => c_mixed (P := P) (base := base) X D2
  have c3 := fun base => c_number_by (P := P) (base := base) X D3 (c2 base)
  have c4 := fun base => c_whole (P := P) (base := base) X D4
  have c5 := fun base => c_is_whole (P := P) (base := base) X D5 Dw
  have c6 := fun base => c_has_shape (P := P) (base := base) X (Z (T.of gS)) D6
  have c7 := fun base => c_fits (P := P) (base := base) X (Z (T.of gS)) ⟨tR, T.of gR⟩ D7 (c5 base) (c6 base)
  have c8 := fun base => c_checked (P := P) (base := base) X ⟨T.of gB0, xB0, kB0, bB0, tB0⟩ ⟨tM, T.of gM⟩ D8 (c7 base)
  have c9 := fun base => c_checked_boxes (P := P) (base := base) X ⟨T.of gB1, xB1, kB1, bB1, tB1⟩ ⟨tM, T.of gM⟩ ⟨tR, T.of gR⟩ D9 (c5 base)
  have w1 := fun base => m_init (P := P) (w := w) (base := base) W mk kc (T.of gW) M1
  have w2 := fun base => m_look (P := P) (w := w) (mg := mg) (base := base) W M2
  have w3 := fun base => m_put (P := P) (w := w) (mg := mg) (base := base) W M3
  have c10 := fun base => c_act (P := P) (base := base) X D10 ⟨tR, T.of gR⟩ (w2 base) (w3 base)
  have c11 := fun base => c_next_place (P := P) (base := base) X D11 (w2 base)
  have c12 := fun base => c_walk (P := P) (base := base) X D12 (c10 base) (c11 base)
  have c13 := fun base => c_run (P := P) (base := base) X W D13 (c9 base) (c8 base) (w1 base) (c12 base)
  have c14 := fun base => c_wholes (P := P) (base := base) X D14 (c4 base)
  have c15 := fun base => c_row_by (P := P) (base := base) X D15 (c2 base) (c3 base)
  have c16 := fun base => c_reads (P := P) (base := base) X D16
  have c17 := fun base => c_writes (P := P) (base := base) X D17
  have c18 := fun base => c_run_by (P := P) (base := base) X D18 (c16 base) (c17 base)
  have c19 := fun base => c_size_by (P := P) (base := base) X D19
  exact ok_law X D20 c1 c2 c3 c19 c15 c18 c13 c4 c14

end
end Nl
open PySem PySem.W PyProof.Rows in
set_option maxRecDepth 100000 in
set_option maxHeartbeats 0 in
theorem PySem.Challenge.cw_nearlines_k04_a_row_done_holds : PySem.Challenge.rw_nearlines_k04_a_row_done.Holds := by
  w_on; o_law; k_head; (case hw => w_witness2)
  k_fill
  refine Nl.walk_end (l := PySem.Challenge.rw_nearlines_k04_a_row_done) 6 rfl rfl ⟨rfl, by decide, by decide⟩ rfl (fun w h Y => PySem.W.kIn_of Y) fun w mg T => ?F
  case F =>
    refine' Nl.k04_all T ?D1 ?D2 ?D3 ?D4 ?D5 ?Dw ?D6 ?D7 ?D8 ?D9 ?D10 ?D11 ?D12 ?D13 ?D14 ?D15 ?D16 ?D17 ?D18 ?D19 ?D20 ?m1 ?m2 ?m3 ?m4 ?m5 ?m6 ?m7 ?m8 ?m9 ?m10 ?m11 ?gR ?gM ?Z ?gS ?gB0 ?xB0 ?kB0 ?bB0 ?tB0 ?gB1 ?xB1 ?kB1 ?bB1 ?tB1 ?gW ?cl ?nB ?nT ?mk ?kc ?M1 ?M2 ?M3
    (case D1 => (refine' Nl.def_mk ?a ?l ?c ?k; (case a => k_is); (case l => k_is); (case c => k_is); (case k => k_is)))
    (case D2 => (refine' Nl.def_mk ?a ?l ?c ?k; (case a => k_is); (case l => k_is); (case c => k_is); (case k => k_is)))
    (case D3 => (refine' Nl.def_mk ?a ?l ?c ?k; (case a => k_is); (case l => k_is); (case c => k_is); (case k => k_is)))
    (case D4 => (refine' Nl.def_mk ?a ?l ?c ?k; (case a => k_is); (case l => k_is); (case c => k_is); (case k => k_is)))
    (case D5 => (refine' Nl.def_mk ?a ?l ?c ?k; (case a => k_is); (case l => k_is); (case c => k_is); (case k => k_is)))
    (case Dw => (refine' Nl.def_mk ?a ?l ?c ?k; (case a => k_is); (case l => k_is); (case c => k_is); (case k => k_is)))
    (case D6 => (refine' Nl.def_mk ?a ?l ?c ?k; (case a => k_is); (case l => k_is); (case c => k_is); (case k => k_is)))
    (case D7 => (refine' Nl.def_mk ?a ?l ?c ?k; (case a => k_is); (case l => k_is); (case c => k_is); (case k => k_is)))
    (case D8 => (refine' Nl.def_mk ?a ?l ?c ?k; (case a => k_is); (case l => k_is); (case c => k_is); (case k => k_is)))
    (case D9 => (refine' Nl.def_mk ?a ?l ?c ?k; (case a => k_is); (case l => k_is); (case c => k_is); (case k => k_is)))
    (case D10 => (refine' Nl.def_mk ?a ?l ?c ?k; (case a => k_is); (case l => k_is); (case c => k_is); (case k => k_is)))
    (case D11 => (refine' Nl.def_mk ?a ?l ?c ?k; (case a => k_is); (case l => k_is); (case c => k_is); (case k => k_is)))
    (case D12 => (refine' Nl.def_mk ?a ?l ?c ?k; (case a => k_is); (case l => k_is); (case c => k_is); (case k => k_is)))
    (case D13 => (refine' Nl.def_mk ?a ?l ?c ?k; (case a => k_is); (case l => k_is); (case c => k_is); (case k => k_is)))
    (case D14 => (refine' Nl.def_mk ?a ?l ?c ?k; (case a => k_is); (case l => k_is); (case c => k_is); (case k => k_is)))
    (case D15 => (refine' Nl.def_mk ?a ?l ?c ?k; (case a => k_is); (case l => k_is); (case c => k_is); (case k => k_is)))
    (case D16 => (refine' Nl.def_mk ?a ?l ?c ?k; (case a => k_is); (case l => k_is); (case c => k_is); (case k => k_is)))
    (case D17 => (refine' Nl.def_mk ?a ?l ?c ?k; (case a => k_is); (case l => k_is); (case c => k_is); (case k => k_is)))
    (case D18 => (refine' Nl.def_mk ?a ?l ?c ?k; (case a => k_is); (case l => k_is); (case c => k_is); (case k => k_is)))
    (case D19 => (refine' Nl.def_mk ?a ?l ?c ?k; (case a => k_is); (case l => k_is); (case c => k_is); (case k => k_is)))
    (case D20 => (refine' Nl.def_mk ?a ?l ?c ?k; (case a => k_is); (case l => k_is); (case c => k_is); (case k => k_is)))
    (case m1 => k_is)
    (case m2 => k_is)
    (case m3 => k_is)
    (case m4 => k_is)
    (case m5 => k_is)
    (case m6 => k_is)
    (case m7 => k_is)
    (case m8 => k_is)
    (case m9 => k_is)
    (case m10 => k_is)
    (case m11 => k_is)
    (case gR => (refine' Nl.glob_mk ?h ?r; (case h => k_is); (case r => exact ⟨_, rfl⟩)))
    (case gM => (refine' Nl.glob_mk ?h ?r; (case h => k_is); (case r => exact ⟨_, rfl⟩)))
    (case gB0 => k_is)
    (case xB0 => k_exc)
    (case kB0 => k_is)
    (case bB0 => k_is)
    (case tB0 => k_is)
    (case gB1 => k_is)
    (case xB1 => k_exc)
    (case kB1 => k_is)
    (case bB1 => k_is)
    (case tB1 => k_is)
    (case gW => k_is)
    (case cl => (refine' Nl.cls_mk ?pg ?hd ?po ?sa; (case pg => k_is); (case hd => k_is); (case po => k_is); (case sa => k_is)))
    (case nB => k_is)
    (case nT => k_is)
    (case mk => k_is)
    (case kc => k_is)
    (case M1 => (refine' Nl.meth_mk ?a ?i ?l ?c ?k; (case a => k_is); (case i => k_is); (case l => k_is); (case c => k_is); (case k => k_is)))
    (case M2 => (refine' Nl.meth_mk ?a ?i ?l ?c ?k; (case a => k_is); (case i => k_is); (case l => k_is); (case c => k_is); (case k => k_is)))
    (case M3 => (refine' Nl.meth_mk ?a ?i ?l ?c ?k; (case a => k_is); (case i => k_is); (case l => k_is); (case c => k_is); (case k => k_is)))
    (case gS => k_is)
    case Z =>
      intro g
      refine' Nl.shapes_mk g ?at_ ?low ?lit ?tab
      (case at_ => k_is)
      (case low => rfl)
      (case lit => exact ⟨⟨_, _, rfl, rfl⟩, ⟨_, _, rfl, rfl⟩, ⟨_, _, rfl, rfl⟩, ⟨_, _, rfl, rfl⟩, ⟨_, _, rfl, rfl⟩, ⟨_, _, rfl, rfl⟩, ⟨_, _, rfl, rfl⟩, ⟨_, _, rfl, rfl⟩, ⟨_, _, rfl, rfl⟩, trivial⟩)
      case tab =>
        refine' ⟨⟨_, _, rfl, rfl, ?s0⟩, rfl, ⟨_, _, rfl, rfl, ?s1⟩, rfl, ⟨_, _, rfl, rfl, ?s2⟩, rfl, ⟨_, _, rfl, rfl, ?s3⟩, rfl, ⟨_, _, rfl, rfl, ?s4⟩, rfl, ⟨_, _, rfl, rfl, ?s5⟩, rfl, ⟨_, _, rfl, rfl, ?s6⟩, rfl, ⟨_, _, rfl, rfl, ?s7⟩, rfl, ⟨_, _, rfl, rfl, ?s8⟩, rfl, trivial⟩
        (case s0 => (refine' Nl.sqt_mk ?h ?z ?v; (case h => k_is); (case z => rfl); (case v => exact (.cons ⟨_, rfl⟩ (.cons ⟨_, rfl⟩ .nil)))))
        (case s1 => (refine' Nl.sqt_mk ?h ?z ?v; (case h => k_is); (case z => rfl); (case v => exact (.cons ⟨_, rfl⟩ (.cons ⟨_, rfl⟩ .nil)))))
        (case s2 => (refine' Nl.sqt_mk ?h ?z ?v; (case h => k_is); (case z => rfl); (case v => exact (.cons ⟨_, rfl⟩ (.cons ⟨_, rfl⟩ (.cons ⟨_, rfl⟩ .nil))))))
        (case s3 => (refine' Nl.sqt_mk ?h ?z ?v; (case h => k_is); (case z => rfl); (case v => exact (.cons ⟨_, rfl⟩ (.cons ⟨_, rfl⟩ (.cons ⟨_, rfl⟩ .nil))))))
        (case s4 => (refine' Nl.sqt_mk ?h ?z ?v; (case h => k_is); (case z => rfl); (case v => exact (.cons ⟨_, rfl⟩ (.cons ⟨_, rfl⟩ .nil)))))
        (case s5 => (refine' Nl.sqt_mk ?h ?z ?v; (case h => k_is); (case z => rfl); (case v => exact (.cons ⟨_, rfl⟩ (.cons ⟨_, rfl⟩ .nil)))))
        (case s6 => (refine' Nl.sqt_mk ?h ?z ?v; (case h => k_is); (case z => rfl); (case v => exact (.cons ⟨_, rfl⟩ (.cons ⟨_, rfl⟩ (.cons ⟨_, rfl⟩ .nil))))))
        (case s7 => (refine' Nl.sqt_mk ?h ?z ?v; (case h => k_is); (case z => rfl); (case v => exact (.cons ⟨_, rfl⟩ .nil))))
        (case s8 => (refine' Nl.sqt_mk ?h ?z ?v; (case h => k_is); (case z => rfl); (case v => exact (.cons ⟨_, rfl⟩ .nil))))

