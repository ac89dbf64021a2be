import PyProof.Rows.All
import Wide.All
import OpenK.AllK
import Wide.FinOn
import HandS.ForMost
import HandS.Codes
import HandS.Exc
import HandS.ExcOwn
import HandS.TryOnly
import HandS.WordsExc
import HandS.IsInst
import HandS.RaiseMore
import HandS.Small
import HandS.FStr
import HandS.Star
import HandS.TupAny
import HandS.Deep
import HandS.Zip
import HandS.Conv
import HandS.HotCalls
import HandS.StrMore
import HandS.Flow
import KE.KUnpackStar
import HandS.ExcIs
import HandS.SetFor
import HandS.Replace
import PyProof.RulesMatch
import PyProof.RulesMatchSeq
import PyProof.Rows.MatchSeqLen
import HandS.Strs
import PySem.Challenge.RW_nearlines_k12_whole_more_room
set_option Elab.async false
set_option linter.all false
set_option maxRecDepth 100000
/-! the layer of our own over the hand layer -/
namespace Nl
open PySem PySem.Spec PyProof.Rows L2

/-! ### a def of the top, as it stands -/
def DefAt (K : PySem.W.Frag) (x : Str) (st : Stmt) : Prop :=
  ∃ (f : Addr) (oc : Value) (od an : Option Addr) (osl : Array (Option Value)) (kV doc pm cdv ct : Value),
    PySem.W.nsIn K mainGlobals x = some (some (.ref f)) ∧
    K.lookup f = some ⟨oc, od, .func (PySem.W.fnOf x x (defArgs st) (defBody st) (defScope st) .none kV doc pm an cdv ct), osl⟩ ∧
    PySem.W.codeIn K cdv x = true ∧ PySem.W.keepIn K (.ref f) = true
theorem def_mk {K : PySem.W.Frag} {x : Str} {st : Stmt} {f : Addr} {oc : Value} {od an : Option Addr} {osl : Array (Option Value)} {kV doc pm cdv ct : Value} (a : PySem.W.nsIn K mainGlobals x = some (some (.ref f)))
    (l : K.lookup f = some ⟨oc, od, .func (PySem.W.fnOf x x (defArgs st) (defBody st) (defScope st) .none kV doc pm an cdv ct), osl⟩) (c : PySem.W.codeIn K cdv x = true) (k : PySem.W.keepIn K (.ref f) = true) : DefAt K x st :=
  ⟨f, oc, od, an, osl, kV, doc, pm, cdv, ct, a, l, c, k⟩
/-- the module's names, as the top leaves them -/
structure Top (K : PySem.W.Frag) (mg : Str → Option Value) : Prop where
  ex : ∃ (h : Heap), K.In h ∧ h.Ns mainGlobals mg
theorem Top.of {K : PySem.W.Frag} {mg : Str → Option Value} (T : Top K mg) {x : Str} {v : Value} (a : PySem.W.nsIn K mainGlobals x = some (some v)) : mg x = some v := by
  obtain ⟨h, X, G⟩ := T.ex
  exact PySem.W.mg_of X G a
theorem Top.none {K : PySem.W.Frag} {mg : Str → Option Value} (T : Top K mg) {x : Str} (a : PySem.W.nsIn K mainGlobals x = some Option.none) : mg x = Option.none := by
  obtain ⟨h, X, G⟩ := T.ex
  exact PySem.W.mg_none_of X G a

section
variable {P : Program} {w : World} {K : PySem.W.Frag} {mg : Str → Option Value} {base : Heap}
abbrev BindOk (x : Str) (st : Stmt) (ps : List Str) : Prop := ∀ (kV doc pm : Value) (an : Option Addr) (cdv ct : Value) (us : List Value), us.length = ps.length →
  bindArgs (PySem.W.fnOf x x (defArgs st) (defBody st) (defScope st) .none kV doc pm an cdv ct) ⟨us, []⟩ = pure (ps.zip us)
/-- a def called by its name keeps sp -/
structure Cal (P : Program) (w : World) (K : PySem.W.Frag) (mg : Str → Option Value) (base : Heap) (CX : CXT) (k : Nat) (x : Str) (sp : Sp) : Prop where
  ex : ∃ (f : Addr) (fd : FuncData) (ps : List Str), FnOk P w K mg base CX k f fd ps sp ∧ mg x = some (.ref f) ∧ PySem.W.keepIn K (.ref f) = true ∧ Binds K fd ps []
theorem Cal.mono {CX : CXT} {j k : Nat} {x : Str} {sp : Sp} (c : Cal P w K mg base CX j x sp) (h : j ≤ k) : Cal P w K mg base CX k x sp := by
  obtain ⟨f, fd, ps, F, r⟩ := c.ex
  exact ⟨f, fd, ps, F.mono h, r⟩
/-- a def that lets no error out -/
theorem cal_of {x : Str} {st : Stmt} {N ps : List Str} {k : Nat} {sp : Sp} (T : Top K mg) (D : DefAt K x st) (S : FnScope N ps (defScope st)) (b : BindOk x st ps) (len : ∀ vs H Q E, sp vs H Q E → vs.length = ps.length)
    (hbody : ∀ (f : Addr) (cdv : Value) (A : Around) (outer : List Env) (s : Shared) (H : Hp) (vs : List V) (Q : VK) (E : XK), Room k (A.deeper (envOfC x (defScope st) s.heap.objs.size f cdv)) → sp vs H Q E →
      ∃ t, PSs (cxOf CX0 P w K mg base N x (defScope st) f cdv A outer s H E).nox (defBody st) t ∧ t { nx := fun _ H' => Q .non H', rt := Q } (start N vs) H) : Cal P w K mg base CX0 (k + 1) x sp := by
  obtain ⟨f, oc, od, an, osl, kV, doc, pm, cdv, ct, a, l, c, kp⟩ := D
  have F := fun_mk (st := st) l c kp
  exact ⟨f, _, ps, F.ok S len (fun cdv A outer s H vs Q E hr h => hbody f cdv A outer s H vs Q E hr h), T.of a, kp, F.binds b⟩
/-- .. that may raise -/
theorem cal_ofX {x : Str} {st : Stmt} {N ps : List Str} {k : Nat} {sp : Sp} (T : Top K mg) (D : DefAt K x st) (S : FnScope N ps (defScope st)) (b : BindOk x st ps) (len : ∀ vs H Q E, sp vs H Q E → vs.length = ps.length)
    (hbody : ∀ (f : Addr) (cdv : Value) (A : Around) (outer : List Env) (s : Shared) (H : Hp) (vs : List V) (Q : VK) (E : XK), Room k (A.deeper (envOfC x (defScope st) s.heap.objs.size f cdv)) → sp vs H Q E →
      ∃ t, PSs (cxOf (L2.CX P w) P w K mg base N x (defScope st) f cdv A outer s H E) (defBody st) t ∧ t { nx := fun _ H' => Q .non H', rt := Q } (start N vs) H) : Cal P w K mg base (L2.CX P w) (k + 1) x sp := by
  obtain ⟨f, oc, od, an, osl, kV, doc, pm, cdv, ct, a, l, c, kp⟩ := D
  have F := fun_mk (st := st) l c kp
  exact ⟨f, _, ps, F.okX S len (fun cdv A outer s H vs Q E hr h => hbody f cdv A outer s H vs Q E hr h), T.of a, kp, F.binds b⟩
end
section
variable {X : Cx} {k j : Nat} {x : Str} {sp : Sp} {p pos : Pos} {e : Expr} {es : List Expr} {t : TA}
/-- f(..), f lets no error out -/
theorem pe_c (c : Cal X.prog X.w X.K X.mg X.base CX0 k x sp) (hr : Room j X.A) (hk : k ≤ j) (hg : Gl X x) (ha : PA X (e :: es) t)
    (hdb : (x == ("__debug__" : Str)) = false := by decide) (he : starEach (e :: es) X.env = (false, eval e X.env) :: starEach es X.env := by rfl) (hpl : (backTo pos (starEach es X.env)).any (·.1) = false := by rfl) :
    PE X (.Call (.Name x p) (e :: es) [] pos) (tCall sp [] E0 t) := by
  obtain ⟨f, fd, ps, F, hm, kp, b⟩ := c.ex
  exact pe_call F (hr.mono hk) hg hm kp b .nil pass0 ha hdb he hpl
/-- f(..), f may raise: what is raised is wished for by W -/
theorem pe_cx {W : WX} (c : Cal X.prog X.w X.K X.mg X.base (L2.CX X.prog X.w) k x sp) (tk : Takes X W) (hr : Room j X.A) (hk : k ≤ j) (hg : Gl X x) (ha : PA X (e :: es) t)
    (hdb : (x == ("__debug__" : Str)) = false := by decide) (he : starEach (e :: es) X.env = (false, eval e X.env) :: starEach es X.env := by rfl) (hpl : (backTo pos (starEach es X.env)).any (·.1) = false := by rfl) :
    PE X (.Call (.Name x p) (e :: es) [] pos) (tCallS sp (WE W) t) := by
  obtain ⟨f, fd, ps, F, hm, kp, b⟩ := c.ex
  exact pe_callS F (hr.mono hk) hg hm kp b (fun σ => passAt tk σ) ha hdb he hpl
/-- .. where it does not raise -/
theorem pe_c0 (c : Cal X.prog X.w X.K X.mg X.base (L2.CX X.prog X.w) k x sp) (hr : Room j X.A) (hk : k ≤ j) (hg : Gl X x) (ha : PA X (e :: es) t)
    (hdb : (x == ("__debug__" : Str)) = false := by decide) (he : starEach (e :: es) X.env = (false, eval e X.env) :: starEach es X.env := by rfl) (hpl : (backTo pos (starEach es X.env)).any (·.1) = false := by rfl) :
    PE X (.Call (.Name x p) (e :: es) [] pos) (tCall sp [] E0 t) := by
  obtain ⟨f, fd, ps, F, hm, kp, b⟩ := c.ex
  exact pe_call F (hr.mono hk) hg hm kp b .nil passL ha hdb he hpl
end

/-! ### places -/
theorem at_in {α : Type} {xs : List α} {i : Int} {v : α} (h0 : 0 ≤ i) (h : xs[i.toNat]? = some v) : atI xs i = some v := by
  have e : i = ((i.toNat : Nat) : Int) := (Int.toNat_of_nonneg h0).symm
  rw [e]
  exact atI_nat (by simpa using h)
theorem at_getD {α : Type} {xs : List α} {i : Int} {d : α} (h0 : 0 ≤ i) (h : i < xs.length) : atI xs i = some (xs.getD i.toNat d) := by
  refine at_in h0 ?_
  have : i.toNat < xs.length := by omega
  rw [List.getD_eq_getElem?_getD, List.getElem?_eq_getElem this]; rfl
theorem at_ints {ns : List Int} {i : Int} (h0 : 0 ≤ i) (h : i < ns.length) : atI (ns.map V.int) i = some (.int (ns.getD i.toNat 0)) := by
  refine at_in h0 ?_
  have : i.toNat < ns.length := by omega
  rw [List.getElem?_map, List.getD_eq_getElem?_getD, List.getElem?_eq_getElem this]; rfl
theorem at_strs {ns : List Str} {i : Int} (h0 : 0 ≤ i) (h : i < ns.length) : atI (ns.map V.str) i = some (.str (ns.getD i.toNat Str.empty)) := by
  refine at_in h0 ?_
  have : i.toNat < ns.length := by omega
  rw [List.getElem?_map, List.getD_eq_getElem?_getD, List.getElem?_eq_getElem this]; rfl
theorem mod_nn (c : Int) {n : Int} (h : 0 < n) : 0 ≤ c % n := Int.emod_nonneg c (by omega)
theorem mod_lt (c : Int) {n : Int} (h : 0 < n) : c % n < n := Int.emod_lt_of_pos c h
theorem at_ints_mod {ns : List Int} (c : Int) {n : Int} (h : 0 < n) (e : (ns.length : Int) = n) : atI (ns.map V.int) (c % n) = some (.int (ns.getD (c % n).toNat 0)) :=
  at_ints (mod_nn c h) (by rw [e]; exact mod_lt c h)
theorem at_strs_mod {ns : List Str} (c : Int) {n : Int} (h : 0 < n) (e : (ns.length : Int) = n) : atI (ns.map V.str) (c % n) = some (.str (ns.getD (c % n).toNat Str.empty)) :=
  at_strs (mod_nn c h) (by rw [e]; exact mod_lt c h)
theorem _root_.L2.Same.sqt {K : PySem.W.Frag} {H H' : Hp} {a : Addr} {xs : List V} (e : Same H H') (h : SqT K H a xs) : SqT K H' a xs := by
  rcases h with (h | ⟨o, h⟩) | h
  · exact .inl (.inl (e _ _ h))
  · exact .inl (.inr ⟨o, e _ _ h⟩)
  · exact .inr h
theorem _root_.L2.Same.new {H : Hp} {p : Addr} {o : HO} (h : H p = none) : Same H (upd H p o) := fun a u e => by
  rw [upd_ne (ne_of_none e h)]
  exact e
theorem _root_.L2.Same.more {H0 H : Hp} {p : Addr} {o : HO} (s : Same H0 H) (h : H p = none) : Same H0 (upd H p o) := s.trans (Same.new h)
/-- an object that H0 does not know changes -/
theorem _root_.L2.Same.mut {H0 H : Hp} {p : Addr} {o : HO} (s : Same H0 H) (h : H0 p = none) : Same H0 (upd H p o) := fun a u e => by
  rw [upd_ne (ne_of_none e h)]
  exact s a u e
/-! ### comprehensions whose elements leave the tracked things as they are -/
/-- the new list keeps: at its address D what is made so far -/
theorem lc_gen {J : It} {g : TG} {tt : TT} {te : TE} {vs : List Nat} {σ : L2.St} {H1 : Hp} {D : Addr} {Qd : Hp → Prop} (n : Nat) (R : Nat → V → Hp → Prop) (fs : Nat → Option V) (hD : H1 D = none) (hz : n < sizeLine)
    (go : ∀ i H, i < n → Same H1 H → J.go i H) (stop : ∀ H, Same H1 H → J.stop n H) (yld : ∀ i H x H', i < n → Same H1 H → J.yld i H x H' → Same H H' ∧ R i x H')
    (hs : ∀ i x H, i < n → Same H1 H → R i x H → ∀ (k1 : VK) (k0 : Hp → Prop), (∀ v H', fs i = some v → Same H H' → k1 v H') → (∀ H', fs i = none → Same H H' → k0 H') →
      g x (wipe σ vs) H fun σ2 H2 => wipe σ2 vs = wipe σ vs ∧ tt σ2 H2 fun b H3 => if b = true then te σ2 H3 k1 else k0 H3)
    (hd : ∀ H, Same H1 H → H D = some (.lst ((List.range n).filterMap fs)) → Qd H) :
    ∃ W : Nat → Nat → Hp → Prop, (∃ m, W 0 m (upd H1 D (.lst []))) ∧ ∀ i m H, W i m H →
      (J.stop i H ∧ Qd H) ∨ (J.go i H ∧ ∃ Nx : Hp → Prop, (∀ H', Nx H' → ∃ m', m' < m ∧ W (i + 1) m' H') ∧ ∀ x H', J.yld i H x H' → g x (wipe σ vs) H' fun σ2 H2 => wipe σ2 vs = wipe σ vs ∧ tt σ2 H2 fun b H3 =>
        if b = true then te σ2 H3 fun y H4 => ∃ acc, H4 D = some (.lst acc) ∧ acc.length < sizeLine ∧ Nx (upd H4 D (.lst (acc ++ [y]))) else Nx H3) := by
  refine ⟨fun i m H => m = n - i ∧ i ≤ n ∧ Same H1 H ∧ H D = some (.lst ((List.range i).filterMap fs)), ⟨n, by simp, Nat.zero_le _, Same.new hD, upd_same⟩, ?_⟩
  rintro i m H ⟨rfl, hi, s1, h1⟩
  by_cases hlt : i < n
  · refine .inr ⟨go i H hlt s1, fun H' => Same H1 H' ∧ H' D = some (.lst ((List.range (i + 1)).filterMap fs)), fun H' p' => ⟨n - (i + 1), by omega, rfl, hlt, p'⟩, fun x H' y => ?_⟩
    obtain ⟨s2, r⟩ := yld i H x H' hlt s1 y
    refine hs i x H' hlt (s1.trans s2) r _ _ (fun v H'' e s3 => ?_) (fun H'' e s3 => ?_)
    · refine ⟨_, s3 _ _ (s2 _ _ h1), ?_, ((s1.trans s2).trans s3).mut hD, ?_⟩
      · exact Nat.lt_of_le_of_lt (Nat.le_trans (List.length_filterMap_le _ _) (by rw [List.length_range]; omega)) hz
      · rw [upd_same, List.range_succ, List.filterMap_append]
        simp [e]
    · refine ⟨(s1.trans s2).trans s3, ?_⟩
      rw [s3 _ _ (s2 _ _ h1), List.range_succ, List.filterMap_append]
      simp [e]
  · have e : i = n := by omega
    subst e
    exact .inl ⟨stop H s1, hd H s1 h1⟩
theorem range_fm {α β : Type} (xs : List α) (f : α → Option β) : (List.range xs.length).filterMap (fun i => (xs[i]?).bind f) = xs.filterMap f := by
  induction xs with
  | nil => rfl
  | cons x xs ih =>
    rw [List.length_cons, List.range_succ_eq_map, List.filterMap_cons, List.filterMap_map, List.filterMap_cons]
    have e : (List.range xs.length).filterMap ((fun i => ((x :: xs)[i]?).bind f) ∘ Nat.succ) = xs.filterMap f := by
      rw [← ih]
      rfl
    rw [e]
    rfl
section
variable {K : PySem.W.Frag} {g : TG} {tt : TT} {te : TE} {vs : List Nat} {σ : L2.St} {H1 : Hp} {D a : Addr} {Qd : Hp → Prop} {xs : List V}
abbrev LcW (J : It) (g : TG) (tt : TT) (te : TE) (vs : List Nat) (σ : L2.St) (H1 : Hp) (D : Addr) (Qd : Hp → Prop) : Prop :=
  ∃ W : Nat → Nat → Hp → Prop, (∃ m, W 0 m (upd H1 D (.lst []))) ∧ ∀ i m H, W i m H →
      (J.stop i H ∧ Qd H) ∨ (J.go i H ∧ ∃ Nx : Hp → Prop, (∀ H', Nx H' → ∃ m', m' < m ∧ W (i + 1) m' H') ∧ ∀ x H', J.yld i H x H' → g x (wipe σ vs) H' fun σ2 H2 => wipe σ2 vs = wipe σ vs ∧ tt σ2 H2 fun b H3 =>
        if b = true then te σ2 H3 fun y H4 => ∃ acc, H4 D = some (.lst acc) ∧ acc.length < sizeLine ∧ Nx (upd H4 D (.lst (acc ++ [y]))) else Nx H3)
abbrev LcTurn (g : TG) (tt : TT) (te : TE) (vs : List Nat) (σ : L2.St) (x : V) (H : Hp) (fx : Option V) : Prop := ∀ (k1 : VK) (k0 : Hp → Prop), (∀ v H', fx = some v → Same H H' → k1 v H') → (∀ H', fx = none → Same H H' → k0 H') →
      g x (wipe σ vs) H fun σ2 H2 => wipe σ2 vs = wipe σ vs ∧ tt σ2 H2 fun b H3 => if b = true then te σ2 H3 k1 else k0 H3
/-- over a list: [f x for x in xs if ..] -/
theorem lc_fl (f : V → Option V) (hD : H1 D = none) (hq : SqL K H1 a xs) (hz : xs.length < sizeLine) (hs : ∀ (i : Nat) x H, xs[i]? = some x → Same H1 H → LcTurn g tt te vs σ x H (f x))
    (hd : ∀ H, Same H1 H → H D = some (.lst (xs.filterMap f)) → Qd H) : LcW (Itl K a) g tt te vs σ H1 D Qd :=
  lc_gen xs.length (fun i x _ => xs[i]? = some x) (fun i => (xs[i]?).bind f) hD hz
    (fun i H hi s => ⟨xs, xs[i], s.seq hq, by simp [hi]⟩) (fun H s => ⟨xs, s.seq hq, Nat.le_refl _⟩) (fun i H x H' hi s y => by
      obtain ⟨e, y⟩ := y
      subst e
      exact ⟨Same.refl _, y xs (s.seq hq)⟩)
    (fun i x H hi s r k1 k0 h1 h0 => hs i x H r s k1 k0 (fun v H' e => h1 v H' (by rw [r]; exact e)) (fun H' e => h0 H' (by rw [r]; exact e))) (fun H s h => hd H s (by rw [h, range_fm]))
/-- over a tuple -/
theorem lc_ft (f : V → Option V) (hD : H1 D = none) (hq : SqT K H1 a xs) (hz : xs.length < sizeLine) (hs : ∀ (i : Nat) x H, xs[i]? = some x → Same H1 H → LcTurn g tt te vs σ x H (f x))
    (hd : ∀ H, Same H1 H → H D = some (.lst (xs.filterMap f)) → Qd H) : LcW (Itt K a) g tt te vs σ H1 D Qd :=
  lc_gen xs.length (fun i x _ => xs[i]? = some x) (fun i => (xs[i]?).bind f) hD hz
    (fun i H hi s => ⟨xs, xs[i], s.sqt hq, by simp [hi]⟩) (fun H s => ⟨xs, s.sqt hq, Nat.le_refl _⟩) (fun i H x H' hi s y => by
      obtain ⟨e, y⟩ := y
      subst e
      exact ⟨Same.refl _, y xs (s.sqt hq)⟩)
    (fun i x H hi s r k1 k0 h1 h0 => hs i x H r s k1 k0 (fun v H' e => h1 v H' (by rw [r]; exact e)) (fun H' e => h0 H' (by rw [r]; exact e))) (fun H s h => hd H s (by rw [h, range_fm]))
/-- over range(lo, lo + n) -/
theorem lc_fr {lo : Int} {n : Nat} (f : Nat → Option V) (hD : H1 D = none) (hz : n < sizeLine) (hs : ∀ (i : Nat) H, i < n → Same H1 H → LcTurn g tt te vs σ (.int (lo + i)) H (f i))
    (hd : ∀ H, Same H1 H → H D = some (.lst ((List.range n).filterMap f)) → Qd H) : LcW (Itr lo n) g tt te vs σ H1 D Qd :=
  lc_gen n (fun i x _ => x = .int (lo + i)) f hD hz (fun i H hi s => hi) (fun H s => Nat.le_refl _) (fun i H x H' hi s y => by
      obtain ⟨e, y⟩ := y
      subst e
      exact ⟨Same.refl _, y⟩)
    (fun i x H hi s r k1 k0 h1 h0 => by subst r; exact hs i H hi s k1 k0 h1 h0) hd
end
/-! ### the law's own def, the end -/
def spLaw (K : PySem.W.Frag) : Sp := fun vs H Q _ => ∃ (a : Addr) (ns : List Int), vs = [.ref a] ∧ SqL K H a (ns.map V.int) ∧ ns.length ≤ 63 ∧ ∀ H', Q (.bl true) H'
abbrev LawOk (P : Program) (w : World) (K : PySem.W.Frag) (mg : Str → Option Value) (k : Nat) : Prop :=
  ∃ (f : Addr) (fd : FuncData), mg "law" = some (.ref f) ∧ (∀ (s : Shared) (v : Value), BindsTo s fd ⟨[v], []⟩ [("_law_script", v)]) ∧ ∀ base : Heap, FnOk P w K mg base CX0 k f fd ["_law_script"] (spLaw K)
theorem law_of {P : Program} {w : World} {K : PySem.W.Frag} {mg : Str → Option Value} {st : Stmt} {N : List Str} {k : Nat} (T : Top K mg) (D : DefAt K "law" st) (S : FnScope N ["_law_script"] (defScope st))
    (b : ∀ (kV doc pm : Value) (an : Option Addr) (cdv ct v : Value), bindArgs (PySem.W.fnOf "law" "law" (defArgs st) (defBody st) (defScope st) .none kV doc pm an cdv ct) ⟨[v], []⟩ = pure [(("_law_script" : Str), v)])
    (hbody : ∀ (base : Heap) (f : Addr) (cdv : Value) (A : Around) (outer : List Env) (s : Shared) (H : Hp) (a : Addr) (ns : List Int) (Q : VK) (E : XK), Room k (A.deeper (envOfC "law" (defScope st) s.heap.objs.size f cdv)) → SqL K H a (ns.map V.int) → ns.length ≤ 63 → (∀ H', Q (.bl true) H') →
      ∃ t, PSs (cxOf CX0 P w K mg base N "law" (defScope st) f cdv A outer s H E).nox (defBody st) t ∧ t { nx := fun _ H' => Q .non H', rt := Q } (start N [.ref a]) H) : LawOk P w K mg (k + 1) := by
  obtain ⟨f, oc, od, an, osl, kV, doc, pm, cdv, ct, a, l, c, kp⟩ := D
  have F := fun_mk (st := st) l c kp
  refine ⟨f, _, T.of a, fun s v => .of_eq (b kV doc pm an cdv ct v), fun base => F.ok S (fun vs H Q E h => ?_) fun cdv A outer s H vs Q E hr h => ?_⟩
  · obtain ⟨_, _, rfl, _⟩ := h
    rfl
  · obtain ⟨a, ns, rfl, h1, h2, h3⟩ := h
    exact hbody base f cdv A outer s H a ns Q E hr h1 h2 h3
theorem walk_end {l : PySem.W.OpenLaw} {q : Program} {loose : List Str} {XP : (Str → Option Value) → Heap → Prop} {YP : World → Heap → Prop} {d : DefRec} {K : Params → PySem.W.Frag} (k : Nat) (hn : l.most = some 63) (hdf : d.params.defaults = []) (hr : Room k callerA) (hd : d.name = "law")
    (hY : ∀ (w : World) (h : Heap), YP w h → (K w.params).In h)
    (F : ∀ (w : World) (mg : Str → Option Value), Top (K w.params) mg → LawOk l.prog w (K w.params) mg k) :
    PySem.W.WalkO q loose XP YP l.row.toRowW d [] (fun f vs => PySem.call f vs) :=
  L2.walk_of (n := 63) (k := k) (x := "_law_script") (CX := fun _ => CX0) (sp := fun w => spLaw (K w.params)) hn (by decide) hdf hr hY (fun w mg fa h X G hm => by
    obtain ⟨f, fd, e, b, ok⟩ := F w mg ⟨h, X, G⟩
    rw [hd, e] at hm
    cases hm
    exact ⟨fd, b, fun base _ _ => ok base⟩) (fun _ _ a ns hl _ hS => ⟨a, ns, rfl, hS, hl, fun _ => rfl⟩) fun _ _ _ _ _ z => z
/-! ### a block cut in two: P is what holds between -/
def tCut (D : Ends) (P : L2.St → Hp → Prop) : TS := fun D' σ H => D' = D ∧ P σ H
theorem pss_cut {X : Cx} {rest : List Stmt} {D : Ends} {P : L2.St → Hp → Prop} (h : ∃ u, PSs X rest u ∧ ∀ σ H, P σ H → u D σ H) : PSs X rest (tCut D P) := by
  obtain ⟨u, hu, hP⟩ := h
  refine ⟨fun pins s σ H D' I h => ?_⟩
  obtain ⟨e, h⟩ := h
  subst e
  exact hu.run pins s σ H D' I (hP σ H h)
/-! ### texts -/
/-- for c in a text -/
theorem for_its {x : Str} {g : TG} {tb : TS} {D : Ends} {σ : L2.St} {H : Hp} (Pv : Nat → L2.St → Hp → Prop) (h0 : Pv 0 σ H)
    (hs : ∀ i c σ H, x.cps[i]? = some c → Pv i σ H → g (.str ⟨#[c]⟩) σ H fun σ2 H2 => tb { D with nx := Pv (i + 1), ct := Pv (i + 1), bk := D.nx } σ2 H2) (hd : ∀ σ H, Pv x.cps.size σ H → D.nx σ H) :
    ∃ W : Nat → Nat → L2.St → Hp → Prop, (∃ m, W 0 m σ H) ∧ ∀ i m σ H, W i m σ H →
      ((Its x).stop i H ∧ D.nx σ H) ∨ ((Its x).go i H ∧ ∃ N : L2.St → Hp → Prop, (∀ σ' H', N σ' H' → ∃ m', m' < m ∧ W (i + 1) m' σ' H') ∧ ∀ y H', (Its x).yld i H y H' → g y σ H' fun σ2 H2 => tb { D with nx := N, ct := N, bk := D.nx } σ2 H2) := by
  refine ⟨fun i m σ H => m = x.cps.size - i ∧ i ≤ x.cps.size ∧ Pv i σ H, ⟨x.cps.size, by simp, Nat.zero_le _, h0⟩, ?_⟩
  rintro i m σ H ⟨rfl, hi, p⟩
  by_cases hlt : i < x.cps.size
  · refine .inr ⟨hlt, Pv (i + 1), fun σ' H' p' => ⟨x.cps.size - (i + 1), by omega, rfl, hlt, p'⟩, fun y H' q => ?_⟩
    obtain ⟨e, c, hc, ey⟩ := q
    subst e ey
    exact hs i c σ _ hc p
  · have e : i = x.cps.size := by omega
    subst e
    exact .inl ⟨Nat.le_refl _, hd σ H p⟩
theorem cutS_len (z : Str) (lo hi : Option Int) : (cutS z lo hi).length ≤ z.length := by
  show (((z.cps.toList.drop _).take _).toArray).size ≤ z.cps.size
  rw [List.size_toArray, List.length_take, List.length_drop, Array.length_toList]
  omega
theorem app_len (a b : Str) : (a ++ b).length = a.length + b.length := by
  show (a.cps ++ b.cps).size = a.cps.size + b.cps.size
  exact Array.size_append
/-- a text some times over -/
theorem op_repS {X : Cx} : OpR X (binaryOp .Mult) (fun x y H Q => ∃ (z : Str) (n : Int), x = .str z ∧ y = .int n ∧ PySem.MulOk z n ∧ Q (.str (Txt.mul z n)) H) := by
  intro pins s σ H x y v u Q I rx ry h
  obtain ⟨z, n, rfl, rfl, ok, q⟩ := h
  obtain ⟨t, rfl⟩ := rx
  obtain ⟨t', rfl⟩ := ry
  exact PySem.SB.mul ok fun t2 k => ⟨.str _, H, I.tok k, ⟨t2, rfl⟩, q⟩
theorem bl_of {b c : Bool} (h : b = c) : V.bl b = V.bl c := congrArg V.bl h
theorem fm_some {α β : Type} (xs : List α) (f : α → β) : xs.filterMap (fun x => some (f x)) = xs.map f := by
  induction xs with
  | nil => rfl
  | cons x xs ih => simp
/-! ### the helpers every law has -/
def cellAt (ns : List Int) (k : Int) : Int := ns.getD k.toNat 0
def mixed (c : Int) : Int := c * 48271 % 2147483647
def spCellAt (K : PySem.W.Frag) : Sp := fun vs H Q _ => ∃ (a : Addr) (ns : List Int) (k : Int), vs = [.ref a, .int k] ∧ SqL K H a (ns.map V.int) ∧ 0 ≤ k ∧ Q (.int (cellAt ns k)) H
def spMixed : Sp := fun vs H Q _ => ∃ c : Int, vs = [.int c] ∧ Q (.int (mixed c)) H
end Nl

set_option Elab.async false
set_option linter.all false
set_option maxRecDepth 100000
set_option maxHeartbeats 1000000
namespace Nl
open PySem PySem.Spec PySem.Calls PyProof.Rows PySem.W
/-- a, *rest = a list: the rest is a new list -/
theorem star_list {prog : Program} {w : World} {A : Around} {E : Value → Shared → Prop} {s : Shared} {l : Addr} {items : Array Value} {first rest : List Value} {Q : List Value → Shared → Prop}
    (hl : s.heap.IsList l items) (hh : A.handled = none) (hn : 1 ≤ items.size) (hz : items.size ≤ 16384) (h1 : items.toList = first ++ rest) (h2 : first.length = 1)
    (h : ∀ (h₂ : Heap) (tk : Nat), (∀ b o, s.heap.get? b = some o → h₂.get? b = some o) → Q (first ++ [.ref h₂.objs.size]) { s with heap := h₂.push { cls := .type "list", data := .seq rest.toArray 0 }, toks := tk }) :
    wpAny (model prog w) A (unpackItems (.ref l) 2 (some 1)) Q E s := by
  have hlt : l ≠ s.heap.objs.size := by obtain ⟨o, ho, _⟩ := hl; exact Nat.ne_of_lt (Heap.lt_size ho)
  have hsz : items.toList.length = items.size := Array.length_toList
  have ht : items.toList.take 1 = first := by rw [h1, List.take_append_of_le_length (by omega), List.take_of_length_le (by omega)]
  have hd : items.toList.drop 1 = rest := by rw [h1, List.drop_append_of_le_length (by omega), List.drop_of_length_le (by omega)]; rfl
  unfold unpackItems
  refine wpAny_bind ?_
  unfold notIterableAtAll
  refine wpAny_bind (wpAny_specialOf hl.typeIs slot_list_iter.lookup ?_)
  refine wpAny_pure ?_
  simp only [Bool.false_eq_true, if_false]
  refine wpAny_bind (wpAny_holding (wpAny_pyIter_list hl ?_))
  refine wpAny_bind (wpAny_holding (kun_draw hlt 1 0 _ _ ⟨_, Heap.get?_push_size _ rfl, rfl, rfl⟩ (hl.push _) (by omega) fun h₁ hit₁ hs₁ => ?_))
  have hl₁ : h₁.IsList l items := (hl.push _).extBut hs₁.extBut hlt
  rw [Nat.zero_add] at hit₁
  have hit₁' := hit₁
  obtain ⟨oi, hoi, _⟩ := hit₁'
  have hl₁' := hl₁
  obtain ⟨ol, hol, _⟩ := hl₁'
  rw [List.drop_zero, ht]
  rw [if_neg (show ¬ (first.length < 1) by omega)]
  refine wpAny_bind (wpAny_holding (kun_collect (s := { s with heap := h₁ }) (T := "list_iterator") (.inr (.inr (.inl rfl))) (Walks.list (A := A.in1) hh s.heap.objs.size l hlt items) (fun j u st => st.1.typeIs) (k := 1) (by omega) ⟨hit₁, hl₁⟩ (Heap.lt_size hoi) (Heap.lt_size hol) (fun h₂ tk hk => ?_) (by rw [sizeLine_eq]; omega)))
  rw [hd]
  show wpAny _ _ (if rest.length < 0 then _ else _) _ _ _
  rw [if_neg (Nat.not_lt_zero _)]
  show wpAny _ _ (newList (rest.take (rest.length - 0)) >>= fun d => pure (first ++ [d] ++ rest.drop (rest.length - 0))) _ _ _
  rw [Nat.sub_zero, List.take_length, List.drop_length]
  have hr : rest.length ≤ items.size := by rw [← hsz, h1, List.length_append]; omega
  have he : ∀ b o, s.heap.get? b = some o → h₂.get? b = some o := fun b o e =>
    hk b o (Nat.ne_of_lt (Heap.lt_size e)) ((hs₁.2 b (Nat.ne_of_lt (Heap.lt_size e))).trans (Heap.get?_push_of_some _ e))
  refine wpAny_bind (wpAny_newObj_type ?_ (by show rest.toArray.size ≤ sizeLine; rw [List.size_toArray, sizeLine_eq]; omega))
  refine wpAny_pure ?_
  rw [List.append_nil]
  exact h h₂ tk he
end Nl
namespace Nl
open PySem PySem.Spec PyProof.Rows L2
/-- a, *rest = xs, a list; both names in slots -/
def gStar (K : PySem.W.Frag) (i j : Nat) : TG := fun v σ H Q => ∃ a x xs, v = .ref a ∧ SqL K H a (x :: xs) ∧ xs.length < 16384 ∧ ∀ p, H p = none → Q ((σ.set i (some x)).set j (some (.ref p))) (upd H p (.lst xs))
theorem pg_star {X : Cx} {i j : Nat} {x y : Str} {px py pp pos : Pos} {k1 : Nat} (hc : X.calm = true) (hN : X.N.Nodup) (hi : X.N[i]? = some x) (hx : Loc X.env.scope x) (hj : X.N[j]? = some y) (hy : Loc X.env.scope y)
    (fx : X.fn x = true ∨ X.env.scope.names.lookup x = some .local := by first | exact .inl rfl | exact .inr rfl | assumption) (fy : X.fn y = true ∨ X.env.scope.names.lookup y = some .local := by first | exact .inl rfl | exact .inr rfl | assumption) :
    PG X (.Tuple [.Name x px, .Starred (.Name y py) pp] k1 pos) (gStar X.K i j) := by
  refine ⟨fun pins s σ H v u Q I r h => ?_⟩
  obtain ⟨a, x1, xs, rfl, hs, hz, q⟩ := h
  cases r
  obtain ⟨its, rv, pl, hl⟩ := I.list hs
  have el : (x1 :: xs).length = its.length := rv.length
  cases rv with
  | cons r1 rr =>
    rename_i u1 us
    rw [PyProof.Rows.assign_Tuple]
    refine wpAny_bind (wpAny_standAt ?_)
    unfold unpack
    have h1 : (assignEach [.Name x px, .Starred (.Name y py) pp] X.env).length = 2 := rfl
    have h2 : (assignEach [.Name x px, .Starred (.Name y py) pp] X.env).findIdx? (·.1) = some 1 := rfl
    rw [h1, h2]
    refine wpAny_bind (wpAny_holding (star_list (first := [u1]) (rest := us) pl.isList (I.ok.hd hc) (by simp) (by simp at el ⊢; omega) (by simp) rfl fun h₂ tk hk => ?_))
    have I2 : Inv X pins σ H { s with heap := h₂, toks := tk } := I.kept hk
    have I3 := I2.laid (a := h₂.objs.size) (o := .lst xs) (h' := h₂.push { cls := .type "list", data := .seq us.toArray 0 }) (t' := tk) (fun b o e => Heap.get?_push_of_some _ e) (Nat.le_refl _) ⟨(by simp at hl; omega), us, 0, rr, Heap.get?_push_size _ rfl⟩
    have hf : H h₂.objs.size = none := I2.hok.fresh (Nat.le_refl _)
    show wpAny _ _ (assignInOrder [assign (.Name x px) X.env, assign (.Name y py) X.env] [u1, .ref h₂.objs.size]) _ _ _
    refine assignInOrder_cons (wpAny_assign_Name (store_ok I3 hN hi hx r1 (fun s4 I4 => ?_) fx))
    refine assignInOrder_cons (wpAny_assign_Name (store_ok (v := V.ref h₂.objs.size) I4 hN hj hy rfl (fun s5 I5 => assignInOrder_nil ⟨_, _, I5, q _ hf⟩) fy))
end Nl

set_option Elab.async false
set_option linter.all false
set_option maxRecDepth 100000
set_option maxHeartbeats 1000000
namespace Nl
open PySem PySem.Spec PyProof.Rows L2 L2H
/-! ### a def that is called while an error of the class at D, that stands at p, is handled -/
structure FnS (P : Program) (w : World) (K : PySem.W.Frag) (mg : Str → Option Value) (base : Heap) (k : Nat) (f : Addr) (fd : FuncData) (ps : List Str) (sp : Addr → Addr → Sp) : Prop where
  len : ∀ D a vs H Q E, sp D a vs H Q E → vs.length = ps.length
  run : ∀ (A : Around) (outer : List Env) (s : Shared) (H : Hp) (args : Args) (us : List Value) (vs : List V) (Q : VK) (E : XK) (p : Addr × Obj) (D : Addr), RoomH k A → Zc (.ref D) none p.2 → (∃ fs, p.2.data = .fields fs) → PinOk outer H s p → Env0 P w K mg base A outer s H →
    BindsTo s fd args (ps.zip us) → Vals vs us → sp D p.1 vs H Q E → codeAny (model P w) A (.call (.ref f) args) (CR CX0 outer P w H s Q E) s
theorem fn_ofS {P : Program} {w : World} {K : PySem.W.Frag} {mg : Str → Option Value} {base : Heap} {k : Nat} {f : Addr} {name qual : Str} {params : Arguments} {body : List Stmt} {scope : Scope} {dV kV doc pm cdv ct oc : Value} {an od : Option Addr}
    {osl : Array (Option Value)} {N ps : List Str} {sp : Addr → Addr → Sp} (lk : K.lookup f = some ⟨oc, od, .func (PySem.W.fnOf name qual params body scope dV kV doc pm an cdv ct), osl⟩) (hcd : PySem.W.codeIn K cdv qual = true) (S : FnScope N ps scope)
    (len : ∀ D a vs H Q E, sp D a vs H Q E → vs.length = ps.length)
    (hbody : ∀ (A : Around) (outer : List Env) (s : Shared) (H : Hp) (vs : List V) (Q : VK) (E : XK) (p : Addr × Obj) (D : Addr), Zc (.ref D) none p.2 → (∃ fs, p.2.data = .fields fs) → RoomH k (A.deeper (envOfC qual scope s.heap.objs.size f cdv)) → sp D p.1 vs H Q E →
      ∃ t, PSs (cxH CX0 P w K mg base N qual scope f cdv A outer s H E p) body t ∧ t { nx := fun _ H' => Q .non H', rt := Q } (L2.start N vs) H) :
    FnS P w K mg base (k + 1) f (PySem.W.fnOf name qual params body scope dV kV doc pm an cdv ct) ps sp := by
  refine ⟨len, fun A outer s H args us vs Q E p D hr hz hf hpin e0 hb r hsp => ?_⟩
  have hl := len _ _ _ _ _ _ hsp
  have stay := fun b o e => (e0.bs b o e).1
  have hkind : ∀ y ∈ ps.zip us, scope.names.lookup y.1 = some .local ∨ (scope.names.lookup y.1 = some .cell ∧ ((cellsFrom (s.heap.objs.size + 1) scope.names []).lookup y.1).isSome = true) := fun ⟨n, v⟩ hy =>
    (S.par n (List.of_mem_zip hy).1).elim (fun q => .inl q) fun q => .inr ⟨q, PySem.W.cellsFrom_some _ _ _ (.inl q)⟩
  have KX : K.In s.heap := e0.mod.kin.keeps stay
  have lim : s.heap.NoLimit := e0.mod.nolimit.keeps stay
  refine codeAny_call_function hr.depth (KX _ _ lk) rfl S.co S.gen rfl (PySem.W.codeRec_of KX hcd) (hb _ _ _ _ ?_)
  refine wpAny_newFunctionEnv_cells S.kind hkind fun env he s1 x => ?_
  subst he
  refine ⟨lim.keeps x.toInCall.keep, codeAny_func ?_⟩
  obtain ⟨t, ht, hq⟩ := hbody A outer s H vs Q E p D hz hf (hr.deeper _) hsp
  refine wpAny_mono (ht.run [] s1 (L2.start N vs) H _ (inv_startH S hpin e0 hl r x) hq) (fun fl s' hs => ?_) fun e s' hs => hs
  cases fl with
  | ret u =>
    obtain ⟨v, σ', H', J, rv, q⟩ := hs
    exact ⟨v, H', J.os, J.bare, J.base, J.hok, rv, q⟩
  | next =>
    obtain ⟨σ', H', J, q⟩ := hs
    exact ⟨V.non, H', J.os, J.bare, J.base, J.hok, rfl, q⟩
  | brk =>
    obtain ⟨_, _, _, q⟩ := hs
    exact q.elim
  | cont =>
    obtain ⟨_, _, _, q⟩ := hs
    exact q.elim
structure CalS (P : Program) (w : World) (K : PySem.W.Frag) (mg : Str → Option Value) (base : Heap) (k : Nat) (x : Str) (sp : Addr → Addr → Sp) : Prop where
  ex : ∃ (f : Addr) (fd : FuncData) (ps : List Str), FnS P w K mg base k f fd ps sp ∧ mg x = some (.ref f) ∧ PySem.W.keepIn K (.ref f) = true ∧ Binds K fd ps []
theorem calS_of {P : Program} {w : World} {K : PySem.W.Frag} {mg : Str → Option Value} {base : Heap} {x : Str} {st : Stmt} {N ps : List Str} {k : Nat} {sp : Addr → Addr → Sp} (T : Top K mg) (D : DefAt K x st) (S : FnScope N ps (defScope st)) (b : BindOk x st ps)
    (len : ∀ D a vs H Q E, sp D a vs H Q E → vs.length = ps.length)
    (hbody : ∀ (f : Addr) (cdv : Value) (A : Around) (outer : List Env) (s : Shared) (H : Hp) (vs : List V) (Q : VK) (E : XK) (p : Addr × Obj) (D : Addr), Zc (.ref D) none p.2 → (∃ fs, p.2.data = .fields fs) → RoomH k (A.deeper (envOfC x (defScope st) s.heap.objs.size f cdv)) → sp D p.1 vs H Q E →
      ∃ t, PSs (cxH CX0 P w K mg base N x (defScope st) f cdv A outer s H E p) (defBody st) t ∧ t { nx := fun _ H' => Q .non H', rt := Q } (L2.start N vs) H) : CalS P w K mg base (k + 1) x sp := by
  obtain ⟨f, oc, od, an, osl, kV, doc, pm, cdv, ct, a, l, c, kp⟩ := D
  have F := fun_mk (st := st) l c kp
  exact ⟨f, _, ps, fn_ofS l c S len fun A outer s H vs Q E p D hz hf hr h => hbody f cdv A outer s H vs Q E p D hz hf hr h, T.of a, kp, F.binds b⟩
section
variable {X : Cx} {k j : Nat} {x : Str} {sp : Addr → Addr → Sp} {p pos : Pos} {e : Expr} {es : List Expr} {t : TA}
/-- f(..) within the suite of a clause; the error at a, of the class cls -/
def tCallSu (sp : Addr → Addr → Sp) (a : Addr) (cls : Value) (d : Option Addr) (t : TA) : TE := fun σ H Q => t σ H fun vs H1 => ∃ D, cls = .ref D ∧ d = none ∧ sp D a vs H1 Q E0
theorem pe_su {a : Addr} {oe : Obj} {cls : Value} {d : Option Addr} {pn : List (Addr × Obj)} (c : CalS X.prog X.w X.K X.mg X.base k x sp) (hz : Zc cls d oe) (hf : ∃ fs, oe.data = .fields fs) (hr : Room j X.A) (hk : k ≤ j) (hg : Gl X x) (ha : PA (X.suite a ((a, oe) :: pn)) (e :: es) t)
    (hdb : (x == ("__debug__" : Str)) = false := by decide) (he : starEach (e :: es) X.env = (false, eval e X.env) :: starEach es X.env := by rfl) (hpl : (backTo pos (starEach es X.env)).any (·.1) = false := by rfl) :
    PE (X.suite a ((a, oe) :: pn)) (.Call (.Name x p) (e :: es) [] pos) (tCallSu sp a cls d t) := by
  obtain ⟨f, fd, ps, F, hm, kp, hb⟩ := c.ex
  refine ⟨fun pins s σ H Q I h => ?_⟩
  refine wpAny_Call_Name_kw (ld_glob I hg hm ?_ hdb)
  refine PySem.W.callWith_K (h₀ := X.base) I.ok.mod.kin kp (thn (ha.run pos pins s σ H _ I h) fun us s1 ⟨vs, H1, I1, r, D, ec, ed, q⟩ => ⟨I1.kIn, ?_⟩) he hpl
  subst ec ed
  have hl : us.length = ps.length := by rw [← r.length]; exact F.len _ _ _ _ _ _ q
  have b := hb s1 us I1.kIn (by rw [List.append_nil]; exact hl)
  rw [List.append_nil] at b
  have P1 := I1.pin (a, oe) (List.mem_append_left _ List.mem_cons_self)
  have hpin : PinOk (X.suite a ((a, oe) :: pn)).stack H1 s1 (a, oe) := ⟨P1.1, P1.2.1, fun hm => (List.mem_cons.mp (I1.stkSub a hm)).elim P1.2.2.1 P1.2.2.2.1, P1.2.2.2.2⟩
  have hr2 : RoomH k (X.suite a ((a, oe) :: pn)).A := ⟨(hr.mono hk).dp, (hr.mono hk).un⟩
  refine wpAny_call (codeAny_mono (F.run _ _ s1 H1 ⟨us, []⟩ us vs Q E0 (a, oe) D hr2 hz hf hpin I1.env0 b r q) fun r s' hq => ?_)
  cases r with
  | error e => exact hq.elim
  | ok fl =>
    cases fl with
    | ret u => exact I1.after hq
    | next => exact hq.elim
    | brk => exact hq.elim
    | cont => exact hq.elim
/-- isinstance of an error that is pinned -/
theorem call_isP {q : Addr × Obj} {D : Addr} (hq : q ∈ X.pn) (C : ExcC X.K D) (hz : Zc (.ref D) none q.2) (hf : ∃ fs, q.2.data = .fields fs) : CallR X (.builtin "isinstance") (rIsE X.K D q.1) := by
  intro pins s σ H xs us Q I r h
  obtain ⟨c, cv, b, rfl, hcv, e, k⟩ := h
  cases r with
  | cons rx rr =>
    cases rr with
    | cons rt rr =>
      cases rr
      cases rx
      have ec := hcv _ rt
      subst ec
      have hget := (I.pin q (List.mem_append_left _ hq)).1
      have J : PySem.W.InstAt s.heap q.1 q.2 D none := by
        obtain ⟨fs, hv⟩ := hf
        obtain ⟨a, oc, od, oda, osl⟩ := q
        obtain ⟨h1, h2⟩ := hz
        dsimp only at h1 h2 hv
        subst h1 h2 hv
        exact ⟨hget, rfl, rfl, trivial⟩
      exact PySem.W.kia_one (PySem.W.handS_kitx_exc C.hg C.hk C.hs C.hd C.ha C.hn C.ht C.hm) I.kIn J e (fun z => nomatch z) fun tk => ⟨.bl b, H, I.kept (t' := tk) fun _ _ z => z, rfl, k⟩
/-- xs.count(x), all of them plain -/
def rCntV (K : PySem.W.Frag) : V → List V → Hp → VK → Prop := fun x xs H Q => ∃ (p : Addr) (ys : List V) (y : V), x = .ref p ∧ xs = [y] ∧ SqL K H p ys ∧ flatV y = true ∧ ys.all flatV = true ∧ Q (.int (ys.countP (fun z => eqV z y) : Nat)) H
theorem countU {x : V} : ∀ {ys : List V} {us : List Value}, Vals ys us → ys.all flatV = true → us.countP (eqU x) = ys.countP fun z => eqV z x
  | _, _, .nil, _ => rfl
  | _, _, .cons r t, f => by
    rw [List.all_cons, Bool.and_eq_true] at f
    rw [List.countP_cons, List.countP_cons, countU t f.2, eqU_of r f.1]
theorem mt_countV : MtR X "list.count" (rCntV X.K) := by
  intro pins s σ H x xs v us Q I rx rxs h
  obtain ⟨p, ys, y, rfl, rfl, hs, fy, fl, q⟩ := h
  cases rx
  obtain ⟨u, rfl, ru⟩ := rxs.one
  obtain ⟨its, rv, ⟨⟨cls, dd, data, sl⟩, n, ho, hc, hdn, hd⟩, hlen⟩ := I.list hs
  simp only at hc hd
  subst hc hd
  refine call_meets PySem.F.slot_list_count ⟨_, ho, rfl⟩ PySem.F.entry_list_count (PySem.F.args_list_count_2 _ _) (SeqAt.list_countAt p its.toArray n dd sl u (eqU y)) ⟨ho, fun z hz => mem_eqAt ru fy rv fl z (by simpa using hz), ?_⟩
  have ec : its.toArray.toList.countP (eqU y) = ys.countP (fun z => eqV z y) := by rw [List.toList_toArray]; exact countU rv fl
  rw [ec]
  exact ⟨.int _, H, I.tok _, ⟨s.toks, rfl⟩, q⟩
end
/-! ### isinstance of one of the five refusals -/
structure AloneAt (K : PySem.W.Frag) (cs : List Addr) (cL : Addr) (D : Addr) (own : Nat) : Prop where
  ex : ExcC K D
  k : ∀ j c, cs[j]? = some c → PySem.W.kitOne K (.ref D) (.ref c) = some (decide (j = own))
  line : PySem.W.kitOne K (.ref D) (.ref cL) = some true
  val : PySem.W.kitOne K (.ref D) (.type "ValueError") = some true
/-- an error of the class D is the own-th of the five and none else -/
def spAlone (K : PySem.W.Frag) (cs : List Addr) (cL : Addr) : Addr → Addr → Sp := fun D a vs H Q _ => ∃ own : Nat, vs = [.ref a, .int (own : Nat)] ∧ own < 5 ∧ AloneAt K cs cL D own ∧ ∀ H', Same H H' → Q (.bl true) H'
/-! ### plain values as data -/
def dOf : V → PyData
  | .bl b => .bool b
  | .int i => .int i
  | .str x => .str x
  | _ => .none
theorem dp_flat {K : PySem.W.Frag} {H : Hp} {v : V} (h : flatV v = true) : Dp K H v (dOf v) := by
  cases v with
  | non => exact .non
  | bl b => exact .bl b
  | int i => exact .int i
  | str x => exact .str x
  | _ => cases h
theorem dpAll_flat {K : PySem.W.Frag} {H : Hp} : ∀ {xs : List V}, xs.all flatV = true → DpAll K H xs (xs.map dOf)
  | [], _ => .nil
  | x :: xs, h => by
    rw [List.all_cons, Bool.and_eq_true] at h
    exact .cons (dp_flat h.1) (dpAll_flat h.2)
theorem dp_tup {K : PySem.W.Frag} {H : Hp} {p : Addr} {xs : List V} (h : SqT K H p xs) (f : xs.all flatV = true) : Dp K H (.ref p) (.tuple (xs.map dOf)) := .tup h (dpAll_flat f)
theorem dp_lst {K : PySem.W.Frag} {H : Hp} {p : Addr} {xs : List V} (h : SqL K H p xs) (f : xs.all flatV = true) : Dp K H (.ref p) (.list (xs.map dOf)) := .lst h (dpAll_flat f)
theorem depth_flat : ∀ xs : List V, PyData.depthAll (xs.map dOf) = 0
  | [] => rfl
  | x :: xs => by
    have e : (dOf x).depth = 0 := by cases x <;> rfl
    rw [List.map_cons, PyData.depthAll, e, depth_flat xs]
    rfl
theorem shaped_tup {xs : List V} (h : PyData.canLayAll0 (xs.map dOf) = true) : SeqAt.shaped (.tuple (xs.map dOf)) = true := by
  have e : PyData.depth (.tuple (xs.map dOf)) = 1 := by rw [PyData.depth, depth_flat]
  unfold SeqAt.shaped
  rw [e]
  show (PyData.canLayAll0 (xs.map dOf) && _) = true
  rw [h]
  rfl
theorem shaped_lst {xs : List V} (h : PyData.canLayAll0 (xs.map dOf) = true) : SeqAt.shaped (.list (xs.map dOf)) = true := by
  have e : PyData.depth (.list (xs.map dOf)) = 1 := by rw [PyData.depth, depth_flat]
  unfold SeqAt.shaped
  rw [e]
  show (PyData.canLayAll0 (xs.map dOf) && _) = true
  rw [h]
  rfl
theorem lay_ints : ∀ ns : List Int, PyData.canLayAll0 ((ns.map V.int).map dOf) = true
  | [] => rfl
  | n :: ns => by
    show (true && PyData.canLayAll0 ((ns.map V.int).map dOf)) = true
    rw [lay_ints ns]
    rfl
theorem eqv_same {d : PyData} (h : SeqAt.shaped d = true) : PyData.eqv d d = true := PySem.SeqAt.eqv_refl d (SeqAt.canLay_of_shaped h)
end Nl

set_option Elab.async false
set_option linter.all false
set_option maxRecDepth 100000
set_option maxHeartbeats 4000000
namespace Nl
open PySem PySem.Spec PyProof.Rows L2 L2H
/-! ### data at any depth -/
mutual
theorem dp_same {K : PySem.W.Frag} {H H' : Hp} (s : Same H H') : ∀ (d : PyData) (v : V), Dp K H v d → Dp K H' v d
  | .none, _, h => by cases h; exact .non
  | .bool _, _, h => by cases h; exact .bl _
  | .int _, _, h => by cases h; exact .int _
  | .str _, _, h => by cases h; exact .str _
  | .list ds, _, h => by
    cases h with
    | lst q a => exact .lst (s.seq q) (dpAll_same s ds _ a)
  | .tuple ds, _, h => by
    cases h with
    | tup q a => exact .tup (s.sqt q) (dpAll_same s ds _ a)
  | .dict _, _, h => by cases h
theorem dpAll_same {K : PySem.W.Frag} {H H' : Hp} (s : Same H H') : ∀ (ds : List PyData) (vs : List V), DpAll K H vs ds → DpAll K H' vs ds
  | [], _, h => by cases h; exact .nil
  | d :: ds, _, h => by
    cases h with
    | cons a b => exact .cons (dp_same s d _ a) (dpAll_same s ds _ b)
end
theorem dpA_len {K : PySem.W.Frag} {H : Hp} : ∀ {vs : List V} {ds : List PyData}, DpAll K H vs ds → vs.length = ds.length
  | _, _, .nil => rfl
  | _, _, .cons _ h => by simp only [List.length_cons, dpA_len h]
theorem dpA_get {K : PySem.W.Frag} {H : Hp} : ∀ {vs : List V} {ds : List PyData} {i : Nat} {v : V}, DpAll K H vs ds → vs[i]? = some v → ∃ d, ds[i]? = some d ∧ Dp K H v d
  | _, _, i, v, .nil, e => by simp at e
  | _, _, 0, v, .cons (d := d) a h, e => by
    rw [List.getElem?_cons_zero] at e
    cases e
    exact ⟨d, rfl, a⟩
  | _, _, i + 1, v, .cons a h, e => by
    rw [List.getElem?_cons_succ] at e
    obtain ⟨d, e2, q⟩ := dpA_get h e
    exact ⟨d, by rw [List.getElem?_cons_succ]; exact e2, q⟩
theorem dpA_set {K : PySem.W.Frag} {H : Hp} {v : V} {d : PyData} (q : Dp K H v d) : ∀ {vs : List V} {ds : List PyData} {i : Nat}, DpAll K H vs ds → DpAll K H (vs.set i v) (ds.set i d)
  | _, _, _, .nil => .nil
  | _, _, 0, .cons a h => .cons q h
  | _, _, i + 1, .cons a h => .cons a (dpA_set q h)
theorem dpA_app {K : PySem.W.Frag} {H : Hp} {v : V} {d : PyData} (q : Dp K H v d) : ∀ {vs : List V} {ds : List PyData}, DpAll K H vs ds → DpAll K H (vs ++ [v]) (ds ++ [d])
  | _, _, .nil => .cons q .nil
  | _, _, .cons a h => .cons a (dpA_app q h)
theorem dpAll_flat2 {K : PySem.W.Frag} {H : Hp} : ∀ {xs : List V}, xs.all flatV = true → DpAll K H xs (xs.map dOf)
  | [], _ => .nil
  | x :: xs, h => by
    rw [List.all_cons, Bool.and_eq_true] at h
    exact .cons (dp_flat h.1) (dpAll_flat2 h.2)
def tyN : PyData → String
  | .none => "NoneType" | .bool _ => "bool" | .int _ => "int" | .str _ => "str" | .list _ => "list" | .tuple _ => "tuple" | .dict _ => "dict"
theorem ty_l {K : PySem.W.Frag} {H : Hp} {a : Addr} {xs : List V} (h : SqL K H a xs) : TyX K H (.ref a) (.type "list") := by
  rcases h with (h | ⟨_, h⟩) | ⟨_, _, _, h, c, _⟩
  · exact .base (.lst h)
  · exact .base (.frz h)
  · exact .kList h c
theorem ty_t {K : PySem.W.Frag} {H : Hp} {a : Addr} {xs : List V} (h : SqT K H a xs) : TyX K H (.ref a) (.type "tuple") := by
  rcases h with (h | ⟨_, h⟩) | ⟨_, _, _, h, c, _⟩
  · exact .base (.tup h)
  · exact .fTuple h
  · exact .kTuple h c
theorem dp_ty {K : PySem.W.Frag} {H : Hp} {v : V} {d : PyData} (h : Dp K H v d) : TyX K H v (.type (tyN d)) := by
  cases h with
  | non => exact .base .non
  | bl b => exact .base (.bl b)
  | int i => exact .base (.int i)
  | str x => exact .base (.str x)
  | lst h _ => exact ty_l h
  | tup h _ => exact ty_t h
theorem tyN_in (d : PyData) : tyN d ∈ ["NoneType", "bool", "int", "str", "list", "tuple", "dict"] := by
  cases d <;> simp [tyN]
theorem kit_d {n : String} (h : ∀ a ∈ ["NoneType", "bool", "int", "str", "list", "tuple", "dict"], kitB a n = some (decide (a = n))) (d : PyData) : kitB (tyN d) n = some (decide (tyN d = n)) := h _ (tyN_in d)
theorem kit_int (d : PyData) : kitB (tyN d) "int" = some (decide (tyN d = "int" ∨ tyN d = "bool")) :=
  (by decide +kernel : ∀ a ∈ ["NoneType", "bool", "int", "str", "list", "tuple", "dict"], kitB a "int" = some (decide (a = "int" ∨ a = "bool"))) _ (tyN_in d)
theorem kit_bool (d : PyData) : kitB (tyN d) "bool" = some (decide (tyN d = "bool")) := kit_d (by decide +kernel) d
theorem kit_tup (d : PyData) : kitB (tyN d) "tuple" = some (decide (tyN d = "tuple")) := kit_d (by decide +kernel) d
theorem kit_str (d : PyData) : kitB (tyN d) "str" = some (decide (tyN d = "str")) := kit_d (by decide +kernel) d
/-- for x in an iterator -/
theorem for_gen {J : It} {g : TG} {tb : TS} {D : Ends} {σ : L2.St} {H : Hp} (n : Nat) (Pv : Nat → L2.St → Hp → Prop) (h0 : Pv 0 σ H) (go : ∀ i σ H, i < n → Pv i σ H → J.go i H) (stop : ∀ σ H, Pv n σ H → J.stop n H)
    (hs : ∀ i σ H y H', i < n → Pv i σ H → J.yld i H y H' → g y σ H' fun σ2 H2 => tb { D with nx := Pv (i + 1), ct := Pv (i + 1), bk := D.nx } σ2 H2) (hd : ∀ σ H, Pv n σ H → D.nx σ H) :
    ∃ W : Nat → Nat → L2.St → Hp → Prop, (∃ m, W 0 m σ H) ∧ ∀ i m σ H, W i m σ H →
      (J.stop i H ∧ D.nx σ H) ∨ (J.go i H ∧ ∃ N : L2.St → Hp → Prop, (∀ σ' H', N σ' H' → ∃ m', m' < m ∧ W (i + 1) m' σ' H') ∧ ∀ y H', J.yld i H y H' → g y σ H' fun σ2 H2 => tb { D with nx := N, ct := N, bk := D.nx } σ2 H2) := by
  refine ⟨fun i m σ H => m = n - i ∧ i ≤ n ∧ Pv i σ H, ⟨n, by simp, Nat.zero_le _, h0⟩, ?_⟩
  rintro i m σ H ⟨rfl, hi, p⟩
  by_cases hlt : i < n
  · exact .inr ⟨go i σ H hlt p, Pv (i + 1), fun σ' H' p' => ⟨n - (i + 1), by omega, rfl, hlt, p'⟩, fun y H' q => hs i σ H y H' hlt p q⟩
  · have e : i = n := by omega
    subst e
    exact .inl ⟨stop σ H p, hd σ H p⟩
/-- a whole number within the bounds, True and False are none -/
def wholeIn (d : PyData) (lo hi : Int) : Bool := match d with
  | .int i => decide (lo ≤ i) && decide (i ≤ hi)
  | _ => false
def lastOf (size count : Int) (k : Str) : Int := if k = "box" then size - 1 else if k = "number" then 999999 else count
def fitK (size count : Int) (l : List Str) (ps : List PyData) : Bool := (List.range l.length).all fun k => wholeIn (ps.getD k .none) 0 (lastOf size count (l.getD k Str.empty))
theorem cutV_1 (x : V) (xs : List V) : cutV (x :: xs) (some 1) none = xs := by
  unfold cutV
  have h1 : HT.sIx (x :: xs).length 0 (some 1) = 1 := by
    have := HT.sIx_nat (x :: xs).length 0 1
    simp only [List.length_cons] at this ⊢
    rw [show ((1 : Nat) : Int) = 1 from rfl] at this
    rw [this]
    omega
  rw [h1, HT.sIx_none]
  simp
theorem dpA_by {K : PySem.W.Frag} {H : Hp} : ∀ {vs : List V} {ds : List PyData}, vs.length = ds.length → (∀ (j : Nat) (v : V), vs[j]? = some v → ∃ d, ds[j]? = some d ∧ Dp K H v d) → DpAll K H vs ds
  | [], [], _, _ => .nil
  | v :: vs, d :: ds, hl, h => by
    refine .cons ?_ (dpA_by (Nat.succ.inj hl) fun j v' e => ?_)
    · obtain ⟨d', e, q⟩ := h 0 v rfl
      cases e
      exact q
    · obtain ⟨d', e', q⟩ := h (j + 1) v' (by rw [List.getElem?_cons_succ]; exact e)
      exact ⟨d', by rw [List.getElem?_cons_succ] at e'; exact e', q⟩
  | [], _ :: _, hl, _ => by cases hl
  | _ :: _, [], hl, _ => by cases hl
/-- [a new tuple for k in range(..)] -/
theorem lc_tr {g : TG} {tt : TT} {te : TE} {vs : List Nat} {σ : L2.St} {H1 : Hp} {D : Addr} {Qd : Hp → Prop} {lo : Int} {n : Nat} (fx : Nat → List V) (hD : H1 D = none) (hz : n < sizeLine)
    (hs : ∀ i H, i < n → Same H1 H → ∀ (k1 : VK) (k0 : Hp → Prop), (∀ p H', H' p = some (.tup (fx i)) → Same H H' → k1 (.ref p) H') →
      g (.int (lo + (i : Nat))) (wipe σ vs) H fun σ2 H2 => wipe σ2 vs = wipe σ vs ∧ tt σ2 H2 fun b H3 => if b = true then te σ2 H3 k1 else k0 H3)
    (hd : ∀ H acc, Same H1 H → H D = some (.lst acc) → acc.length = n → (∀ j, j < n → ∃ p, acc[j]? = some (.ref p) ∧ H p = some (.tup (fx j))) → Qd H) : LcW (Itr lo n) g tt te vs σ H1 D Qd := by
  refine ⟨fun i m H => m = n - i ∧ i ≤ n ∧ Same H1 H ∧ ∃ acc, H D = some (.lst acc) ∧ acc.length = i ∧ ∀ j, j < i → ∃ p, acc[j]? = some (.ref p) ∧ H p = some (.tup (fx j)), ⟨n, by simp, Nat.zero_le _, Same.new hD, [], upd_same, rfl, fun j h => absurd h (Nat.not_lt_zero _)⟩, ?_⟩
  rintro i m H ⟨rfl, hi, s1, acc, h1, hl, ha⟩
  by_cases hlt : i < n
  · refine .inr ⟨hlt, fun H' => Same H1 H' ∧ ∃ acc, H' D = some (.lst acc) ∧ acc.length = i + 1 ∧ ∀ j, j < i + 1 → ∃ p, acc[j]? = some (.ref p) ∧ H' p = some (.tup (fx j)), fun H' p' => ⟨n - (i + 1), by omega, rfl, hlt, p'⟩, fun x H' y => ?_⟩
    obtain ⟨e, y⟩ := y
    subst e y
    refine hs i _ hlt s1 _ _ (fun p H'' hp s3 => ?_)
    refine ⟨acc, s3 _ _ h1, by omega, (s1.trans s3).mut hD, acc ++ [.ref p], upd_same, by rw [List.length_append, hl]; rfl, fun j hj => ?_⟩
    have hne : ∀ q u, H'' q = some (.tup u) → q ≠ D := fun q u e z => by
      rw [z, s3 _ _ h1] at e
      cases e
    by_cases h : j < i
    · obtain ⟨q, e1, e2⟩ := ha j h
      have e3 := s3 _ _ e2
      exact ⟨q, by rw [List.getElem?_append_left (by omega)]; exact e1, by rw [upd_ne (hne q _ e3)]; exact e3⟩
    · have : j = i := by omega
      subst this
      exact ⟨p, by rw [List.getElem?_append_right (by omega), hl, Nat.sub_self]; rfl, by rw [upd_ne (hne p _ hp)]; exact hp⟩
  · have e : i = n := by omega
    subst e
    exact .inl ⟨Nat.le_refl _, hd H acc s1 h1 hl ha⟩
end Nl

set_option Elab.async false
set_option linter.all false
set_option maxRecDepth 100000
set_option maxHeartbeats 4000000
namespace Nl
open PySem PySem.Spec PyProof.Rows L2 L2H
/-! ### match over a tuple whose first item is a text -/
/-- the cases of a match, by the subject -/
structure PMs (X : Cx) (cs : List MatchCase) (t : V → TS) : Prop where
  run : ∀ (pins : List (Addr × Obj)) (s : Shared) (σ : L2.St) (H : Hp) (D : Ends) (v : V) (u : Value) (first : Bool), Inv X pins σ H s → RelV v u → t v D σ H → wpAny (model X.prog X.w) X.A (matchCases cs X.env u first) (SP X pins D) X.xe s
def mNil : V → TS := fun _ D σ H => D.nx σ H
theorem pm_nil {X : Cx} : PMs X [] mNil := ⟨fun pins s σ H D v u first I r h => wpAny_matchCases_nil ⟨σ, H, I, h⟩⟩
/-- the names of the other items go to their slots -/
def setAll : List Nat → List V → L2.St → L2.St
  | i :: is, y :: ys, σ => setAll is ys (σ.set i (some y))
  | _, _, σ => σ
inductive Caps (X : Cx) : List Pattern → List Nat → Prop
  | nil : Caps X [] []
  | cons {x : Str} {p : Pos} {ps : List Pattern} {i : Nat} {is : List Nat} (hi : X.N[i]? = some x) (hx : Loc X.env.scope x) (hf : X.fn x = true ∨ X.env.scope.names.lookup x = some .local) (h : Caps X ps is) : Caps X (.MatchAs none (some x) p :: ps) (i :: is)
def capB : List Pattern → List Value → List (Str × Value)
  | .MatchAs none (some x) _ :: ps, u :: us => (x, u) :: capB ps us
  | _, _ => []
theorem Caps.len {X : Cx} {ps : List Pattern} {is : List Nat} (c : Caps X ps is) : ps.length = is.length := by
  induction c with
  | nil => rfl
  | cons _ _ _ _ ih => rw [List.length_cons, List.length_cons, ih]
theorem caps_each {X : Cx} {M : Model} {A : Around} {E : Value → Shared → Prop} {env : Env} {ps : List Pattern} {is : List Nat} (c : Caps X ps is) : ∀ {us : List Value} {s : Shared} {Q : Option (List (Str × Value)) → Shared → Prop}, us.length = ps.length → Q (some (capB ps us)) s → wpAny M A (matchEach ps env us) Q E s := by
  induction c with
  | nil => exact fun _ h => wpAny_matchEach_nil h
  | cons hi hx hf c ih =>
    intro us s Q hl h
    cases us with
    | nil => cases hl
    | cons u us =>
      refine wpAny_matchEach_cons (wpAny_matchPattern_Capture ?_)
      exact ih (Nat.succ.inj hl) h
theorem caps_set {X : Cx} (hN : X.N.Nodup) {pins : List (Addr × Obj)} {H : Hp} {ps : List Pattern} {is : List Nat} (c : Caps X ps is) : ∀ {ys : List V} {us : List Value} {σ : L2.St} {s : Shared} {Q : Unit → Shared → Prop}, Vals ys us → us.length = ps.length → Inv X pins σ H s → (∀ s', Inv X pins (setAll is ys σ) H s' → Q () s') →
    wpAny (model X.prog X.w) X.A (assignInOrder ((capB ps us).map fun (n, _) => bindName X.env n) ((capB ps us).map (·.2))) Q X.xe s := by
  induction c with
  | nil => exact fun r hl I h => wpAny_assignInOrder_none (by
      cases r with
      | nil => exact h _ I
      | cons _ _ => cases hl)
  | cons hi hx hf c ih =>
    intro ys us σ s Q r hl I h
    cases r with
    | nil => cases hl
    | cons r rr =>
      refine wpAny_assignInOrder_more (wpAny_bindName (store_ok I hN hi hx r (fun s1 I1 => ?_) hf))
      exact ih rr (Nat.succ.inj hl) I1 h
def mSeq (K : PySem.W.Frag) (x : Str) (is : List Nat) (b : TS) (r : V → TS) : V → TS := fun v D σ H => ∃ (a : Addr) (z : Str) (ys : List V), v = .ref a ∧ SqT K H a (.str z :: ys) ∧ (ys.length = is.length ∧ z = x → b D (setAll is ys σ) H) ∧ (¬ (ys.length = is.length ∧ z = x) → r v D σ H)
theorem pm_seq {X : Cx} (hc : X.calm = true) (hN : X.N.Nodup) {x : Str} {j : Nat} {p1 p2 p3 : Pos} {ps : List Pattern} {is : List Nat} {body : List Stmt} {rest : List MatchCase} {b : TS} {r : V → TS} (hC : Caps X ps is) (hb : PSs X body b) (hr : PMs X rest r)
    (hs : (Pattern.MatchValue (.Constant (.str x) j p1) p2 :: ps).findIdx? (·.isStar) = none := by rfl) (hw : ((Pattern.MatchValue (.Constant (.str x) j p1) p2 :: ps).all fun p => p.isWildcard || (p.isStar && p.names.isEmpty)) = false := by rfl) :
    PMs X (⟨.MatchSequence (.MatchValue (.Constant (.str x) j p1) p2 :: ps) p3, none, body⟩ :: rest) (mSeq X.K x is b r) := by
  refine ⟨fun pins s σ H D v u first I rv h => ?_⟩
  obtain ⟨a, z, ys, rfl, hS, h1, h0⟩ := h
  cases (show u = Value.ref a from rv)
  obtain ⟨its, ri, ht, hz⟩ := I.tuple hS
  have hfit : ((its.toArray.size : Nat) : Int) < 2 ^ 63 := by
    have e := ri.length
    rw [List.size_toArray, ← e]
    have : sizeLine < 2 ^ 63 := by decide
    omega
  cases ri with
  | @cons _ v0 _ us r0 rr =>
    have hlen := rr.length
    refine wpAny_matchCases_cons ?_
    by_cases hn : ys.length = is.length
    · have hps : (v0 :: us).toArray.size = (Pattern.MatchValue (.Constant (.str x) j p1) p2 :: ps).length := by
        rw [List.size_toArray, List.length_cons, List.length_cons, hC.len]
        omega
      refine matchSeq_tuple_hit ht hfit hps ?_ hs hw
      rw [← hps]
      refine unpackItems_tuple (I.ok.hd hc) ht fun h' hx => ?_
      have I1 : Inv X pins σ H { s with heap := h', toks := s.toks + 1 + 1 } := I.kept (t' := s.toks + 1 + 1) fun b o e => hx b o (Nat.ne_of_lt (Heap.lt_size e)) e
      refine wpAny_matchEach_cons (wpAny_matchPattern_Value ?_)
      refine thn ((pe_str (x := x) (j := j) (pos := p1)).run pins _ σ H (fun y H1 => y = .str x ∧ H1 = H) I1 ⟨rfl, rfl⟩) fun u1 s1 ⟨y, H1, I2, ry, ey, eH⟩ => ?_
      subst ey eH
      refine thn (op_eq pins s1 σ _ (.str z) (.str x) v0 u1 (fun q H2 => q = .bl (decide (V.str z = V.str x)) ∧ H2 = H1) I2 r0 ry ⟨rfl, rfl, rfl⟩) fun c s2 ⟨q, H2, I3, rq, eq, eH⟩ => ?_
      subst eq eH
      cases rq
      refine wpAny_truthy_bool ?_
      by_cases hzx : z = x
      · rw [if_pos (decide_eq_true (congrArg V.str hzx))]
        refine caps_each hC (by rw [hC.len]; omega) ?_
        refine caps_set hN hC rr (by rw [hC.len]; omega) I3 fun s3 I4 => ?_
        exact hb.run pins s3 _ _ D I4 (h1 ⟨hn, hzx⟩)
      · rw [if_neg (fun e => hzx (V.str.inj (of_decide_eq_true e)))]
        exact hr.run pins s2 σ _ D (.ref a) _ _ I3 rfl (h0 fun e => hzx e.2)
    · have hps : (v0 :: us).toArray.size ≠ (Pattern.MatchValue (.Constant (.str x) j p1) p2 :: ps).length := by
        rw [List.size_toArray, List.length_cons, List.length_cons, hC.len]
        omega
      exact matchSeq_tuple_miss ht hfit hps (hr.run pins _ σ _ D (.ref a) _ _ (I.tok _) rfl (h0 fun e => hn e.1)) hs hw
/-- match e: .. -/
def tMatch (te : TE) (t : V → TS) : TS := fun D σ H => te σ H fun v H1 => t v D σ H1
theorem ps_match {X : Cx} {e : Expr} {cs : List MatchCase} {pos : Pos} {te : TE} {t : V → TS} (he : PE X e te) (hm : PMs X cs t) : PS X (.Match e cs pos) (tMatch te t) := by
  refine ⟨fun pins s σ H D I h => ?_⟩
  exact wpAny_Match (thn (he.run pins s σ H _ I h) fun u s1 ⟨v, H1, I1, r, q⟩ => hm.run pins s1 σ H1 D v u true I1 r q)
end Nl

set_option Elab.async false
set_option linter.all false
set_option maxRecDepth 100000
set_option maxHeartbeats 4000000
namespace Nl
open PySem PySem.Spec PyProof.Rows L2 L2H
/-! ### a method of a class of the top, as it stands -/
def MethAt (K : PySem.W.Frag) (C : Addr) (m qual : Str) (st : Stmt) : Prop :=
  ∃ (f : Addr) (oc : Value) (od an : Option Addr) (osl : Array (Option Value)) (kV doc pm cdv ct : Value),
    PySem.W.findIn K (.ref C) m = some (some (.ref f)) ∧ PySem.W.isFn K (.ref f) = true ∧
    K.lookup f = some ⟨oc, od, .func (PySem.W.fnOf m qual (defArgs st) (defBody st) (defScope st) .none kV doc pm an cdv ct), osl⟩ ∧
    PySem.W.codeIn K cdv qual = true ∧ PySem.W.keepIn K (.ref f) = true
theorem meth_mk {K : PySem.W.Frag} {C : Addr} {m qual : Str} {st : Stmt} {f : Addr} {oc : Value} {od an : Option Addr} {osl : Array (Option Value)} {kV doc pm cdv ct : Value} (a : PySem.W.findIn K (.ref C) m = some (some (.ref f))) (i : PySem.W.isFn K (.ref f) = true)
    (l : K.lookup f = some ⟨oc, od, .func (PySem.W.fnOf m qual (defArgs st) (defBody st) (defScope st) .none kV doc pm an cdv ct), osl⟩) (c : PySem.W.codeIn K cdv qual = true) (k : PySem.W.keepIn K (.ref f) = true) : MethAt K C m qual st :=
  ⟨f, oc, od, an, osl, kV, doc, pm, cdv, ct, a, i, l, c, k⟩
theorem cls_mk {K : PySem.W.Frag} {C : Addr} (pg : PySem.W.plainGet K C Str.empty = true) (hd : PySem.W.hasDictIn K C = true) (po : PySem.W.plainOver K C = true) (sa : PySem.W.findIn K (.ref C) "__setattr__" = some (some (.builtin "object.__setattr__"))) : Cls K C := ⟨pg, hd, po, sa⟩
section
variable {P : Program} {w : World} {K : PySem.W.Frag} {mg : Str → Option Value} {base : Heap}
abbrev BindM (m qual : Str) (st : Stmt) (ps : List Str) : Prop := ∀ (kV doc pm : Value) (an : Option Addr) (cdv ct : Value) (us : List Value), us.length = ps.length →
  bindArgs (PySem.W.fnOf m qual (defArgs st) (defBody st) (defScope st) .none kV doc pm an cdv ct) ⟨us, []⟩ = pure (ps.zip us)
theorem met_of {C : Addr} {m qual : Str} {st : Stmt} {N ps : List Str} {k : Nat} {sp : Sp} (c : Cls K C) (D : MethAt K C m qual st) (S : FnScope N ps (defScope st)) (b : BindM m qual st ps) (len : ∀ vs H Q E, sp vs H Q E → vs.length = ps.length)
    (hbody : ∀ (f : Addr) (cdv : Value) (A : Around) (outer : List Env) (s : Shared) (H : Hp) (vs : List V) (Q : VK) (E : XK), Room k (A.deeper (envOfC qual (defScope st) s.heap.objs.size f cdv)) → sp vs H Q E →
      ∃ t, PSs (cxOf CX0 P w K mg base N qual (defScope st) f cdv A outer s H E).nox (defBody st) t ∧ t { nx := fun _ H' => Q .non H', rt := Q } (start N vs) H) : C8.Met P w K mg base (k + 1) C m sp [] := by
  obtain ⟨f, oc, od, an, osl, kV, doc, pm, cdv, ct, a, i, l, cc, kp⟩ := D
  have F := fun_mk (st := st) l cc kp
  exact ⟨f, _, ps, [], c, ⟨a, i, kp⟩, F.ok S len (fun cdv A outer s H vs Q E hr h => hbody f cdv A outer s H vs Q E hr h), F.binds b, .nil⟩
theorem mak_of {C : Addr} {x qual : Str} {st : Stmt} {N ps : List Str} {k : Nat} {sp : Sp} (mk : PySem.W.makesIn K C = true) (kc : PySem.W.keepIn K (.ref C) = true) (hm : mg x = some (.ref C)) (D : MethAt K C "__init__" qual st) (S : FnScope N ps (defScope st)) (b : BindM "__init__" qual st ps) (len : ∀ vs H Q E, sp vs H Q E → vs.length = ps.length)
    (hbody : ∀ (f : Addr) (cdv : Value) (A : Around) (outer : List Env) (s : Shared) (H : Hp) (vs : List V) (Q : VK) (E : XK), Room k (A.deeper (envOfC qual (defScope st) s.heap.objs.size f cdv)) → sp vs H Q E →
      ∃ t, PSs (cxOf CX0 P w K mg base N qual (defScope st) f cdv A outer s H E).nox (defBody st) t ∧ t { nx := fun _ H' => Q .non H', rt := Q } (start N vs) H) : C8.Mak P w K mg base (k + 1) x C sp [] := by
  obtain ⟨f, oc, od, an, osl, kV, doc, pm, cdv, ct, a, i, l, cc, kp⟩ := D
  have F := fun_mk (st := st) l cc kp
  exact ⟨f, _, ps, [], ⟨mk, a, i, kc⟩, F.ok S len (fun cdv A outer s H vs Q E hr h => hbody f cdv A outer s H vs Q E hr h), hm, F.binds b, .nil⟩
end
/-- all but two objects stay -/
def Fr (H H' : Hp) (a b : Addr) : Prop := ∀ q o, H q = some o → q ≠ a → q ≠ b → H' q = some o
end Nl

set_option Elab.async false
set_option linter.all false
set_option maxRecDepth 100000
set_option maxHeartbeats 4000000
namespace Nl
open PySem PySem.Spec PyProof.Rows L2 L2H
structure ExcT (K : PySem.W.Frag) (mg : Str → Option Value) (x : Str) (C : Addr) : Prop where
  g : mg x = some (.ref C)
  x : PySem.W.excIn K C [.type "ValueError", .type "Exception", .type "BaseException", .type "object"] "ValueError.__new__" = true
  k : PySem.W.keepIn K (.ref C) = true
  b : PySem.W.subIn K (.ref C) (.type "BaseException") = some true
  t : PySem.W.typeIn K (.ref C) = some (.type "type")
theorem glob_mk {K : PySem.W.Frag} {x : Str} {v : V} {u : Value} (h : PySem.W.nsIn K mainGlobals x = some (some u)) (r : RelV v u) : ∃ u, PySem.W.nsIn K mainGlobals x = some (some u) ∧ RelV v u := ⟨u, h, r⟩
section
variable {P : Program} {w : World} {K : PySem.W.Frag} {mg : Str → Option Value} {base : Heap}
theorem Cal.imp {CX : CXT} {k : Nat} {x : Str} {sp sp2 : Sp} (c : Cal P w K mg base CX k x sp) (h : ∀ vs H Q E, sp2 vs H Q E → sp vs H Q E) : Cal P w K mg base CX k x sp2 := by
  obtain ⟨f, fd, ps, F, r⟩ := c.ex
  exact ⟨f, fd, ps, F.imp h, r⟩
end
/-- the type of a thing that is no object of the program's own -/
def spWhole (K : PySem.W.Frag) : Sp := fun vs H Q _ => ∃ (v : V) (n : String), vs = [v] ∧ TyX K H v (.type n) ∧ kitB n "int" = some (decide (n = "int" ∨ n = "bool")) ∧ kitB n "bool" = some (decide (n = "bool")) ∧ Q (.bl (decide (n = "int"))) H
/-- a whole number from lo to hi, any thing at all -/
def wholeV (v : V) (lo hi : Int) : Bool := match v with
  | .int i => decide (lo ≤ i) && decide (i ≤ hi)
  | _ => false
/-- what is asked of a thing of any type that is no object of the program's own -/
def AnyT (K : PySem.W.Frag) (H : Hp) (v : V) : Prop := ∃ n : String, TyX K H v (.type n) ∧ kitB n "int" = some (decide (n = "int" ∨ n = "bool")) ∧ kitB n "bool" = some (decide (n = "bool")) ∧ (n = "int" → ∃ i, v = .int i) ∧ ∀ i, v = .int i → n = "int"
def spIsWholeV (K : PySem.W.Frag) : Sp := fun vs H Q _ => ∃ (v : V) (lo hi : Int), vs = [v, .int lo, .int hi] ∧ AnyT K H v ∧ Q (.bl (wholeV v lo hi)) H
def spIsWhole (K : PySem.W.Frag) : Sp := fun vs H Q _ => ∃ (v : V) (d : PyData) (lo hi : Int), vs = [v, .int lo, .int hi] ∧ Dp K H v d ∧ Q (.bl (wholeIn d lo hi)) H
theorem any_dp {K : PySem.W.Frag} {H : Hp} {v : V} {d : PyData} (h : Dp K H v d) : AnyT K H v := by
  refine ⟨tyN d, dp_ty h, kit_int d, kit_bool d, fun e => ?_, fun i e => ?_⟩
  · cases h with
    | int i => exact ⟨i, rfl⟩
    | _ => simp [tyN] at e
  · subst e
    cases h
    rfl
theorem any_int {K : PySem.W.Frag} {H : Hp} (i : Int) : AnyT K H (.int i) := any_dp (.int i)
theorem whole_dp {K : PySem.W.Frag} {H : Hp} {v : V} {d : PyData} (h : Dp K H v d) (lo hi : Int) : wholeV v lo hi = wholeIn d lo hi := by
  cases h <;> rfl
/-- readings by their names, for a comprehension -/
def rLen (K : PySem.W.Frag) : List V → Hp → VK → Prop := fun xs H Q => ∃ p ys, xs = [V.ref p] ∧ (SqL K H p ys ∨ SqT K H p ys) ∧ Q (V.int ys.length) H
def rListOf (K : PySem.W.Frag) : List V → Hp → VK → Prop := fun xs H Q => ∃ p ys, xs = [.ref p] ∧ (SqL K H p ys ∨ SqT K H p ys) ∧ ∀ l, H l = none → Q (.ref l) (upd H l (.lst ys))
/-! ### data that may be laid -/
theorem canAll {ds : List PyData} (h : ∀ d ∈ ds, PyData.canLay0 d = true) : PyData.canLayAll0 ds = true := by
  induction ds with
  | nil => rfl
  | cons d ds ih =>
    show (PyData.canLay0 d && PyData.canLayAll0 ds) = true
    rw [h d List.mem_cons_self, ih fun e he => h e (List.mem_cons_of_mem _ he)]
    rfl
theorem depAll {n : Nat} {ds : List PyData} (h : ∀ d ∈ ds, PyData.depth d ≤ n) : PyData.depthAll ds ≤ n := by
  induction ds with
  | nil => exact Nat.zero_le _
  | cons d ds ih =>
    rw [PyData.depthAll]
    exact Nat.max_le.mpr ⟨h d List.mem_cons_self, ih fun e he => h e (List.mem_cons_of_mem _ he)⟩
/-- texts that may be laid, not deeper than n -/
def okD (n : Nat) (d : PyData) : Prop := PyData.canLay0 d = true ∧ PyData.depth d ≤ n
theorem okD.mono {n m : Nat} {d : PyData} (h : okD n d) (e : n ≤ m) : okD m d := ⟨h.1, Nat.le_trans h.2 e⟩
theorem okD.tup {n : Nat} {ds : List PyData} (h : ∀ d ∈ ds, okD n d) : okD (n + 1) (.tuple ds) :=
  ⟨canAll fun d hd => (h d hd).1, by rw [PyData.depth]; exact Nat.succ_le_succ (depAll fun d hd => (h d hd).2)⟩
theorem okD.lst {n : Nat} {ds : List PyData} (h : ∀ d ∈ ds, okD n d) : okD (n + 1) (.list ds) :=
  ⟨canAll fun d hd => (h d hd).1, by rw [PyData.depth]; exact Nat.succ_le_succ (depAll fun d hd => (h d hd).2)⟩
theorem okD.shaped {n : Nat} {d : PyData} (h : okD n d) (e : n ≤ 64) : SeqAt.shaped d = true := by
  unfold SeqAt.shaped
  rw [h.1, decide_eq_true (Nat.le_trans h.2 e)]
  rfl
theorem okD.int (n : Nat) (i : Int) : okD n (.int i) := ⟨rfl, Nat.zero_le _⟩
theorem okD.bl (n : Nat) (i : Bool) : okD n (.bool i) := ⟨rfl, Nat.zero_le _⟩
theorem okD.non (n : Nat) : okD n .none := ⟨rfl, Nat.zero_le _⟩
theorem okD.str (n : Nat) {z : Str} (h : PyData.strOk z = true) : okD n (.str z) := ⟨h, Nat.zero_le _⟩
theorem okD.ints {n : Nat} (ns : List Int) : ∀ d ∈ (ns.map V.int).map dOf, okD n d := fun d hd => by
  rw [List.map_map] at hd
  obtain ⟨i, _, rfl⟩ := List.mem_map.mp hd
  exact .int _ _
theorem dpA_int {K : PySem.W.Frag} {H : Hp} (ns : List Int) : DpAll K H (ns.map V.int) ((ns.map V.int).map dOf) := dpAll_flat2 (by rw [List.all_map]; exact List.all_eq_true.mpr fun _ _ => rfl)
theorem bs_ok (ns : List Int) : SeqAt.shaped (.list ((ns.map V.int).map dOf)) = true := (okD.lst (okD.ints (n := 0) ns)).shaped (by decide)
/-- of each place one thing: a list of them -/
theorem choose_list {α : Type} (P : Nat → α → Prop) : ∀ n : Nat, (∀ j, j < n → ∃ x, P j x) → ∃ l : List α, l.length = n ∧ ∀ j x, l[j]? = some x → P j x
  | 0, _ => ⟨[], rfl, fun j x e => by simp at e⟩
  | n + 1, h => by
    obtain ⟨l, hl, hp⟩ := choose_list P n fun j hj => h j (Nat.lt_succ_of_lt hj)
    obtain ⟨y, hy⟩ := h n (Nat.lt_succ_self n)
    refine ⟨l ++ [y], by rw [List.length_append, hl]; rfl, fun j x e => ?_⟩
    by_cases hj : j < l.length
    · rw [List.getElem?_append_left hj] at e
      exact hp j x e
    · rw [List.getElem?_append_right (by omega)] at e
      have h0 : j - l.length = 0 := by
        have := (List.getElem?_eq_some_iff.mp e).1
        simp only [List.length_singleton] at this
        omega
      rw [h0] at e
      cases e
      rw [show j = n by omega]
      exact hy
/-- [a new tuple for x in a list]; of each tuple R is known -/
theorem lc_le {K : PySem.W.Frag} {g : TG} {tt : TT} {te : TE} {vs : List Nat} {σ : L2.St} {H1 : Hp} {D a : Addr} {Qd : Hp → Prop} {xs : List V} (R : Nat → List V → Prop) (hD : H1 D = none) (hq : SqL K H1 a xs) (hz : xs.length < sizeLine)
    (hs : ∀ i x H, xs[i]? = some x → Same H1 H → ∀ (k1 : VK) (k0 : Hp → Prop), (∀ p fx H', R i fx → H' p = some (.tup fx) → Same H H' → k1 (.ref p) H') →
      g x (wipe σ vs) H fun σ2 H2 => wipe σ2 vs = wipe σ vs ∧ tt σ2 H2 fun b H3 => if b = true then te σ2 H3 k1 else k0 H3)
    (hd : ∀ H acc, Same H1 H → H D = some (.lst acc) → acc.length = xs.length → (∀ j, j < xs.length → ∃ p fx, acc[j]? = some (.ref p) ∧ H p = some (.tup fx) ∧ R j fx) → Qd H) : LcW (Itl K a) g tt te vs σ H1 D Qd := by
  refine ⟨fun i m H => m = xs.length - i ∧ i ≤ xs.length ∧ Same H1 H ∧ ∃ acc, H D = some (.lst acc) ∧ acc.length = i ∧ ∀ j, j < i → ∃ p fx, acc[j]? = some (.ref p) ∧ H p = some (.tup fx) ∧ R j fx, ⟨xs.length, by simp, Nat.zero_le _, Same.new hD, [], upd_same, rfl, fun j h => absurd h (Nat.not_lt_zero _)⟩, ?_⟩
  rintro i m H ⟨rfl, hi, s1, acc, h1, hl, ha⟩
  by_cases hlt : i < xs.length
  · refine .inr ⟨⟨xs, xs[i], s1.seq hq, by simp [hlt]⟩, fun H' => Same H1 H' ∧ ∃ acc, H' D = some (.lst acc) ∧ acc.length = i + 1 ∧ ∀ j, j < i + 1 → ∃ p fx, acc[j]? = some (.ref p) ∧ H' p = some (.tup fx) ∧ R j fx, fun H' p' => ⟨xs.length - (i + 1), by omega, rfl, hlt, p'⟩, fun x H' y => ?_⟩
    obtain ⟨e, y⟩ := y
    subst e
    refine hs i x _ (y xs (s1.seq hq)) s1 _ _ (fun p fx H'' hR hp s3 => ?_)
    refine ⟨acc, s3 _ _ h1, by omega, (s1.trans s3).mut hD, acc ++ [.ref p], upd_same, by rw [List.length_append, hl]; rfl, fun j hj => ?_⟩
    have hne : ∀ q u, H'' q = some (.tup u) → q ≠ D := fun q u e z => by
      rw [z, s3 _ _ h1] at e
      cases e
    by_cases h : j < i
    · obtain ⟨q, fy, e1, e2, e4⟩ := ha j h
      have e3 := s3 _ _ e2
      exact ⟨q, fy, by rw [List.getElem?_append_left (by omega)]; exact e1, by rw [upd_ne (hne q _ e3)]; exact e3, e4⟩
    · have : j = i := by omega
      subst this
      exact ⟨p, fx, by rw [List.getElem?_append_right (by omega), hl, Nat.sub_self]; rfl, by rw [upd_ne (hne p _ hp)]; exact hp, hR⟩
  · have e : i = xs.length := by omega
    subst e
    exact .inl ⟨⟨xs, s1.seq hq, Nat.le_refl _⟩, hd H acc s1 h1 hl ha⟩
/-- a slice of a list of whole numbers -/
theorem cutV_int (ns : List Int) (lo hi : Option Int) : ∃ cs : List Int, cutV (ns.map V.int) lo hi = cs.map V.int ∧ cs.length ≤ ns.length := by
  unfold cutV
  rw [← List.map_drop, ← List.map_take]
  refine ⟨_, rfl, ?_⟩
  rw [List.length_take, List.length_drop]
  omega
end Nl

set_option linter.all false
namespace Nl
/-! ### lines by their last touch, the longest ago first -/
def ordS (o : List Int) (x : Int) : List Int := o.filter (fun y => y != x) ++ [x]
def ordL (ls : List Int) : List Int := ls.foldl ordS []
theorem ordL_snoc (ls : List Int) (x : Int) : ordL (ls ++ [x]) = ordS (ordL ls) x := by
  unfold ordL
  rw [List.foldl_append]
  rfl
theorem flt_id {o : List Int} {x : Int} (h : x ∉ o) : o.filter (fun y => y != x) = o := List.filter_eq_self.mpr fun a ha => by
  have : a ≠ x := fun e => h (e ▸ ha)
  simpa using this
theorem mem_ordS {o : List Int} {x y : Int} : y ∈ ordS o x ↔ y ∈ o ∨ y = x := by
  unfold ordS
  rw [List.mem_append, List.mem_filter, List.mem_singleton]
  by_cases h : y = x <;> simp [h]
theorem mem_ordF {y : Int} : ∀ {ls o : List Int}, y ∈ ls.foldl ordS o ↔ y ∈ o ∨ y ∈ ls
  | [], o => by simp
  | x :: ls, o => by
    rw [List.foldl_cons, mem_ordF, mem_ordS, List.mem_cons]
    exact or_assoc
theorem mem_ordL {y : Int} {ls : List Int} : y ∈ ordL ls ↔ y ∈ ls := by
  unfold ordL
  rw [mem_ordF]
  simp
theorem nd_ordS {o : List Int} {x : Int} (h : o.Nodup) : (ordS o x).Nodup := by
  unfold ordS
  rw [List.nodup_append]
  refine ⟨h.filter _, by simp, fun a ha b hb => ?_⟩
  rw [List.mem_singleton] at hb
  rw [hb]
  have := (List.mem_filter.mp ha).2
  simpa using this
theorem nd_ordF : ∀ {ls o : List Int}, o.Nodup → (ls.foldl ordS o).Nodup
  | [], o, h => h
  | x :: ls, o, h => nd_ordF (ls := ls) (nd_ordS h)
theorem nd_ordL (ls : List Int) : (ordL ls).Nodup := nd_ordF List.nodup_nil
theorem ordF_front {y : Int} : ∀ {seg o : List Int}, y ∉ o → seg.foldl ordS (y :: o) = if y ∈ seg then seg.foldl ordS o else y :: seg.foldl ordS o
  | [], o, h => by simp
  | z :: seg, o, h => by
    rw [List.foldl_cons, List.foldl_cons]
    by_cases e : y = z
    · subst e
      have : ordS (y :: o) y = ordS o y := by
        unfold ordS
        rw [List.filter_cons]
        simp
      rw [this, if_pos List.mem_cons_self]
    · have h1 : ordS (y :: o) z = y :: ordS o z := by
        unfold ordS
        rw [List.filter_cons]
        simp [e]
      have h2 : y ∉ ordS o z := fun hm => (mem_ordS.mp hm).elim h e
      rw [h1, ordF_front h2]
      simp [List.mem_cons, e]
theorem ordL_cons {y : Int} {seg : List Int} : ordL (y :: seg) = if y ∈ seg then ordL seg else y :: ordL seg := by
  have := ordF_front (y := y) (seg := seg) (o := []) (by simp)
  unfold ordL
  rw [List.foldl_cons]
  show seg.foldl ordS (ordS [] y) = _
  rw [show ordS [] y = [y] by rfl]
  exact this
theorem ordF_mid {x : Int} : ∀ {seg A B : List Int}, x ∉ seg → x ∉ A → x ∉ B → ∃ A', x ∉ A' ∧ seg.foldl ordS (A ++ x :: B) = A' ++ x :: seg.foldl ordS B
  | [], A, B, h, ha, hb => ⟨A, ha, rfl⟩
  | z :: seg, A, B, h, ha, hb => by
    have hz : x ≠ z := fun e => h (e ▸ List.mem_cons_self)
    have e1 : ordS (A ++ x :: B) z = A.filter (fun y => y != z) ++ x :: ordS B z := by
      unfold ordS
      rw [List.filter_append, List.filter_cons]
      simp [hz]
    rw [List.foldl_cons, e1, List.foldl_cons]
    exact ordF_mid (fun hm => h (List.mem_cons_of_mem _ hm)) (fun hm => ha (List.mem_filter.mp hm).1) (fun hm => (mem_ordS.mp hm).elim hb hz)
/-- the depth of a touch of x behind lines of which o tells the order -/
def depO (o : List Int) (x : Int) : Option Nat := if x ∈ o then some (o.length - 1 - o.idxOf x) else none
theorem idx_mid {x : Int} : ∀ {A B : List Int}, x ∉ A → (A ++ x :: B).idxOf x = A.length
  | [], B, h => by simp
  | a :: A, B, h => by
    have : a ≠ x := fun e => h (e ▸ List.mem_cons_self)
    rw [List.cons_append, List.idxOf_cons, show (a == x) = false by simpa using this, List.length_cons, ← idx_mid (A := A) (B := B) fun hm => h (List.mem_cons_of_mem _ hm)]
    rfl
theorem dep_mid {x : Int} {A B : List Int} (h : x ∉ A) : depO (A ++ x :: B) x = some B.length := by
  unfold depO
  rw [if_pos (by simp), idx_mid h]
  congr 1
  simp only [List.length_append, List.length_cons]
  omega
/-- by the lines between a touch and the last one of its own line -/
theorem dep_seg {x : Int} {pre seg : List Int} (h : x ∉ seg) : depO (ordL (pre ++ x :: seg)) x = some (ordL seg).length := by
  unfold ordL
  rw [List.foldl_append, List.foldl_cons]
  obtain ⟨A', h1, h2⟩ := ordF_mid (x := x) (seg := seg) (A := (pre.foldl ordS []).filter (fun y => y != x)) (B := []) h (fun hm => by simpa using (List.mem_filter.mp hm).2) (by simp)
  rw [show ordS (pre.foldl ordS []) x = (pre.foldl ordS []).filter (fun y => y != x) ++ x :: [] from rfl, h2, dep_mid h1]
theorem dep_none {x : Int} {ls : List Int} (h : x ∉ ls) : depO (ordL ls) x = none := by
  unfold depO
  rw [if_neg fun hm => h (mem_ordL.mp hm)]
/-! ### room for R lines by the rule least -/
def lastN (R : Nat) (o : List Int) : List Int := o.drop (o.length - R)
def nearS (R : Nat) (near : List Int) (x : Int) : List Int := if x ∈ near then near.filter (fun y => y != x) ++ [x] else (if near.length = R then near.drop 1 else near) ++ [x]
theorem lastN_of {R : Nat} {A B : List Int} (h : B.length = R ∨ (A = [] ∧ B.length ≤ R)) : lastN R (A ++ B) = B := by
  unfold lastN
  rcases h with h | ⟨h, h2⟩
  · rw [List.length_append, show A.length + B.length - R = A.length by omega]
    simp
  · subst h
    rw [List.nil_append, show B.length - R = 0 by omega]
    rfl
theorem lastN_split (R : Nat) (o : List Int) : ∃ A, o = A ++ lastN R o ∧ ((lastN R o).length = R ∨ (A = [] ∧ (lastN R o).length ≤ R)) := by
  refine ⟨o.take (o.length - R), (List.take_append_drop _ _).symm, ?_⟩
  unfold lastN
  rw [List.length_drop]
  by_cases h : R ≤ o.length
  · exact .inl (by omega)
  · refine .inr ⟨?_, by omega⟩
    rw [show o.length - R = 0 by omega]
    rfl
theorem near_last {R : Nat} (hR : 1 ≤ R) {o : List Int} (ho : o.Nodup) (x : Int) : nearS R (lastN R o) x = lastN R (ordS o x) := by
  obtain ⟨A, e, hs⟩ := lastN_split R o
  generalize lastN R o = B at e hs
  subst e
  have hAB := List.nodup_append.mp ho
  by_cases hB : x ∈ B
  · have hA : x ∉ A := fun h => hAB.2.2 x h x hB rfl
    have e1 : ordS (A ++ B) x = A ++ (B.filter (fun y => y != x) ++ [x]) := by
      unfold ordS
      rw [List.filter_append, flt_id hA, List.append_assoc]
    have hl : (B.filter (fun y => y != x) ++ [x]).length = B.length := by
      have e2 : B.filter (fun y => y != x) = B.erase x := by rw [hAB.2.1.erase_eq_filter]
      rw [e2, List.length_append, List.length_erase_of_mem hB]
      have := List.length_pos_of_mem hB
      simp only [List.length_singleton]
      omega
    rw [e1, lastN_of (by rw [hl]; exact hs)]
    unfold nearS
    rw [if_pos hB]
  · unfold nearS
    rw [if_neg hB]
    have e1 : ordS (A ++ B) x = A.filter (fun y => y != x) ++ (B ++ [x]) := by
      unfold ordS
      rw [List.filter_append, flt_id hB, List.append_assoc]
    rw [e1]
    by_cases hf : B.length = R
    · rw [if_pos hf]
      cases B with
      | nil => simp only [List.length_nil] at hf; omega
      | cons b B =>
        rw [show A.filter (fun y => y != x) ++ (b :: B ++ [x]) = (A.filter (fun y => y != x) ++ [b]) ++ (B ++ [x]) by simp]
        rw [lastN_of (.inl (by rw [List.length_append]; exact hf))]
        rfl
    · rw [if_neg hf]
      rcases hs with hs | ⟨hA, hs⟩
      · exact absurd hs hf
      · subst hA
        rw [show List.filter (fun y => y != x) ([] : List Int) = [] from rfl]
        exact (lastN_of (.inr ⟨rfl, by rw [List.length_append, List.length_singleton]; omega⟩)).symm
theorem mem_last {R : Nat} {o : List Int} (ho : o.Nodup) (x : Int) : x ∈ lastN R o ↔ ∃ d, depO o x = some d ∧ d < R := by
  obtain ⟨A, e, hs⟩ := lastN_split R o
  generalize lastN R o = B at e hs
  subst e
  have hAB := List.nodup_append.mp ho
  constructor
  · intro hB
    have hA : x ∉ A := fun h => hAB.2.2 x h x hB rfl
    obtain ⟨B1, B2, rfl⟩ := List.append_of_mem hB
    have h1 : x ∉ B1 := fun h => by
      have := (List.nodup_append.mp hAB.2.1).2.2 x h x List.mem_cons_self
      exact this rfl
    rw [← List.append_assoc]
    refine ⟨B2.length, dep_mid fun h => (List.mem_append.mp h).elim hA h1, ?_⟩
    simp only [List.length_append, List.length_cons] at hs
    rcases hs with hs | ⟨_, hs⟩ <;> omega
  · rintro ⟨d, hd, hlt⟩
    by_cases hB : x ∈ B
    · exact hB
    · by_cases hA : x ∈ A
      · obtain ⟨A1, A2, rfl⟩ := List.append_of_mem hA
        have h1 : x ∉ A1 := fun h => by
          have := (List.nodup_append.mp hAB.1).2.2 x h x List.mem_cons_self
          exact this rfl
        rw [List.append_assoc, List.cons_append, dep_mid h1] at hd
        cases hd
        rw [List.length_append] at hlt
        rcases hs with hs | ⟨hs, _⟩
        · omega
        · simp at hs
      · unfold depO at hd
        rw [if_neg fun h => (List.mem_append.mp h).elim hA hB] at hd
        cases hd
theorem last_sub {R : Nat} {o : List Int} {x : Int} (h : x ∈ lastN R o) : x ∈ lastN (R + 1) o := by
  unfold lastN at h ⊢
  obtain ⟨k, hk, e⟩ := List.mem_iff_getElem.mp h
  have hl : k < o.length - (o.length - R) := by rw [List.length_drop] at hk; exact hk
  refine List.mem_iff_getElem.mpr ⟨k + (o.length - R - (o.length - (R + 1))), by rw [List.length_drop]; omega, ?_⟩
  rw [List.getElem_drop] at e ⊢
  rw [← e]
  congr 1
  omega
end Nl

set_option Elab.async false
set_option linter.all false
set_option maxRecDepth 100000
set_option maxHeartbeats 4000000
namespace Nl
open PySem PySem.Spec PyProof.Rows L2 L2H
/-! ### rows of touches -/
/-- us are the touches ts -/
def TsAt (H : Hp) (us : List V) (ts : List (Str × Int)) : Prop := us.length = ts.length ∧ ∀ (j : Nat) (t : Str × Int), ts[j]? = some t → ∃ q, us[j]? = some (V.ref q) ∧ H q = some (.tup [.str t.1, .int t.2])
theorem TsAt.same {H H' : Hp} {us : List V} {ts : List (Str × Int)} (h : TsAt H us ts) (s : Same H H') : TsAt H' us ts := ⟨h.1, fun j t e => by
  obtain ⟨q, e1, e2⟩ := h.2 j t e
  exact ⟨q, e1, s _ _ e2⟩⟩
/-- while the list at a changes -/
theorem TsAt.mut {H H' : Hp} {us : List V} {ts : List (Str × Int)} {a : Addr} {ux : List V} (h : TsAt H us ts) (ha : H a = some (.lst ux)) (f : ∀ q o, H q = some o → q ≠ a → H' q = some o) : TsAt H' us ts := ⟨h.1, fun j t e => by
  obtain ⟨q, e1, e2⟩ := h.2 j t e
  exact ⟨q, e1, f _ _ e2 fun z => by rw [z, ha] at e2; cases e2⟩⟩
theorem TsAt.snoc {H : Hp} {us : List V} {ts : List (Str × Int)} {t : Str × Int} {q : Addr} (h : TsAt H us ts) (hq : H q = some (.tup [.str t.1, .int t.2])) : TsAt H (us ++ [.ref q]) (ts ++ [t]) := by
  refine ⟨by rw [List.length_append, List.length_append, h.1]; rfl, fun j t' e => ?_⟩
  have hl := h.1
  by_cases hj : j < ts.length
  · rw [List.getElem?_append_left hj] at e
    obtain ⟨q', e1, e2⟩ := h.2 j t' e
    exact ⟨q', by rw [List.getElem?_append_left (by omega)]; exact e1, e2⟩
  · rw [List.getElem?_append_right (by omega)] at e
    have hj0 : j - ts.length = 0 := by
      have := (List.getElem?_eq_some_iff.mp e).1
      simp only [List.length_singleton] at this
      omega
    rw [hj0] at e
    cases e
    exact ⟨q, by rw [List.getElem?_append_right (by omega), show j - us.length = 0 by omega]; rfl, hq⟩
def RW (t : Str × Int) : Prop := t.1 = "read" ∨ t.1 = "write"
def tsD (t : Str × Int) : PyData := .tuple [.str t.1, .int t.2]
theorem ts_ok {t : Str × Int} (h : RW t) : okD 1 (tsD t) := .tup fun d hd => by
  rcases List.mem_cons.mp hd with rfl | hd
  · exact .str _ (by rcases h with h | h <;> rw [h] <;> decide +kernel)
  · cases List.mem_singleton.mp hd
    exact .int _ _
theorem tsl_ok {ts : List (Str × Int)} (h : ∀ t ∈ ts, RW t) : okD 2 (.list (ts.map tsD)) := .lst fun d hd => by
  obtain ⟨t, ht, rfl⟩ := List.mem_map.mp hd
  exact ts_ok (h t ht)
theorem TsAt.dp {K : PySem.W.Frag} {H : Hp} {us : List V} {ts : List (Str × Int)} (h : TsAt H us ts) : DpAll K H us (ts.map tsD) := by
  refine dpA_by (by rw [List.length_map]; exact h.1) fun j v e => ?_
  have hj : j < ts.length := by
    obtain ⟨hj, _⟩ := List.getElem?_eq_some_iff.mp e
    have := h.1
    omega
  obtain ⟨q, e1, e2⟩ := h.2 j _ (List.getElem?_eq_getElem hj)
  rw [e] at e1
  cases e1
  exact ⟨tsD ts[j], by rw [List.getElem?_map, List.getElem?_eq_getElem hj]; rfl, .tup (SqT.of e2) (.cons (.str _) (.cons (.int _) .nil))⟩
theorem eqV_int {a b : Int} : eqV (.int a) (.int b) = true ↔ a = b := by
  show (a == b) = true ↔ a = b
  exact beq_iff_eq
theorem inV_int (y : Int) (os : List Int) : inV (.int y) (os.map V.int) = decide (y ∈ os) := by
  rw [Bool.eq_iff_iff, decide_eq_true_eq]
  unfold inV
  rw [List.any_map, List.any_eq_true]
  constructor
  · rintro ⟨z, hz, e⟩
    have := eqV_int.mp e
    first
    | (subst this; exact hz)
    | (rw [← this]; exact hz)
  · exact fun h => ⟨y, h, eqV_int.mpr rfl⟩
/-- the lines of touches -/
def linesOf (w : Int) (ts : List (Str × Int)) : List Int := ts.map fun t => t.2 / w
/-- over a list: what is made of item i is known by its place -/
theorem lc_fi {K : PySem.W.Frag} {g : TG} {tt : TT} {te : TE} {vs : List Nat} {σ : L2.St} {H1 : Hp} {D a : Addr} {Qd : Hp → Prop} {xs : List V} (fs : Nat → Option V) (hD : H1 D = none) (hq : SqL K H1 a xs) (hz : xs.length < sizeLine) (hs : ∀ (i : Nat) x H, xs[i]? = some x → Same H1 H → LcTurn g tt te vs σ x H (fs i))
    (hd : ∀ H, Same H1 H → H D = some (.lst ((List.range xs.length).filterMap fs)) → Qd H) : LcW (Itl K a) g tt te vs σ H1 D Qd :=
  lc_gen xs.length (fun i x _ => xs[i]? = some x) fs hD hz
    (fun i H hi s => ⟨xs, xs[i], s.seq hq, by simp [hi]⟩) (fun H s => ⟨xs, s.seq hq, Nat.le_refl _⟩) (fun i H x H' hi s y => by
      obtain ⟨e, y⟩ := y
      subst e
      exact ⟨Same.refl _, y xs (s.seq hq)⟩)
    (fun i x H hi s r k1 k0 h1 h0 => hs i x H r s k1 k0 h1 h0) hd
/-- what range_fm gives of whole numbers -/
theorem range_ints (ls : List Int) (n : Nat) (hn : n = ls.length) : (List.range n).filterMap (fun i => (ls[i]?).bind fun x => some (V.int x)) = ls.map V.int := by
  rw [hn, range_fm, fm_some]
/-- a whole number or None -/
def ovV : Option Nat → V
  | none => .non
  | some d => .int (d : Nat)
theorem flat_ov (o : Option Nat) : flatV (ovV o) = true := by cases o <;> rfl
def depsL (ls : List Int) : List (Option Nat) := (List.range ls.length).map fun k => depO (ordL (ls.take k)) (ls.getD k 0)
theorem depO_le {o : List Int} {x : Int} {d : Nat} (h : depO o x = some d) : d ≤ o.length := by
  unfold depO at h
  split at h
  · cases h
    omega
  · cases h
theorem ordL_len (ls : List Int) : (ordL ls).length ≤ ls.length := by
  have h : ∀ (ls o : List Int), (ls.foldl ordS o).length ≤ o.length + ls.length := by
    intro ls
    induction ls with
    | nil => intro o; simp
    | cons x ls ih =>
      intro o
      have h1 := ih (ordS o x)
      have h2 : (ordS o x).length ≤ o.length + 1 := by
        unfold ordS
        rw [List.length_append]
        have := List.length_filter_le (fun y => y != x) o
        simp only [List.length_singleton]
        omega
      rw [List.foldl_cons, List.length_cons]
      omega
  have := h ls []
  simpa [ordL] using this
end Nl

set_option Elab.async false
set_option linter.all false
set_option maxRecDepth 100000
set_option maxHeartbeats 4000000
namespace Nl
open PySem PySem.Spec PyProof.Rows L2 L2H
/-! ### dicts whose keys are whole numbers -/
section
variable {α : Type}
/-- the dict of the pairs ps, in their order -/
def dk (g : α → V) (ps : List (Int × α)) : List (Key × V) := ps.map fun p => (.inl p.1, g p.2)
def lkP (ps : List (Int × α)) (l : Int) : Option α := (ps.find? fun p => decide (p.1 = l)).map (·.2)
def putP (ps : List (Int × α)) (l : Int) (v : α) : List (Int × α) := if l ∈ ps.map (·.1) then ps.map (fun p => if p.1 = l then (p.1, v) else p) else ps ++ [(l, v)]
def dropP (ps : List (Int × α)) (l : Int) : List (Int × α) := ps.filter fun p => p.1 != l
theorem dk_len (g : α → V) (ps : List (Int × α)) : (dk g ps).length = ps.length := by
  unfold dk
  rw [List.length_map]
theorem dk_val (g : α → V) (l : Int) : ∀ ps : List (Int × α), valV (dk g ps) (.inl l) = (lkP ps l).map g
  | [] => rfl
  | p :: ps => by
    have h := dk_val g l ps
    by_cases e : p.1 = l
    · rw [show dk g (p :: ps) = (.inl p.1, g p.2) :: dk g ps from rfl, valV_pos (by rw [e])]
      unfold lkP
      rw [List.find?_cons_of_pos (by simpa using e)]
      rfl
    · rw [show dk g (p :: ps) = (.inl p.1, g p.2) :: dk g ps from rfl, valV_neg (fun z => e (Sum.inl.inj z)), h]
      unfold lkP
      rw [List.find?_cons_of_neg (by simpa using e)]
theorem dk_drop (g : α → V) (l : Int) : ∀ ps : List (Int × α), dropK (dk g ps) (.inl l) = dk g (dropP ps l)
  | [] => rfl
  | p :: ps => by
    have h := dk_drop g l ps
    unfold dropK dropP at h ⊢
    rw [show dk g (p :: ps) = (.inl p.1, g p.2) :: dk g ps from rfl, List.filter_cons, List.filter_cons, h]
    by_cases e : p.1 = l
    · rw [if_neg (by simp [e]), if_neg (by simp [e])]
    · rw [if_pos (by simpa using e), if_pos (by simpa using e)]
      rfl
theorem dk_any (g : α → V) (l : Int) (ps : List (Int × α)) : ((dk g ps).any fun kv => decide (kv.1 = Sum.inl l)) = decide (l ∈ ps.map (·.1)) := by
  rw [Bool.eq_iff_iff, decide_eq_true_eq, List.any_eq_true]
  unfold dk
  constructor
  · rintro ⟨kv, hm, e⟩
    obtain ⟨p, hp, rfl⟩ := List.mem_map.mp hm
    exact List.mem_map.mpr ⟨p, hp, Sum.inl.inj (of_decide_eq_true e)⟩
  · intro h
    obtain ⟨p, hp, rfl⟩ := List.mem_map.mp h
    exact ⟨_, List.mem_map.mpr ⟨p, hp, rfl⟩, decide_eq_true rfl⟩
theorem dk_put (g : α → V) (l : Int) (v : α) (ps : List (Int × α)) : putK (dk g ps) (.inl l) (g v) = dk g (putP ps l v) := by
  unfold putK putP
  rw [dk_any]
  by_cases h : l ∈ ps.map (·.1)
  · rw [if_pos (decide_eq_true h), if_pos h]
    unfold dk
    rw [List.map_map, List.map_map]
    refine List.map_congr_left fun p _ => ?_
    show (if Sum.inl p.1 = Sum.inl l then (Sum.inl p.1, g v) else (Sum.inl p.1, g p.2)) = _
    by_cases e : p.1 = l
    · rw [if_pos (by rw [e])]
      simp [e]
    · rw [if_neg (fun z => e (Sum.inl.inj z))]
      simp [e]
  · rw [if_neg (fun z => h (of_decide_eq_true z)), if_neg h]
    unfold dk
    rw [List.map_append]
    rfl
theorem lk_some {ps : List (Int × α)} {l : Int} : (lkP ps l).isSome = decide (l ∈ ps.map (·.1)) := by
  unfold lkP
  rw [Option.isSome_map, Bool.eq_iff_iff, decide_eq_true_eq, List.find?_isSome]
  constructor
  · rintro ⟨p, hp, e⟩
    exact List.mem_map.mpr ⟨p, hp, of_decide_eq_true e⟩
  · intro h
    obtain ⟨p, hp, rfl⟩ := List.mem_map.mp h
    exact ⟨p, hp, decide_eq_true rfl⟩
theorem lk_none {ps : List (Int × α)} {l : Int} (h : l ∉ ps.map (·.1)) : lkP ps l = none := by
  have := lk_some (ps := ps) (l := l)
  rw [decide_eq_false h] at this
  exact Option.isNone_iff_eq_none.mp (by simpa using this)
theorem lk_mem {ps : List (Int × α)} {l : Int} {v : α} (h : lkP ps l = some v) : (l, v) ∈ ps := by
  unfold lkP at h
  obtain ⟨p, hp, rfl⟩ := Option.map_eq_some_iff.mp h
  have h1 := List.mem_of_find?_eq_some hp
  have h2 := List.find?_some hp
  rw [← of_decide_eq_true h2]
  exact h1
theorem drop_keys (ps : List (Int × α)) (l : Int) : (dropP ps l).map (·.1) = (ps.map (·.1)).filter (fun y => y != l) := by
  unfold dropP
  rw [List.filter_map]
  rfl
theorem put_new {ps : List (Int × α)} {l : Int} {v : α} (h : l ∉ ps.map (·.1)) : putP ps l v = ps ++ [(l, v)] := if_neg h
theorem put_keys (ps : List (Int × α)) (l : Int) (v : α) : (putP ps l v).map (·.1) = if l ∈ ps.map (·.1) then ps.map (·.1) else ps.map (·.1) ++ [l] := by
  unfold putP
  split
  · rw [List.map_map]
    refine List.map_congr_left fun p _ => ?_
    show (if p.1 = l then (p.1, v) else p).1 = p.1
    split <;> rfl
  · rw [List.map_append]
    rfl
end
/-- the dict that tells of lines that they are there -/
def tkP (near : List Int) : List (Int × Unit) := near.map fun l => (l, ())
def gT : Unit → V := fun _ => .bl true
theorem tk_keys (near : List Int) : (tkP near).map (·.1) = near := by
  unfold tkP
  rw [List.map_map]
  exact List.map_id' near
theorem tk_len (near : List Int) : (tkP near).length = near.length := by
  unfold tkP
  rw [List.length_map]
theorem tk_drop (near : List Int) (l : Int) : dropP (tkP near) l = tkP (near.filter fun y => y != l) := by
  unfold dropP tkP
  rw [List.filter_map]
  rfl
theorem tk_put {near : List Int} {l : Int} : putP (tkP near) l () = tkP (if l ∈ near then near else near ++ [l]) := by
  unfold putP
  rw [tk_keys]
  split
  · unfold tkP
    rw [List.map_map]
    refine List.map_congr_left fun p _ => ?_
    show (if p = l then (p, ()) else (p, ())) = (p, ())
    split <;> rfl
  · unfold tkP
    rw [List.map_append]
    rfl
theorem at_mapmod {α : Type} (f : α → V) (d : α) {ns : List α} (c : Int) {n : Int} (h : 0 < n) (e : (ns.length : Int) = n) : atI (ns.map f) (c % n) = some (f (ns.getD (c % n).toNat d)) := by
  have h0 := mod_nn c h
  have h1 := mod_lt c h
  refine at_in h0 ?_
  have : (c % n).toNat < ns.length := by omega
  rw [List.getElem?_map, List.getD_eq_getElem?_getD, List.getElem?_eq_getElem this]
  rfl
theorem at_map {α : Type} (f : α → V) {ns : List α} {k : Nat} {x : α} (e : ns[k]? = some x) : atI (ns.map f) (k : Nat) = some (f x) := at_in (by omega) (by rw [show ((k : Nat) : Int).toNat = k by omega, List.getElem?_map, e]; rfl)
theorem at_map0 {α : Type} (f : α → V) {ns : List α} {k : Nat} {x : α} (e : ns[k]? = some x) : atI (ns.map f) (0 + (k : Int)) = some (f x) := by
  rw [Int.zero_add]
  exact at_map f e
/-- all but L -/
def neF (L : Int) : V → Option V := fun v => if v = V.int L then none else some v
theorem neV (L : Int) : ∀ ks : List Int, (ks.map V.int).filterMap (neF L) = (ks.filter (fun y => y != L)).map V.int
  | [] => rfl
  | x :: ks => by
    have h := neV L ks
    rw [List.map_cons]
    by_cases e : x = L
    · rw [List.filterMap_cons_none (f := neF L) (if_pos (congrArg V.int e)), h, List.filter_cons_of_neg (by simp [e])]
    · rw [List.filterMap_cons_some (f := neF L) (b := V.int x) (if_neg (fun z => e (V.int.inj z))), h, List.filter_cons_of_pos (by simpa using e)]
      rfl
/-- a whole number or None -/
def oiV : Option Int → V
  | none => .non
  | some i => .int i
def oiD : Option Int → PyData
  | none => .none
  | some i => .int i
theorem oi_dp {K : PySem.W.Frag} {H : Hp} (o : Option Int) : Dp K H (oiV o) (oiD o) := by
  cases o with
  | none => exact .non
  | some i => exact .int i
theorem oi_ok (o : Option Int) (n : Nat) : okD n (oiD o) := by
  cases o with
  | none => exact .non n
  | some i => exact .int n i
theorem flat_oi (o : Option Int) : flatV (oiV o) = true := by cases o <;> rfl
theorem ois_dp {K : PySem.W.Frag} {H : Hp} : ∀ os : List (Option Int), DpAll K H (os.map oiV) (os.map oiD)
  | [] => .nil
  | o :: os => .cons (oi_dp o) (ois_dp os)
theorem ois_ok (os : List (Option Int)) : okD 1 (.list (os.map oiD)) := .lst fun d hd => by
  obtain ⟨o, _, rfl⟩ := List.mem_map.mp hd
  exact oi_ok o 0
end Nl

set_option Elab.async false
set_option linter.all false
set_option maxRecDepth 100000
set_option maxHeartbeats 4000000
namespace Nl
open PySem PySem.Spec PyProof.Rows L2 L2H
/-! ### methods that may raise -/
structure MetX (P : Program) (w : World) (K : PySem.W.Frag) (mg : Str → Option Value) (base : Heap) (k : Nat) (C : Addr) (m : Str) (sp : Sp) : Prop where
  ex : ∃ (f : Addr) (fd : FuncData) (ps : List Str), Cls K C ∧ Meth K C m f ∧ FnOk P w K mg base (L2.CX P w) k f fd ps sp ∧ Binds K fd ps []
section
variable {P : Program} {w : World} {K : PySem.W.Frag} {mg : Str → Option Value} {base : Heap}
theorem metX_of {C : Addr} {m qual : Str} {st : Stmt} {N ps : List Str} {k : Nat} {sp : Sp} (c : Cls K C) (D : MethAt K C m qual st) (S : FnScope N ps (defScope st)) (b : BindM m qual st ps) (len : ∀ vs H Q E, sp vs H Q E → vs.length = ps.length)
    (hbody : ∀ (f : Addr) (cdv : Value) (A : Around) (outer : List Env) (s : Shared) (H : Hp) (vs : List V) (Q : VK) (E : XK), Room k (A.deeper (envOfC qual (defScope st) s.heap.objs.size f cdv)) → sp vs H Q E →
      ∃ t, PSs (cxOf (L2.CX P w) P w K mg base N qual (defScope st) f cdv A outer s H E) (defBody st) t ∧ t { nx := fun _ H' => Q .non H', rt := Q } (start N vs) H) : MetX P w K mg base (k + 1) C m sp := by
  obtain ⟨f, oc, od, an, osl, kV, doc, pm, cdv, ct, a, i, l, cc, kp⟩ := D
  have F := fun_mk (st := st) l cc kp
  exact ⟨f, _, ps, c, ⟨a, i, kp⟩, F.okX S len (fun cdv A outer s H vs Q E hr h => hbody f cdv A outer s H vs Q E hr h), F.binds b⟩
/-- a class whose __init__ may raise -/
structure MakX (P : Program) (w : World) (K : PySem.W.Frag) (mg : Str → Option Value) (base : Heap) (k : Nat) (x : Str) (C : Addr) (sp : Sp) : Prop where
  ex : ∃ (f : Addr) (fd : FuncData) (ps : List Str), Mk K C f ∧ FnOk P w K mg base (L2.CX P w) k f fd ps sp ∧ mg x = some (.ref C) ∧ Binds K fd ps []
theorem makX_of {C : Addr} {x qual : Str} {st : Stmt} {N ps : List Str} {k : Nat} {sp : Sp} (mk : PySem.W.makesIn K C = true) (kc : PySem.W.keepIn K (.ref C) = true) (hm : mg x = some (.ref C)) (D : MethAt K C "__init__" qual st) (S : FnScope N ps (defScope st)) (b : BindM "__init__" qual st ps) (len : ∀ vs H Q E, sp vs H Q E → vs.length = ps.length)
    (hbody : ∀ (f : Addr) (cdv : Value) (A : Around) (outer : List Env) (s : Shared) (H : Hp) (vs : List V) (Q : VK) (E : XK), Room k (A.deeper (envOfC qual (defScope st) s.heap.objs.size f cdv)) → sp vs H Q E →
      ∃ t, PSs (cxOf (L2.CX P w) P w K mg base N qual (defScope st) f cdv A outer s H E) (defBody st) t ∧ t { nx := fun _ H' => Q .non H', rt := Q } (start N vs) H) : MakX P w K mg base (k + 1) x C sp := by
  obtain ⟨f, oc, od, an, osl, kV, doc, pm, cdv, ct, a, i, l, cc, kp⟩ := D
  have F := fun_mk (st := st) l cc kp
  exact ⟨f, _, ps, ⟨mk, a, i, kc⟩, F.okX S len (fun cdv A outer s H vs Q E hr h => hbody f cdv A outer s H vs Q E hr h), hm, F.binds b⟩
end
section
variable {X : Cx} {k j : Nat} {C : Addr} {x m : Str} {sp : Sp} {p pos apos : Pos} {e o : Expr} {es : List Expr} {ta : TE} {t : TA}
/-- o.m(..), m may raise: what is raised is wished for by W -/
def tMethS (C : Addr) (m : Str) (sp : Sp) (E : L2.St → XK) (ta : TE) (t : TA) : TE := fun σ H Q => ta σ H fun x H1 => ∃ a dx fs, x = .ref a ∧ H1 a = some (.ins C dx fs) ∧ fs.lookup m = none ∧ t σ H1 fun vs H2 => sp (x :: vs) H2 Q (E σ)
theorem pe_mx {W : WX} {pl : Sem Bool} (c : MetX X.prog X.w X.K X.mg X.base k C m sp) (tk : Takes X W) (hr : Room j X.A) (hk : k ≤ j) (he : PE X o ta) (ha : PA X (e :: es) t)
    (hst : starEach (e :: es) X.env = (false, eval e X.env) :: starEach es X.env := by rfl) (hpl : (backTo pos (starEach es X.env)).any (·.1) = false := by rfl)
    (ht : eval (.Call (.Attribute o m apos) (e :: es) [] pos) X.env = (do
      let ov ← eval o X.env
      standAt apos.atName
      let (f, first) ← holding [ov] (getMethod ov m pl)
      callWith pos f first (backTo pos (starEach (e :: es) X.env)) (backToKw pos (keywordEach [] X.env))) := by rfl) :
    PE X (.Call (.Attribute o m apos) (e :: es) [] pos) (tMethS C m sp (WE W) ta t) := by
  obtain ⟨f, fd, ps, hc, hm, F, b⟩ := c.ex
  refine ⟨fun pins s σ H Q I h => ?_⟩
  refine PySem.W.methodCall_KW (pl := pl) (thn (he.run pins s σ H _ I h) fun u s1 ⟨x, H1, I1, rx, a, dx, fs, ex, ea, l, q⟩ => ?_) ht
  subst ex
  obtain rfl : u = Value.ref a := rx
  refine getmeth_ok I1 ea hc hm l ?_
  refine PySem.W.callWith_K (first := [.ref a]) (h₀ := X.base) I.ok.mod.kin hm.kp (thn (ha.run pos pins s1 σ H1 _ I1 q) fun us s2 ⟨vs, H2, I2, r, q2⟩ => ⟨I2.kIn, ?_⟩) hst hpl
  exact run_fnS (us := .ref a :: us) (vs := .ref a :: vs) F (hr.mono hk) b (passAt tk σ) I2 (.cons rfl r) q2
/-- .. where it does not raise -/
theorem pe_mxq {pl : Sem Bool} (c : MetX X.prog X.w X.K X.mg X.base k C m sp) (hr : Room j X.A) (hk : k ≤ j) (he : PE X o ta) (ha : PA X (e :: es) t)
    (hst : starEach (e :: es) X.env = (false, eval e X.env) :: starEach es X.env := by rfl) (hpl : (backTo pos (starEach es X.env)).any (·.1) = false := by rfl)
    (ht : eval (.Call (.Attribute o m apos) (e :: es) [] pos) X.env = (do
      let ov ← eval o X.env
      standAt apos.atName
      let (f, first) ← holding [ov] (getMethod ov m pl)
      callWith pos f first (backTo pos (starEach (e :: es) X.env)) (backToKw pos (keywordEach [] X.env))) := by rfl) :
    PE X (.Call (.Attribute o m apos) (e :: es) [] pos) (tMeth C m sp [] E0 ta t) := by
  obtain ⟨f, fd, ps, hc, hm, F, b⟩ := c.ex
  exact pe_meth (pl := pl) he hc hm F (hr.mono hk) b .nil passL ha hst hpl ht
theorem pe_mkq (c : MakX X.prog X.w X.K X.mg X.base k x C sp) (hr : Room j X.A) (hk : k + 1 ≤ j) (hg : Gl X x) (ha : PA X (e :: es) t)
    (hdb : (x == ("__debug__" : Str)) = false := by decide) (he : starEach (e :: es) X.env = (false, eval e X.env) :: starEach es X.env := by rfl) (hpl : (backTo pos (starEach es X.env)).any (·.1) = false := by rfl) :
    PE X (.Call (.Name x p) (e :: es) [] pos) (tMake C sp [] E0 t) := by
  obtain ⟨f, fd, ps, M, F, hm, b⟩ := c.ex
  exact pe_make M F (hr.mono hk) hg hm b .nil passL ha hdb he hpl
end
/-! ### xs[lo:hi] = ys -/
def sSlPut (tv to tl tu : TE) : TS := fun D σ H => tv σ H fun v H1 => to σ H1 fun x H2 => tl σ H2 fun lo H3 => tu σ H3 fun hi H4 => ∃ (l b : Addr) (xs ys : List V) (a c : Int), x = .ref l ∧ v = .ref b ∧ lo = .int a ∧ hi = .int c ∧
  H4 l = some (.lst xs) ∧ H4 b = some (.lst ys) ∧ l ≠ b ∧ 0 ≤ a ∧ a ≤ c ∧ c ≤ xs.length ∧ xs.length + ys.length ≤ sizeLine ∧ D.nx σ (upd H4 l (.lst (xs.take a.toNat ++ ys ++ xs.drop c.toNat)))
theorem ps_slput {X : Cx} {o lo hi value : Expr} {pos pos' p2 : Pos} {tv to tl tu : TE} (ho : PE X o to) (hl : PE X lo tl) (hu : PE X hi tu) (hv : PE X value tv) (hs : swapsWith value (some (.Subscript o (.Slice (some lo) (some hi) none p2) pos')) pos.line X.env = pure false) :
    PS X (.Assign [.Subscript o (.Slice (some lo) (some hi) none p2) pos'] value pos) (sSlPut tv to tl tu) := by
  refine ⟨fun pins s σ H D I h => ?_⟩
  refine wpAny_Assign_Subscript (thn (hv.run pins s σ H _ I h) fun r s1 ⟨v, H1, I1, rv, q1⟩ => thn (ho.run pins s1 σ H1 _ I1 q1) fun u s2 ⟨x, H2, I2, rx, q2⟩ => ?_) hs
  refine wpAny_Slice ?_
  rw [evalPart_some, evalPart_some, evalPart_none]
  refine thn (hl.run pins s2 σ H2 _ I2 q2) fun vl s3 ⟨l0, H3, I3, rl, q3⟩ => thn (hu.run pins s3 σ H3 _ I3 q3) fun vu s4 ⟨u0, H4, I4, ru, q4⟩ => ?_
  obtain ⟨l, b, xs, ys, a, c, ex, ev, el, eu, hL, hB, ne, h0, h1, h2, hz, q5⟩ := q4
  subst ex ev el eu
  cases rx
  cases rv
  refine wpAny_pure ?_
  have I5 : Inv X pins σ H4 { s4 with heap := s4.heap.push { cls := .type "slice", data := .fields #[vl, vu, .none] } } := I4.kept (t' := s4.toks) fun b ob q => Heap.get?_push_of_some _ q
  exact set_slice I5 hL hB ne (Heap.IsSliceOf.new ..) rl ru h0 h1 h2 hz fun s6 I6 => ⟨σ, _, I6, q5⟩
/-! ### lines near -/
/-- where a Near's own things lie -/
structure Na where
  p : Addr
  af : Addr
  dl : Addr
  dw : Addr
/-- a Near: lines by their number, each with its address and its numbers -/
structure Ns where
  far : List Int
  found : Nat
  missed : Nat
  back : Nat
  lines : List (Int × (Addr × List Int))
  written : List Int
structure Np where
  room : Nat
  wd : Nat
  rule : Str
def nfs (a : Na) (par : Np) (s : Ns) : List (Str × V) := [(("far" : Str), .ref a.af), (("found" : Str), .int (s.found : Nat)), (("missed" : Str), .int (s.missed : Nat)), (("back" : Str), .int (s.back : Nat)),
  (("_room" : Str), .int (par.room : Nat)), (("_width" : Str), .int (par.wd : Nat)), (("_rule" : Str), .str par.rule), (("_lines" : Str), .ref a.dl), (("_written" : Str), .ref a.dw)]
def lnV (x : Addr × List Int) : V := .ref x.1
def Ns.keys (s : Ns) : List Int := s.lines.map (·.1)
structure NearAt (C : Addr) (H : Hp) (a : Na) (par : Np) (s : Ns) : Prop where
  ins : ∃ dx, H a.p = some (.ins C dx (nfs a par s))
  far : H a.af = some (.lst (s.far.map V.int))
  dl : H a.dl = some (.dK (dk lnV s.lines))
  dw : H a.dw = some (.dK (dk gT (tkP s.written)))
  ne : a.dl ≠ a.dw
  lns : ∀ x ∈ s.lines, H x.2.1 = some (.lst (x.2.2.map V.int)) ∧ x.2.1 ≠ a.af
  nd : (s.lines.map (·.2.1)).Nodup
/-- what is a Near's own -/
def Own (a : Na) (s : Ns) (q : Addr) : Prop := q = a.p ∨ q = a.af ∨ q = a.dl ∨ q = a.dw ∨ ∃ x ∈ s.lines, x.2.1 = q
/-- all but a Near's own stays, and stays none of its own -/
def Step (H : Hp) (a : Na) (s : Ns) (H' : Hp) (s' : Ns) : Prop := ∀ q o, H q = some o → ¬ Own a s q → H' q = some o ∧ ¬ Own a s' q
theorem Step.trans {H H1 H2 : Hp} {a : Na} {s s1 s2 : Ns} (x : Step H a s H1 s1) (y : Step H1 a s1 H2 s2) : Step H a s H2 s2 := fun q o e n => by
  obtain ⟨e1, n1⟩ := x q o e n
  exact y q o e1 n1
theorem Step.of_same {H H' : Hp} {a : Na} {s : Ns} (h : Same H H') : Step H a s H' s := fun q o e n => ⟨h _ _ e, n⟩
theorem NearAt.some {C : Addr} {H : Hp} {a : Na} {par : Np} {s : Ns} (h : NearAt C H a par s) {q : Addr} (o : Own a s q) : ∃ u, H q = .some u := by
  rcases o with rfl | rfl | rfl | rfl | ⟨x, hx, rfl⟩
  · obtain ⟨dx, e⟩ := h.ins
    exact ⟨_, e⟩
  · exact ⟨_, h.far⟩
  · exact ⟨_, h.dl⟩
  · exact ⟨_, h.dw⟩
  · exact ⟨_, (h.lns x hx).1⟩
theorem NearAt.keep {C : Addr} {H H' : Hp} {a : Na} {par : Np} {s : Ns} (h : NearAt C H a par s) (k : ∀ q o, Own a s q → H q = .some o → H' q = .some o) : NearAt C H' a par s := by
  obtain ⟨dx, e⟩ := h.ins
  exact ⟨⟨dx, k _ _ (.inl rfl) e⟩, k _ _ (.inr (.inl rfl)) h.far, k _ _ (.inr (.inr (.inl rfl))) h.dl, k _ _ (.inr (.inr (.inr (.inl rfl)))) h.dw, h.ne,
    fun x hx => ⟨k _ _ (.inr (.inr (.inr (.inr ⟨x, hx, rfl⟩)))) (h.lns x hx).1, (h.lns x hx).2⟩, h.nd⟩
theorem NearAt.same {C : Addr} {H H' : Hp} {a : Na} {par : Np} {s : Ns} (h : NearAt C H a par s) (k : Same H H') : NearAt C H' a par s := h.keep fun q o _ e => k _ _ e
/-- a thing of another's changes -/
theorem NearAt.upd {C : Addr} {H : Hp} {a : Na} {par : Np} {s : Ns} (h : NearAt C H a par s) {q : Addr} {o : HO} (n : ¬ Own a s q) : NearAt C (upd H q o) a par s := h.keep fun q' o' ow e => by
  have hne : q' ≠ q := fun z => n (by rw [← z]; exact ow)
  exact (upd_ne hne).trans e
theorem NearAt.new {C : Addr} {H : Hp} {a : Na} {par : Np} {s : Ns} (h : NearAt C H a par s) {q : Addr} (e : H q = none) : ¬ Own a s q := fun o => by
  obtain ⟨u, e2⟩ := h.some o
  rw [e] at e2
  cases e2
/-- its things are not one another -/
structure Dist (a : Na) : Prop where
  pf : a.p ≠ a.af
  pl : a.p ≠ a.dl
  pw : a.p ≠ a.dw
  fl : a.af ≠ a.dl
  fw : a.af ≠ a.dw
  lw : a.dl ≠ a.dw
theorem NearAt.dist {C : Addr} {H : Hp} {a : Na} {par : Np} {s : Ns} (h : NearAt C H a par s) : Dist a := by
  obtain ⟨dx, e⟩ := h.ins
  exact ⟨ne_of e h.far (by intro z; cases z), ne_of e h.dl (by intro z; cases z), ne_of e h.dw (by intro z; cases z), ne_of h.far h.dl (by intro z; cases z), ne_of h.far h.dw (by intro z; cases z), h.ne⟩
theorem NearAt.lnd {C : Addr} {H : Hp} {a : Na} {par : Np} {s : Ns} (h : NearAt C H a par s) {x : Int × (Addr × List Int)} (hx : x ∈ s.lines) : x.2.1 ≠ a.p ∧ x.2.1 ≠ a.af ∧ x.2.1 ≠ a.dl ∧ x.2.1 ≠ a.dw := by
  obtain ⟨dx, e⟩ := h.ins
  obtain ⟨e2, n⟩ := h.lns x hx
  exact ⟨ne_of e2 e (by intro z; cases z), n, ne_of e2 h.dl (by intro z; cases z), ne_of e2 h.dw (by intro z; cases z)⟩
theorem Step.own {H H' : Hp} {a : Na} {s s' : Ns} (h : ∀ q o, H q = .some o → ¬ Own a s q → H' q = .some o) (sub : ∀ q, Own a s' q → Own a s q) : Step H a s H' s' := fun q o e n => ⟨h q o e n, fun z => n (sub q z)⟩
theorem own_sub {a : Na} {s s' : Ns} (h : ∀ x ∈ s'.lines, ∃ y ∈ s.lines, y.2.1 = x.2.1) : ∀ q, Own a s' q → Own a s q := fun q o => by
  rcases o with o | o | o | o | ⟨x, hx, rfl⟩
  · exact .inl o
  · exact .inr (.inl o)
  · exact .inr (.inr (.inl o))
  · exact .inr (.inr (.inr (.inl o)))
  · obtain ⟨y, hy, e⟩ := h x hx
    exact .inr (.inr (.inr (.inr ⟨y, hy, e⟩)))
theorem nown {a : Na} {s : Ns} {q : Addr} (n : ¬ Own a s q) : q ≠ a.p ∧ q ≠ a.af ∧ q ≠ a.dl ∧ q ≠ a.dw ∧ ∀ x ∈ s.lines, x.2.1 ≠ q := ⟨fun z => n (.inl z), fun z => n (.inr (.inl z)), fun z => n (.inr (.inr (.inl z))), fun z => n (.inr (.inr (.inr (.inl z)))), fun x hx z => n (.inr (.inr (.inr (.inr ⟨x, hx, z⟩))))⟩
theorem nat_of {z : Int} (h0 : 1 ≤ z) (h1 : z ≤ 200) : ∃ m : Nat, z = (m : Nat) ∧ 1 ≤ m ∧ m ≤ 200 := ⟨z.toNat, (Int.toNat_of_nonneg (by omega)).symm, by omega, by omega⟩
theorem map_int_inj : ∀ {xs ys : List Int}, xs.map V.int = ys.map V.int → xs = ys
  | [], [], _ => rfl
  | x :: xs, y :: ys, h => by
    rw [List.map_cons, List.map_cons] at h
    have := List.cons.inj h
    rw [V.int.inj this.1, map_int_inj this.2]
  | [], _ :: _, h => by cases h
  | _ :: _, [], h => by cases h
theorem zeros (n : Nat) : (List.replicate n [V.int 0]).flatten = (List.replicate n (0 : Int)).map V.int := by
  induction n with
  | zero => rfl
  | succ n ih =>
    rw [List.replicate_succ, List.flatten_cons, ih, List.replicate_succ]
    rfl
theorem no_bad {i n : Nat} (h : i < n) (hb : wholeV (.int (i : Nat)) 0 ((n : Nat) - 1) = false) : False := by
  have h3 : (decide ((0 : Int) ≤ (i : Nat)) && decide (((i : Nat) : Int) ≤ (n : Nat) - 1)) = false := hb
  rw [decide_eq_true (by omega), decide_eq_true (by omega)] at h3
  cases h3
theorem nd_len {α : Type} [DecidableEq α] : ∀ {l m : List α}, l.Nodup → (∀ x ∈ l, x ∈ m) → l.length ≤ m.length
  | [], m, _, _ => Nat.zero_le _
  | x :: l, m, h, hs => by
    have hx := hs x List.mem_cons_self
    have := nd_len (l := l) (m := m.erase x) (List.nodup_cons.mp h).2 fun y hy => (List.mem_erase_of_ne (fun e => (List.nodup_cons.mp h).1 (by rw [← e]; exact hy))).mpr (hs y (List.mem_cons_of_mem _ hy))
    rw [List.length_erase_of_mem hx] at this
    have := List.length_pos_of_mem hx
    rw [List.length_cons]
    omega
theorem nodup_of {α β : Type} {f : α → β} {l : List α} (h : (l.map f).Nodup) : l.Nodup := List.Pairwise.of_map f (fun a b h e => h (congrArg f e)) h
theorem nodup_inj {α β : Type} {f : α → β} : ∀ {l : List α}, (l.map f).Nodup → ∀ {x y : α}, x ∈ l → y ∈ l → f x = f y → x = y
  | [], _, x, y, hx, _, _ => by cases hx
  | z :: l, h, x, y, hx, hy, e => by
    rw [List.map_cons, List.nodup_cons] at h
    rcases List.mem_cons.mp hx with e1 | hx2
    · rcases List.mem_cons.mp hy with e2 | hy2
      · rw [e1, e2]
      · subst e1
        exact absurd (show f x ∈ l.map f from List.mem_map.mpr ⟨y, hy2, e.symm⟩) h.1
    · rcases List.mem_cons.mp hy with e2 | hy2
      · subst e2
        exact absurd (show f y ∈ l.map f from List.mem_map.mpr ⟨x, hx2, e⟩) h.1
      · exact nodup_inj h.2 hx2 hy2 e
/-! ### what is done to it, without its things -/
def blit (far : List Int) (st : Nat) (ns : List Int) : List Int := far.take st ++ ns ++ far.drop (st + ns.length)
def numsOf (s : Ns) (L : Int) : List Int := match lkP s.lines L with | some x => x.2 | none => []
def wbS (wd : Nat) (s : Ns) (L : Int) : Ns := { s with far := blit s.far (L * wd).toNat (numsOf s L), back := s.back + 1, written := s.written.filter fun y => y != L }
def goS (wd : Nat) (s : Ns) (L : Int) : Ns := let s1 := if L ∈ s.written then wbS wd s L else s; { s1 with lines := dropP s1.lines L }
def sliceF (far : List Int) (st wd : Nat) : List Int := (far.drop st).take wd
def bringS (par : Np) (s : Ns) (L : Int) (b : Addr) : Ns :=
  let s1 := if s.lines.length = par.room then goS par.wd s (s.keys.headD 0) else s
  { s1 with lines := s1.lines ++ [(L, (b, sliceF s1.far (L * par.wd).toNat par.wd))] }
def findS (least : Bool) (s : Ns) (L : Int) : Ns := match lkP s.lines L with
  | some x => if least then { s with lines := dropP s.lines L ++ [(L, x)] } else s
  | none => s
def touchS (par : Np) (s : Ns) (L : Int) (b : Addr) : Ns :=
  if L ∈ s.keys then findS (decide (par.rule = "least")) { s with found := s.found + 1 } L else bringS par { s with missed := s.missed + 1 } L b
def setLn (ls : List (Int × (Addr × List Int))) (L : Int) (i : Nat) (n : Int) : List (Int × (Addr × List Int)) := ls.map fun x => if x.1 = L then (x.1, (x.2.1, x.2.2.set i n)) else x
def putS (s : Ns) (L : Int) (i : Nat) (n : Int) : Ns := { s with lines := setLn s.lines L i n, written := if L ∈ s.written then s.written else s.written ++ [L] }
def lookV (par : Np) (s : Ns) (i : Nat) : Int := (numsOf s ((i / par.wd : Nat) : Int)).getD (i % par.wd) 0
/-- what holds of each Near -/
structure GoodS (par : Np) (s : Ns) : Prop where
  keys : s.keys.Nodup
  nums : ∀ x ∈ s.lines, 0 ≤ x.1 ∧ x.1 * par.wd < s.far.length ∧ x.2.2.length = min par.wd (s.far.length - (x.1 * par.wd).toNat)
  wsub : ∀ L ∈ s.written, L ∈ s.keys
  wnd : s.written.Nodup
  room : s.lines.length ≤ par.room
  r1 : 1 ≤ par.room
  w1 : 1 ≤ par.wd
theorem slice_len (far : List Int) (st wd : Nat) : (sliceF far st wd).length = min wd (far.length - st) := by
  unfold sliceF
  rw [List.length_take, List.length_drop]
theorem blit_len {far ns : List Int} {st : Nat} (h : st + ns.length ≤ far.length) : (blit far st ns).length = far.length := by
  unfold blit
  rw [List.length_append, List.length_append, List.length_take, List.length_drop]
  omega
theorem GoodS.fits {par : Np} {s : Ns} (g : GoodS par s) (L : Int) : (L * par.wd).toNat + (numsOf s L).length ≤ s.far.length ∨ lkP s.lines L = none := by
  unfold numsOf
  cases e : lkP s.lines L with
  | none => exact .inr rfl
  | some x =>
    have := g.nums _ (lk_mem e)
    refine .inl ?_
    show (L * par.wd).toNat + x.2.length ≤ s.far.length
    have h1 := this.2.2
    have h2 := this.2.1
    simp only at h1 h2
    omega
theorem wb_far {par : Np} {s : Ns} (g : GoodS par s) {L : Int} (h : L ∈ s.keys) : (wbS par.wd s L).far.length = s.far.length := by
  rcases g.fits L with h2 | h2
  · exact blit_len h2
  · have := lk_some (ps := s.lines) (l := L)
    rw [h2, decide_eq_true (show L ∈ s.lines.map (·.1) from h)] at this
    cases this
theorem GoodS.wb {par : Np} {s : Ns} (g : GoodS par s) {L : Int} (h : L ∈ s.keys) : GoodS par (wbS par.wd s L) :=
  ⟨g.keys, fun x hx => by rw [wb_far g h]; exact g.nums x hx, fun l hl => g.wsub l (List.mem_filter.mp hl).1, g.wnd.filter _, g.room, g.r1, g.w1⟩
theorem go_cases (wd : Nat) (s : Ns) (L : Int) : goS wd s L = { (if L ∈ s.written then wbS wd s L else s) with lines := dropP s.lines L } := by
  unfold goS
  split <;> rfl
theorem drop_sub {α : Type} {ps : List (Int × α)} {l : Int} {x : Int × α} (h : x ∈ dropP ps l) : x ∈ ps ∧ x.1 ≠ l := by
  unfold dropP at h
  have := List.mem_filter.mp h
  exact ⟨this.1, by simpa using this.2⟩
theorem GoodS.go {par : Np} {s : Ns} (g : GoodS par s) {L : Int} (h : L ∈ s.keys) : GoodS par (goS par.wd s L) ∧ (goS par.wd s L).far.length = s.far.length ∧ (goS par.wd s L).lines.length < s.lines.length ∧ (goS par.wd s L).keys = s.keys.filter (fun y => y != L) := by
  have hk : (goS par.wd s L).keys = s.keys.filter (fun y => y != L) := by
    rw [go_cases]
    exact drop_keys _ _
  have hl : (goS par.wd s L).lines.length < s.lines.length := by
    have h1 := congrArg List.length hk
    have h2 : (s.keys.filter (fun y => y != L)).length < s.keys.length := by
      rw [← g.keys.erase_eq_filter, List.length_erase_of_mem h]
      have := List.length_pos_of_mem h
      omega
    unfold Ns.keys at h1 h2
    rw [List.length_map] at h1 h2
    omega
  have hf : (goS par.wd s L).far.length = s.far.length := by
    rw [go_cases]
    show (if L ∈ s.written then wbS par.wd s L else s).far.length = s.far.length
    split
    · exact wb_far g h
    · rfl
  refine ⟨⟨by rw [hk]; exact g.keys.filter _, fun x hx => ?_, fun l hl => ?_, ?_, by have := g.room; omega, g.r1, g.w1⟩, hf, hl, hk⟩
  · rw [hf]
    rw [go_cases] at hx
    exact g.nums x (drop_sub hx).1
  · rw [hk, List.mem_filter]
    rw [go_cases] at hl
    have hl : l ∈ (if L ∈ s.written then wbS par.wd s L else s).written := hl
    by_cases hw : L ∈ s.written
    · rw [if_pos hw] at hl
      have := List.mem_filter.mp hl
      exact ⟨g.wsub l this.1, this.2⟩
    · rw [if_neg hw] at hl
      refine ⟨g.wsub l hl, ?_⟩
      have : l ≠ L := fun e => hw (e ▸ hl)
      simpa using this
  · rw [go_cases]
    show (if L ∈ s.written then wbS par.wd s L else s).written.Nodup
    split
    · exact g.wnd.filter _
    · exact g.wnd
theorem GoodS.bring {par : Np} {s : Ns} (g : GoodS par s) {L : Int} {b : Addr} (h : L ∉ s.keys) (h0 : 0 ≤ L) (h1 : L * par.wd < s.far.length) : GoodS par (bringS par s L b) ∧ (bringS par s L b).far.length = s.far.length := by
  have hh : s.lines.length = par.room → s.keys.headD 0 ∈ s.keys := fun e => by
    have : s.keys.length = par.room := by unfold Ns.keys; rw [List.length_map]; exact e
    have r1 := g.r1
    cases hk : s.keys with
    | nil => rw [hk] at this; simp at this; omega
    | cons y ys => exact List.mem_cons_self
  have main : ∀ s1 : Ns, GoodS par s1 → s1.far.length = s.far.length → L ∉ s1.keys → s1.lines.length < par.room → GoodS par { s1 with lines := s1.lines ++ [(L, (b, sliceF s1.far (L * par.wd).toNat par.wd))] } := fun s1 g1 hf hk hl => by
    refine ⟨?_, fun x hx => ?_, fun l hl => ?_, g1.wnd, ?_, g1.r1, g1.w1⟩
    · unfold Ns.keys
      rw [List.map_append, List.nodup_append]
      exact ⟨g1.keys, by simp, fun y hy z hz => by
        have := List.mem_singleton.mp hz
        subst this
        exact fun e => hk (e ▸ hy)⟩
    · rcases List.mem_append.mp hx with hx | hx
      · exact g1.nums x hx
      · cases List.mem_singleton.mp hx
        exact ⟨h0, by show L * par.wd < s1.far.length; omega, slice_len _ _ _⟩
    · unfold Ns.keys
      rw [List.map_append, List.mem_append]
      exact .inl (g1.wsub l hl)
    · show (s1.lines ++ [_]).length ≤ par.room
      rw [List.length_append, List.length_singleton]
      omega
  unfold bringS
  by_cases e : s.lines.length = par.room
  · rw [if_pos e]
    obtain ⟨g1, g2, g3, g4⟩ := g.go (hh e)
    refine ⟨main _ g1 g2 ?_ (by omega), g2⟩
    rw [g4]
    exact fun z => h (List.mem_filter.mp z).1
  · rw [if_neg e]
    exact ⟨main _ g rfl h (by have := g.room; omega), rfl⟩
theorem GoodS.find {par : Np} {s : Ns} (g : GoodS par s) (least : Bool) (L : Int) : GoodS par (findS least s L) := by
  unfold findS
  cases e : lkP s.lines L with
  | none => exact g
  | some x =>
    cases least with
    | false => exact g
    | true =>
      have hm := lk_mem e
      have hL : L ∈ s.keys := List.mem_map.mpr ⟨_, hm, rfl⟩
      have hk : (dropP s.lines L ++ [(L, x)]).map (·.1) = s.keys.filter (fun y => y != L) ++ [L] := by
        rw [List.map_append, drop_keys]
        rfl
      show GoodS par { s with lines := dropP s.lines L ++ [(L, x)] }
      refine ⟨?_, fun y hy => ?_, fun l hl => ?_, g.wnd, ?_, g.r1, g.w1⟩
      · show ((dropP s.lines L ++ [(L, x)]).map (·.1)).Nodup
        rw [hk]
        exact nd_ordS g.keys
      · rcases List.mem_append.mp hy with hy | hy
        · exact g.nums y (drop_sub hy).1
        · cases List.mem_singleton.mp hy
          exact g.nums _ hm
      · show l ∈ (dropP s.lines L ++ [(L, x)]).map (·.1)
        rw [hk]
        exact mem_ordS.mpr (.inl (g.wsub l hl))
      · show (dropP s.lines L ++ [(L, x)]).length ≤ par.room
        have h1 := congrArg List.length hk
        rw [List.length_map, ← g.keys.erase_eq_filter, List.length_append, List.length_append, List.length_erase_of_mem hL] at h1
        have := List.length_pos_of_mem hL
        have h2 : s.keys.length = s.lines.length := by unfold Ns.keys; rw [List.length_map]
        have := g.room
        simp only [List.length_append, List.length_singleton] at h1 ⊢
        omega
theorem GoodS.cnt {par : Np} {s : Ns} (g : GoodS par s) (f m bk : Nat) : GoodS par { s with found := f, missed := m, back := bk } := ⟨g.keys, g.nums, g.wsub, g.wnd, g.room, g.r1, g.w1⟩
theorem find_far (least : Bool) (s : Ns) (L : Int) : (findS least s L).far = s.far := by
  unfold findS
  split
  · split <;> rfl
  · rfl
theorem GoodS.touch {par : Np} {s : Ns} (g : GoodS par s) {L : Int} {b : Addr} (h0 : 0 ≤ L) (h1 : L * par.wd < s.far.length) : GoodS par (touchS par s L b) ∧ (touchS par s L b).far.length = s.far.length := by
  unfold touchS
  by_cases h : L ∈ s.keys
  · rw [if_pos h]
    exact ⟨(g.cnt _ _ _).find _ _, by rw [find_far]⟩
  · rw [if_neg h]
    exact GoodS.bring (g.cnt s.found (s.missed + 1) s.back) (L := L) (b := b) h h0 h1
theorem set_keys (ls : List (Int × (Addr × List Int))) (L : Int) (i : Nat) (n : Int) : (setLn ls L i n).map (·.1) = ls.map (·.1) := by
  unfold setLn
  rw [List.map_map]
  refine List.map_congr_left fun x _ => ?_
  show (if x.1 = L then (x.1, (x.2.1, x.2.2.set i n)) else x).1 = x.1
  split <;> rfl
theorem set_addrs (ls : List (Int × (Addr × List Int))) (L : Int) (i : Nat) (n : Int) : (setLn ls L i n).map (·.2.1) = ls.map (·.2.1) := by
  unfold setLn
  rw [List.map_map]
  refine List.map_congr_left fun x _ => ?_
  show (if x.1 = L then (x.1, (x.2.1, x.2.2.set i n)) else x).2.1 = x.2.1
  split <;> rfl
theorem GoodS.put {par : Np} {s : Ns} (g : GoodS par s) {L : Int} {i : Nat} {n : Int} (h : L ∈ s.keys) : GoodS par (putS s L i n) := by
  have hk : (putS s L i n).keys = s.keys := set_keys _ _ _ _
  refine ⟨by rw [hk]; exact g.keys, fun x hx => ?_, fun l hl => ?_, ?_, ?_, g.r1, g.w1⟩
  · obtain ⟨y, hy, rfl⟩ := List.mem_map.mp hx
    have := g.nums y hy
    show 0 ≤ (if y.1 = L then (y.1, (y.2.1, y.2.2.set i n)) else y).1 ∧ _
    split
    · exact ⟨this.1, this.2.1, by rw [List.length_set]; exact this.2.2⟩
    · exact this
  · rw [hk]
    have hl : l ∈ (if L ∈ s.written then s.written else s.written ++ [L]) := hl
    split at hl
    · exact g.wsub l hl
    · rcases List.mem_append.mp hl with hl | hl
      · exact g.wsub l hl
      · rw [List.mem_singleton.mp hl]
        exact h
  · show (if L ∈ s.written then s.written else s.written ++ [L]).Nodup
    split
    · exact g.wnd
    · rename_i h2
      rw [List.nodup_append]
      exact ⟨g.wnd, by simp, fun y hy z hz => by
        have := List.mem_singleton.mp hz
        subst this
        exact fun e => h2 (e ▸ hy)⟩
  · show (setLn s.lines L i n).length ≤ par.room
    unfold setLn
    rw [List.length_map]
    exact g.room
end Nl

set_option Elab.async false
set_option linter.all false
set_option maxRecDepth 100000
set_option maxHeartbeats 4000000
namespace Nl
open PySem PySem.Spec PyProof.Rows L2 L2H
/-! ### what lies where: plain tells what each box has -/
theorem slice_get (far : List Int) (st wd j : Nat) : (sliceF far st wd)[j]? = if j < wd then far[st + j]? else none := by
  unfold sliceF
  rw [List.getElem?_take, List.getElem?_drop]
theorem blit_get {far ns : List Int} {st : Nat} (h : st + ns.length ≤ far.length) (k : Nat) : (blit far st ns)[k]? = if st ≤ k ∧ k < st + ns.length then ns[k - st]? else far[k]? := by
  unfold blit
  have h1 : (far.take st).length = st := by rw [List.length_take]; omega
  by_cases a : k < st
  · rw [if_neg (by omega), List.append_assoc, List.getElem?_append_left (by omega), List.getElem?_take, if_pos a]
  · by_cases b : k < st + ns.length
    · rw [if_pos ⟨by omega, b⟩, List.getElem?_append_left (by rw [List.length_append]; omega), List.getElem?_append_right (by omega), h1]
    · rw [if_neg (by omega), List.getElem?_append_right (by rw [List.length_append]; omega), List.getElem?_drop, List.length_append, h1]
      congr 1
      omega
structure Rel (par : Np) (s : Ns) (plain : List Int) : Prop where
  len : s.far.length = plain.length
  lns : ∀ x ∈ s.lines, x.2.2 = sliceF plain (x.1 * par.wd).toNat par.wd
  far : ∀ k : Nat, k < plain.length → ((k / par.wd : Nat) : Int) ∉ s.written → s.far[k]? = plain[k]?
theorem line_eq {wd k : Nat} {L : Int} (w1 : 1 ≤ wd) (h0 : 0 ≤ L) : ((L * wd).toNat ≤ k ∧ k < (L * wd).toNat + wd) ↔ ((k / wd : Nat) : Int) = L := by
  obtain ⟨l, rfl⟩ := Int.eq_ofNat_of_zero_le h0
  have e : (((l : Nat) : Int) * ((wd : Nat) : Int)).toNat = l * wd := by rw [← Int.natCast_mul]; rfl
  rw [e]
  constructor
  · rintro ⟨a, b⟩
    have : k / wd = l := Nat.div_eq_of_lt_le a (by rw [Nat.succ_mul]; exact b)
    rw [this]
  · intro h
    have h : k / wd = l := by omega
    have h1 := Nat.div_add_mod k wd
    have h2 := Nat.mod_lt k (show wd > 0 by omega)
    rw [h] at h1
    rw [Nat.mul_comm] at h1
    omega
theorem Rel.nums {par : Np} {s : Ns} {plain : List Int} (R : Rel par s plain) {L : Int} (h : L ∈ s.keys) : numsOf s L = sliceF plain (L * par.wd).toNat par.wd := by
  have := lk_some (ps := s.lines) (l := L)
  rw [decide_eq_true (show L ∈ s.lines.map (·.1) from h)] at this
  obtain ⟨x, hx⟩ := Option.isSome_iff_exists.mp this
  unfold numsOf
  rw [hx]
  exact R.lns _ (lk_mem hx)
/-- a written-back line lies far as it is -/
theorem Rel.wb_get {par : Np} {s : Ns} {plain : List Int} (G : GoodS par s) (R : Rel par s plain) {L : Int} (h : L ∈ s.keys) (k : Nat) (hk : k < plain.length) : (wbS par.wd s L).far[k]? = if ((k / par.wd : Nat) : Int) = L then plain[k]? else s.far[k]? := by
  have w1 := G.w1
  obtain ⟨y, hy, rfl⟩ := List.mem_map.mp h
  obtain ⟨h0, h1, h2⟩ := G.nums y hy
  have hn := R.nums h
  have hl : (sliceF plain (y.1 * par.wd).toNat par.wd).length = min par.wd (plain.length - (y.1 * par.wd).toNat) := slice_len _ _ _
  have hle := R.len
  show (blit s.far (y.1 * par.wd).toNat (numsOf s y.1))[k]? = _
  rw [hn, blit_get (by omega), hl]
  by_cases e : ((k / par.wd : Nat) : Int) = y.1
  · rw [if_pos e]
    obtain ⟨a, b⟩ := (line_eq (k := k) w1 h0).mpr e
    rw [if_pos ⟨a, by omega⟩, slice_get, if_pos (by omega)]
    congr 1
    omega
  · rw [if_neg e, if_neg]
    rintro ⟨a, b⟩
    exact e ((line_eq w1 h0).mp ⟨a, by omega⟩)
theorem Rel.wb {par : Np} {s : Ns} {plain : List Int} (G : GoodS par s) (R : Rel par s plain) {L : Int} (h : L ∈ s.keys) : Rel par (wbS par.wd s L) plain := by
  refine ⟨(wb_far G h).trans R.len, R.lns, fun k hk hw => ?_⟩
  rw [R.wb_get G h k hk]
  split
  · rfl
  · rename_i e
    refine R.far k hk fun z => hw ?_
    show _ ∈ s.written.filter (fun y => y != L)
    exact List.mem_filter.mpr ⟨z, by simpa using e⟩
theorem Rel.go {par : Np} {s : Ns} {plain : List Int} (G : GoodS par s) (R : Rel par s plain) {L : Int} (h : L ∈ s.keys) : Rel par (goS par.wd s L) plain := by
  rw [go_cases]
  have R1 : Rel par (if L ∈ s.written then wbS par.wd s L else s) plain := by
    split
    · exact R.wb G h
    · exact R
  exact ⟨R1.len, fun x hx => R.lns x (drop_sub hx).1, R1.far⟩
theorem Rel.add {par : Np} {s : Ns} {plain : List Int} (G : GoodS par s) (R : Rel par s plain) {L : Int} (h0 : 0 ≤ L) (h : L ∉ s.keys) (b : Addr) : Rel par { s with lines := s.lines ++ [(L, (b, sliceF s.far (L * par.wd).toNat par.wd))] } plain := by
  refine ⟨R.len, fun x hx => ?_, R.far⟩
  rcases List.mem_append.mp hx with hx | hx
  · exact R.lns x hx
  · cases List.mem_singleton.mp hx
    show sliceF s.far (L * par.wd).toNat par.wd = sliceF plain (L * par.wd).toNat par.wd
    refine List.ext_getElem? fun j => ?_
    rw [slice_get, slice_get]
    by_cases hj : j < par.wd
    · rw [if_pos hj, if_pos hj]
      by_cases hk : (L * par.wd).toNat + j < plain.length
      · refine R.far _ hk fun z => h (G.wsub _ ?_)
        rw [(line_eq G.w1 h0).mp ⟨by omega, by omega⟩] at z
        exact z
      · rw [List.getElem?_eq_none (by have := R.len; omega), List.getElem?_eq_none (by omega)]
    · rw [if_neg hj, if_neg hj]
theorem Rel.cnt {par : Np} {s : Ns} {plain : List Int} (R : Rel par s plain) (f m bk : Nat) : Rel par { s with found := f, missed := m, back := bk } plain := ⟨R.len, R.lns, R.far⟩
theorem Rel.find {par : Np} {s : Ns} {plain : List Int} (R : Rel par s plain) (least : Bool) (L : Int) : Rel par (findS least s L) plain := by
  unfold findS
  cases e : lkP s.lines L with
  | none => exact R
  | some x =>
    cases least with
    | false => exact R
    | true =>
      refine ⟨R.len, fun y hy => ?_, R.far⟩
      rcases List.mem_append.mp hy with hy | hy
      · exact R.lns y (drop_sub hy).1
      · cases List.mem_singleton.mp hy
        exact R.lns _ (lk_mem e)
theorem head_mem {par : Np} {s : Ns} (G : GoodS par s) (e : s.lines.length = par.room) : s.keys.headD 0 ∈ s.keys := by
  have : s.keys.length = par.room := by unfold Ns.keys; rw [List.length_map]; exact e
  have r1 := G.r1
  cases hk : s.keys with
  | nil => rw [hk] at this; simp at this; omega
  | cons y ys => exact List.mem_cons_self
theorem Rel.touch {par : Np} {s : Ns} {plain : List Int} (G : GoodS par s) (R : Rel par s plain) {L : Int} {b : Addr} (h0 : 0 ≤ L) : Rel par (touchS par s L b) plain := by
  unfold touchS
  by_cases h : L ∈ s.keys
  · rw [if_pos h]
    exact (R.cnt _ _ _).find _ _
  · rw [if_neg h]
    have G1 := G.cnt s.found (s.missed + 1) s.back
    have R1 := R.cnt s.found (s.missed + 1) s.back
    unfold bringS
    by_cases e : s.lines.length = par.room
    · rw [if_pos e]
      have hm := head_mem G e
      obtain ⟨g1, _, _, g4⟩ := G1.go (L := s.keys.headD 0) hm
      refine (R1.go G1 hm).add g1 h0 ?_ b
      rw [g4]
      exact fun z => h (List.mem_filter.mp z).1
    · rw [if_neg e]
      exact R1.add G1 h0 h b
theorem Rel.put {par : Np} {s : Ns} {plain : List Int} (G : GoodS par s) (R : Rel par s plain) {i : Nat} {n : Int} (hi : i < plain.length) (hL : ((i / par.wd : Nat) : Int) ∈ s.keys) : Rel par (putS s ((i / par.wd : Nat) : Int) (i % par.wd) n) (plain.set i n) := by
  have w1 := G.w1
  have hmod := Nat.div_add_mod i par.wd
  have hmlt := Nat.mod_lt i (show par.wd > 0 by omega)
  have est : (((i / par.wd : Nat) : Int) * (par.wd : Nat)).toNat = par.wd * (i / par.wd) := by
    rw [show ((i / par.wd : Nat) : Int) * (par.wd : Nat) = ((par.wd * (i / par.wd) : Nat) : Int) by rw [Int.natCast_mul]; exact Int.mul_comm _ _]
    rfl
  refine ⟨by rw [List.length_set]; exact R.len, fun x hx => ?_, fun k hk hw => ?_⟩
  · obtain ⟨y, hy, rfl⟩ := List.mem_map.mp hx
    have hy2 := R.lns y hy
    obtain ⟨g0, g1, g2⟩ := G.nums y hy
    by_cases e : y.1 = ((i / par.wd : Nat) : Int)
    · rw [if_pos e]
      show y.2.2.set (i % par.wd) n = sliceF (plain.set i n) (y.1 * par.wd).toNat par.wd
      rw [hy2, e, est]
      refine List.ext_getElem? fun j => ?_
      rw [slice_get, List.getElem?_set, slice_get, List.getElem?_set]
      by_cases hj : j < par.wd
      · rw [if_pos hj, if_pos hj]
        by_cases ej : i % par.wd = j
        · rw [if_pos ej, slice_len, if_pos (by omega), if_pos (by omega), if_pos hi]
        · rw [if_neg ej, if_neg (by omega)]
      · rw [if_neg hj, if_neg hj, if_neg (by omega)]
    · rw [if_neg e]
      rw [hy2]
      refine List.ext_getElem? fun j => ?_
      rw [slice_get, slice_get]
      by_cases hj : j < par.wd
      · rw [if_pos hj, if_pos hj, List.getElem?_set_ne]
        intro z
        exact e ((line_eq (k := i) w1 g0).mp ⟨by omega, by omega⟩).symm
      · rw [if_neg hj, if_neg hj]
  · rw [List.length_set] at hk
    have hw2 : ((k / par.wd : Nat) : Int) ∉ s.written ∧ ((k / par.wd : Nat) : Int) ≠ ((i / par.wd : Nat) : Int) := by
      have hw : ((k / par.wd : Nat) : Int) ∉ (if ((i / par.wd : Nat) : Int) ∈ s.written then s.written else s.written ++ [((i / par.wd : Nat) : Int)]) := hw
      split at hw
      · rename_i h2
        exact ⟨hw, fun z => hw (z ▸ h2)⟩
      · exact ⟨fun z => hw (List.mem_append.mpr (.inl z)), fun z => hw (List.mem_append.mpr (.inr (by rw [z]; exact List.mem_cons_self)))⟩
    rw [List.getElem?_set_ne (fun z => hw2.2 (by rw [z]))]
    exact R.far k hk hw2.1
/-- whoever reads a box gets what it has -/
theorem Rel.look {par : Np} {s : Ns} {plain : List Int} (G : GoodS par s) (R : Rel par s plain) {i : Nat} (hi : i < plain.length) (hL : ((i / par.wd : Nat) : Int) ∈ s.keys) : lookV par s i = plain.getD i 0 := by
  unfold lookV
  have w1 := G.w1
  have hmod := Nat.div_add_mod i par.wd
  have hmlt := Nat.mod_lt i (show par.wd > 0 by omega)
  have est : (((i / par.wd : Nat) : Int) * (par.wd : Nat)).toNat = par.wd * (i / par.wd) := by
    rw [show ((i / par.wd : Nat) : Int) * (par.wd : Nat) = ((par.wd * (i / par.wd) : Nat) : Int) by rw [Int.natCast_mul]; exact Int.mul_comm _ _]
    rfl
  rw [R.nums hL, List.getD_eq_getElem?_getD, slice_get, if_pos hmlt, est, show par.wd * (i / par.wd) + i % par.wd = i by omega, List.getD_eq_getElem?_getD]
/-! ### settling -/
def settleL (wd : Nat) (ls : List Int) (s : Ns) : Ns := ls.foldl (wbS wd) s
theorem settle_step (wd : Nat) (L : Int) (ls : List Int) (s : Ns) : settleL wd (L :: ls) s = settleL wd ls (wbS wd s L) := rfl
theorem settle_all {par : Np} {plain : List Int} : ∀ (ls : List Int) (s : Ns), GoodS par s → Rel par s plain → (∀ L ∈ ls, L ∈ s.keys) → ls.Nodup → GoodS par (settleL par.wd ls s) ∧ Rel par (settleL par.wd ls s) plain ∧ (settleL par.wd ls s).lines = s.lines ∧
    (settleL par.wd ls s).back = s.back + ls.length ∧ (settleL par.wd ls s).found = s.found ∧ (settleL par.wd ls s).missed = s.missed ∧ ∀ L, L ∈ (settleL par.wd ls s).written ↔ L ∈ s.written ∧ L ∉ ls
  | [], s, G, R, _, _ => ⟨G, R, rfl, rfl, rfl, rfl, fun L => by simp [settleL]⟩
  | L :: ls, s, G, R, hs, nd => by
    have hL := hs L List.mem_cons_self
    obtain ⟨a1, a2, a3, a4, a5, a6, a7⟩ := settle_all ls (wbS par.wd s L) (G.wb hL) (R.wb G hL) (fun l hl => hs l (List.mem_cons_of_mem _ hl)) (List.nodup_cons.mp nd).2
    rw [settle_step]
    refine ⟨a1, a2, a3, ?_, a5, a6, fun l => ?_⟩
    · rw [a4]
      show s.back + 1 + ls.length = s.back + (ls.length + 1)
      omega
    · rw [a7]
      show l ∈ s.written.filter (fun y => y != L) ∧ l ∉ ls ↔ _
      rw [List.mem_filter, List.mem_cons]
      constructor
      · rintro ⟨⟨b1, b2⟩, b3⟩
        exact ⟨b1, fun z => z.elim (fun e => by simp [e] at b2) b3⟩
      · rintro ⟨b1, b2⟩
        exact ⟨⟨b1, by simpa using fun e => b2 (.inl e)⟩, fun z => b2 (.inr z)⟩
def settleS (par : Np) (s : Ns) : Ns := settleL par.wd s.written s
theorem settle_done {par : Np} {s : Ns} {plain : List Int} (G : GoodS par s) (R : Rel par s plain) : GoodS par (settleS par s) ∧ Rel par (settleS par s) plain ∧ (settleS par s).keys = s.keys ∧ (settleS par s).back = s.back + s.written.length ∧ (settleS par s).found = s.found ∧ (settleS par s).missed = s.missed ∧ (settleS par s).written = [] ∧ (settleS par s).far = plain := by
  obtain ⟨a1, a2, a3, a4, a5, a6, a7⟩ := settle_all (plain := plain) s.written s G R (fun L hL => G.wsub L hL) G.wnd
  have hw : (settleL par.wd s.written s).written = [] := List.eq_nil_iff_forall_not_mem.mpr fun L hL => ((a7 L).mp hL).2 ((a7 L).mp hL).1
  refine ⟨a1, a2, by show (settleL par.wd s.written s).lines.map (·.1) = s.lines.map (·.1); rw [a3], a4, a5, a6, hw, ?_⟩
  refine List.ext_getElem? fun k => ?_
  by_cases hk : k < plain.length
  · exact a2.far k hk (by rw [hw]; simp)
  · rw [List.getElem?_eq_none (by have := a2.len; show (settleL par.wd s.written s).far.length ≤ k; omega), List.getElem?_eq_none (by omega)]
end Nl

set_option Elab.async false
set_option linter.all false
set_option maxRecDepth 100000
set_option maxHeartbeats 4000000
namespace Nl
open PySem PySem.Spec PyProof.Rows L2 L2H
def top (i : Nat) : Stmt := PySem.Challenge.pw_nearlines_k12_whole_more_room.main.body.getD i (.Pass ⟨0, 0, 0, 0⟩)
def inClass (st : Stmt) (i : Nat) : Stmt := match st with
  | .ClassDef (body := b) .. => b.getD i (.Pass ⟨0, 0, 0, 0⟩)
  | _ => .Pass ⟨0, 0, 0, 0⟩
theorem sz_ok {n : Nat} (h : Nat.ble n 1000 = true) : n ≤ sizeLine := Nat.le_trans (Nat.le_of_ble_eq_true h) (by decide)
local macro_rules | `(tactic| walk_at "rd") => `(tactic| first
  | refine ⟨_, rfl, ?_⟩
  | refine ⟨_, _, rfl, rfl, ⟨by decide, by decide⟩, ?_⟩
  | refine ⟨_, _, rfl, rfl, (by show (0 : Int) < _; decide), ?_⟩
  | refine ⟨_, _, rfl, rfl, .inr ⟨by decide, by decide⟩, ?_⟩
  | refine ⟨_, _, rfl, rfl, ?_⟩
  | refine ⟨rfl, ?_⟩)
theorem hu64_of {k : Nat} {A : Around} (hr : Room k A) : A.units + 64 < cLine := by
  have := hr.un
  omega

local macro_rules | `(tactic| walk_at "hp") => `(tactic| first
  | exact upd_same
  | assumption
  | (refine (upd_ne ?_).trans ?_; (first | assumption | exact Ne.symm (by assumption)); walk_at "hp"))

structure Txt (K : PySem.W.Frag) (w : World) (mg : Str → Option Value) : Prop extends Top K mg where
  len : mg "len" = none
  range : mg "range" = none
  isinstance : mg "isinstance" = none
  int : mg "int" = none
  list : mg "list" = none
  str : mg "str" = none
  bool : mg "bool" = none
  enumerate : mg "enumerate" = none
  set : mg "set" = none
section
variable {P : Program} {w : World} {K : PySem.W.Frag} {mg : Str → Option Value} {base : Heap}
def spLineOf : Sp := fun vs H Q _ => ∃ b wd : Int, vs = [.int b, .int wd] ∧ 0 < wd ∧ wd < 1073741824 ∧ Q (.int (b / wd)) H
abbrev s_line_of : Stmt := top 14
abbrev N_line_of : List Str := ["box", "width"]
theorem S_line_of : FnScope N_line_of ["box", "width"] (defScope s_line_of) := ⟨rfl, rfl, rfl, by decide +kernel, rfl, by decide +kernel, by decide +kernel⟩

theorem c_line_of (T : Txt K w mg) (D : DefAt K "line_of" s_line_of) : Cal P w K mg base CX0 1 "line_of" spLineOf := by
  have S := S_line_of
  refine cal_of T.toTop D S (fun _ _ _ _ _ _ us hl => match us, hl with | [_, _], _ => rfl) (fun vs H Q E h => ?_) (fun f cdv A outer s H vs Q E hr h => ?_)
  · obtain ⟨b, wd, rfl, _⟩ := h
    rfl
  · obtain ⟨b, wd, rfl, h0, h1, q⟩ := h
    refine ⟨_, (pss_one (ps_ret (pe_op op_fdiv (pv 0) (pv 1)))), ?_⟩
    exact ⟨_, rfl, _, rfl, _, _, rfl, rfl, ⟨h0, h1⟩, q⟩

def spLinesOf (K : PySem.W.Frag) : Sp := fun vs H Q _ => ∃ (a : Addr) (us : List V) (ts : List (Str × Int)) (wd : Int), vs = [.ref a, .int wd] ∧ SqL K H a us ∧ TsAt H us ts ∧ 0 < wd ∧ wd < 1073741824 ∧ us.length ≤ 900 ∧
  ∀ H' p, Same H H' → H p = none → H' p = some (.lst ((linesOf wd ts).map V.int)) → Q (.ref p) H'
abbrev s_lines_of : Stmt := top 15
abbrev N_lines_of : List Str := ["touches", "width", "_", "box"]
theorem S_lines_of : FnScope N_lines_of ["touches", "width"] (defScope s_lines_of) := ⟨rfl, rfl, rfl, by decide +kernel, rfl, by decide +kernel, by decide +kernel⟩

theorem c_lines_of (T : Txt K w mg) (D : DefAt K "lines_of" s_lines_of) (C_line_of : Cal P w K mg base CX0 1 "line_of" spLineOf) : Cal P w K mg base CX0 2 "lines_of" (spLinesOf K) := by
  have S := S_lines_of
  refine cal_of T.toTop D S (fun _ _ _ _ _ _ us hl => match us, hl with | [_, _], _ => rfl) (fun vs H Q E h => ?_) (fun f cdv A outer s H vs Q E hr h => ?_)
  · obtain ⟨a, us, ts, wd, rfl, _⟩ := h
    rfl
  · obtain ⟨a, us, ts, wd, rfl, hS, hT, h0, h1, hl, q⟩ := h
    refine ⟨_, (pss_one (ps_ret (pe_lc (own := [("_", 2), ("box", 3)]) (g := gTup K 2 (gCons (gName 2) (gCons (gName 3) gNil))) (tt := tYes) rfl S.nd (pi_list (pv 0)) (blkOk_by (own := [("_", 2), ("box", 3)]) (N := N_lines_of) (sc := defScope s_lines_of) (by decide +kernel)) (fun _ _ _ _ _ => by exact pg_tup rfl (pgs_cons (pg_name (i := 2) S.nd rfl (Or.inl rfl)) (pgs_cons (pg_name (i := 3) S.nd rfl (Or.inl rfl)) pgs_nil))) (fun _ _ _ _ _ => pts_nil) (fun _ _ _ _ _ => (pe_c C_line_of hr (by decide) rfl (pa_cons (pv 3) (pa_cons (pv 1) pa_nil))))))), ?_⟩
    refine ⟨_, rfl, a, rfl, ⟨_, hS⟩, fun D nD => lc_fi (fun i => ((linesOf wd ts)[i]?).bind fun x => some (V.int x)) nD hS (Nat.lt_of_le_of_lt hl (by decide)) (fun i x H' ex s k1 k0 k h0' => ?_) (fun H' s g => ?_)⟩
    · have hi : i < ts.length := by
        obtain ⟨hi, _⟩ := List.getElem?_eq_some_iff.mp ex
        have := hT.1
        omega
      obtain ⟨q1, e1, e2⟩ := hT.2 i _ (List.getElem?_eq_getElem hi)
      rw [ex] at e1
      cases e1
      refine ⟨q1, _, rfl, SqT.of (s _ _ e2), rfl, _, _, rfl, _, _, rfl, rfl, rfl, _, rfl, _, rfl, _, wd, rfl, h0, h1, ?_⟩
      exact k _ _ (by unfold linesOf; rw [List.getElem?_map, List.getElem?_eq_getElem hi]; rfl) (Same.refl _)
    · rw [range_ints _ _ (by unfold linesOf; rw [List.length_map]; exact hT.1)] at g
      exact q _ _ s nD g

theorem ovs_snoc (ls : List Int) (i : Nat) (x : Int) (e : ls[i]? = some x) : (List.range (i + 1)).map (fun k => ovV (depO (ordL (ls.take k)) (ls.getD k 0))) = (List.range i).map (fun k => ovV (depO (ordL (ls.take k)) (ls.getD k 0))) ++ [ovV (depO (ordL (ls.take i)) x)] := by
  rw [List.range_succ, List.map_append, List.map_singleton, List.getD_eq_getElem?_getD, e]
  rfl
theorem ord_take (ls : List Int) (i : Nat) (x : Int) (e : ls[i]? = some x) : ordL (ls.take (i + 1)) = ordS (ordL (ls.take i)) x := by
  rw [List.take_add_one, e, Option.toList_some, ordL_snoc]
theorem ord_in {o : List Int} {x : Int} (ho : o.Nodup) : ((o.map V.int).eraseIdx (o.idxOf x)) ++ [V.int x] = (ordS o x).map V.int := by
  unfold ordS
  rw [← ho.erase_eq_filter, List.erase_eq_eraseIdx_of_idxOf rfl, List.map_append, List.eraseIdx_eq_take_drop_succ, List.eraseIdx_eq_take_drop_succ, List.map_append, List.map_take, List.map_drop]
  rfl
def spDepths (K : PySem.W.Frag) : Sp := fun vs H Q _ => ∃ (a : Addr) (us : List V) (ts : List (Str × Int)) (wd : Int), vs = [.ref a, .int wd] ∧ SqL K H a us ∧ TsAt H us ts ∧ 0 < wd ∧ wd < 1073741824 ∧ us.length ≤ 900 ∧
  ∀ H' p, Same H H' → H p = none → H' p = some (.lst ((depsL (linesOf wd ts)).map ovV)) → Q (.ref p) H'
abbrev s_depths : Stmt := top 22
abbrev N_depths : List Str := ["touches", "width", "told", "order", "seen", "line", "place"]
theorem S_depths : FnScope N_depths ["touches", "width"] (defScope s_depths) := ⟨rfl, rfl, rfl, by decide +kernel, rfl, by decide +kernel, by decide +kernel⟩

theorem c_depths (T : Txt K w mg) (D : DefAt K "depths" s_depths) (C_lines_of : Cal P w K mg base CX0 2 "lines_of" (spLinesOf K)) : Cal P w K mg base CX0 3 "depths" (spDepths K) := by
  have S := S_depths
  refine cal_of T.toTop D S (fun _ _ _ _ _ _ us hl => match us, hl with | [_, _], _ => rfl) (fun vs H Q E h => ?_) (fun f cdv A outer s H vs Q E hr h => ?_)
  · obtain ⟨a, us, ts, wd, rfl, _⟩ := h
    rfl
  · obtain ⟨a, us, ts, wd, rfl, hS, hT, h0, h1, hl, q⟩ := h
    refine ⟨_, (pss_cons (ps_set (i := 2) S.nd rfl (Or.inl rfl) (pe_lst pa_nil))
  (pss_cons (ps_set (i := 3) S.nd rfl (Or.inl rfl) (pe_lst pa_nil))
  (pss_cons (ps_set (i := 4) S.nd rfl (Or.inl rfl) (pe_callTy0 cr_set0 (by rfl) T.set (by decide +kernel)))
  (pss_cons (ps_for PassesOwn.never rfl (pi_list (pe_c C_lines_of hr (by decide) rfl (pa_cons (pv 0) (pa_cons (pv 1) pa_nil)))) (pg_name (i := 5) S.nd rfl (Or.inl rfl))
  (pss_cons (ps_if (pt_cmpR or_sin (pv 5) (pv 4) (by with_unfolding_all rfl)) (pss_cons (ps_set (i := 6) S.nd rfl (Or.inl rfl) (pe_bm PySem.F.plainAttrs_list PySem.F.slot_list_index PySem.F.type_list_index mt_index (pv 3) (pa_cons (pv 5) pa_nil)))
  (pss_cons (ps_expr (pe_bm PySem.F.plainAttrs_list PySem.F.slot_list_append PySem.F.type_list_append mt_append (pv 2) (pa_cons (pe_op op_sub (pe_op op_sub (pe_callB call_len_seq (by rfl) T.len PySem.boot_len (pa_cons (pv 3) pa_nil)) pe_int) (pv 6)) pa_nil)))
  (pss_one (ps_delL (pv 3) (pv 6))))) (pss_cons (ps_expr (pe_bm PySem.F.plainAttrs_list PySem.F.slot_list_append PySem.F.type_list_append mt_append (pv 2) (pa_cons pe_non pa_nil)))
  (pss_one (ps_expr (pe_sadd (pv 4) (pa_cons (pv 5) pa_nil))))))
  (pss_one (ps_expr (pe_bm PySem.F.plainAttrs_list PySem.F.slot_list_append PySem.F.type_list_append mt_append (pv 3) (pa_cons (pv 5) pa_nil))))))
  (pss_one (ps_ret (pv 2))))))), ?_⟩
    have hll : (linesOf wd ts).length ≤ 900 := by unfold linesOf; rw [List.length_map]; have := hT.1; omega
    generalize hls : linesOf wd ts = ls at hll q
    refine ⟨sz_ok rfl, fun pt nt => ?_⟩
    generalize e1 : upd H pt _ = H1
    have s1 : Same H H1 := e1 ▸ Same.new nt
    have g1 : H1 pt = some (.lst []) := e1 ▸ upd_same
    clear e1
    refine ⟨sz_ok rfl, fun po no => ?_⟩
    have nto : pt ≠ po := ne_of_none g1 no
    have no0 : H po = none := s1.free no
    generalize e2 : upd H1 po _ = H2
    have s2 : Same H1 H2 := e2 ▸ Same.new no
    have g2 : H2 po = some (.lst []) := e2 ▸ upd_same
    have g12 := s2 _ _ g1
    clear e2
    refine ⟨rfl, fun pn nn => ?_⟩
    have ntn : pt ≠ pn := ne_of_none g12 nn
    have non : po ≠ pn := ne_of_none g2 nn
    have nn0 : H pn = none := (s1.trans s2).free nn
    generalize e3 : upd H2 pn _ = H3
    have s3 : Same H2 H3 := e3 ▸ Same.new nn
    have g3 : H3 pn = some (SetO w pn (fun _ => false) 0) := e3 ▸ upd_same
    have g23 := s3 _ _ g2
    have g13 := s3 _ _ g12
    clear e3
    have s03 := (s1.trans s2).trans s3
    refine ⟨_, rfl, _, rfl, a, us, ts, wd, rfl, s03.seq hS, hT.same s03, h0, h1, hl, fun H4 pl s4 npl g4 => ?_⟩
    rw [hls] at g4
    have nlt : pl ≠ pt := (ne_of_none g13 npl).symm
    have nlo : pl ≠ po := (ne_of_none g23 npl).symm
    have nln : pl ≠ pn := (ne_of_none g3 npl).symm
    refine ⟨pl, rfl, ⟨_, SqL.of g4⟩, for_list (xs := ls.map V.int) (fun i σ H' => (∃ v5 v6, σ = [some (.ref a), some (.int wd), some (.ref pt), some (.ref po), some (.ref pn), v5, v6]) ∧ Same H H' ∧ H' pl = some (.lst (ls.map V.int)) ∧
      H' pt = some (.lst ((List.range i).map (fun k => ovV (depO (ordL (ls.take k)) (ls.getD k 0))))) ∧ H' po = some (.lst ((ordL (ls.take i)).map V.int)) ∧ ∃ Sf n, H' pn = some (SetO w pn Sf n) ∧ n ≤ i ∧ ∀ k, Sf k = decide (k ∈ ls.take i))
      ⟨⟨_, _, rfl⟩, s03.trans s4, g4, s4 _ _ g13, s4 _ _ g23, _, _, s4 _ _ g3, Nat.le_refl _, fun k => by simp⟩ (fun i σ H' _ h => SqL.of h.2.2.1) (fun i y σ H' ey h => ?_) (fun σ H' h => ?_)⟩
    · obtain ⟨⟨v5, v6, rfl⟩, t, gl, gt, go, Sf, n, gn, hn, hSf⟩ := h
      obtain ⟨x, rfl, ex⟩ : ∃ x, y = V.int x ∧ ls[i]? = some x := by
        rw [List.getElem?_map] at ey
        obtain ⟨y, e, e2⟩ := Option.map_eq_some_iff.mp ey
        exact ⟨y, e2.symm, e⟩
      clear ey
      have hi : i < ls.length := (List.getElem?_eq_some_iff.mp ex).1
      have hol : (ordL (ls.take i)).length ≤ 900 := by
        have := ordL_len (ls.take i)
        rw [List.length_take] at this
        omega
      have mem' : ∀ k, decide (k ∈ ls.take (i + 1)) = (decide (k ∈ ls.take i) || decide (k = x)) := fun k => by
        rw [List.take_add_one, ex, Option.toList_some]
        simp [List.mem_append]
      refine ⟨_, rfl, _, rfl, x, pn, Sf, n, rfl, rfl, gn, Sf x, rfl, ?_⟩
      have nd := nd_ordL (ls.take i)
      have mo : x ∈ ordL (ls.take i) ↔ x ∈ ls.take i := mem_ordL
      rw [hSf x]
      generalize ho : ordL (ls.take i) = o at go hol nd mo
      by_cases hx : x ∈ ls.take i
      · refine (if_pos (decide_eq_true hx)).mpr ?_
        have hxo := mo.mpr hx
        have hlt : o.idxOf x < o.length := List.idxOf_lt_length_iff.mpr hxo
        have hdep : depO o x = some (o.length - 1 - o.idxOf x) := by unfold depO; rw [if_pos hxo]
        refine ⟨_, rfl, .inl ⟨rfl, _, SqL.of go⟩, _, rfl, po, _, .int x, o.idxOf x, .int x, rfl, rfl, SqL.of go, rfl, ?_, ?_, eqV_int.mpr rfl, ?_, ?_⟩
        · rw [List.all_map]
          exact List.all_eq_true.mpr fun _ _ => rfl
        · rw [List.getElem?_map, List.getElem?_eq_getElem hlt, List.getElem_idxOf]
          rfl
        · intro m z' hm hz
          rw [List.getElem?_map] at hz
          obtain ⟨y, ey, rfl⟩ := Option.map_eq_some_iff.mp hz
          have hne : y ≠ x := fun e => by
            have := List.not_of_lt_findIdx (p := (· == x)) (xs := o) (i := m) hm
            rw [(List.getElem?_eq_some_iff.mp ey).2] at this
            simp [e] at this
          exact Bool.eq_false_iff.mpr fun z => hne (eqV_int.mp z)
        refine ⟨_, rfl, .inl ⟨rfl, _, SqL.of gt⟩, _, rfl, po, _, rfl, .inl (SqL.of go), _, _, rfl, rfl, _, rfl, _, _, rfl, rfl, pt, _, _, rfl, rfl, gt, small1000 (by rw [List.length_map, List.length_range]; omega), ?_⟩
        have ev : V.int ((((o.map V.int).length : Nat) : Int) - 1 - ((o.idxOf x : Nat) : Int)) = ovV (some (o.length - 1 - o.idxOf x)) := by
          rw [List.length_map]
          exact congrArg V.int (by omega)
        -- the place goes, the line goes to the end
        refine ⟨_, rfl, _, rfl, po, _, _, o.idxOf x, rfl, rfl, (by walk_at "hp"), by omega, by omega, ?_, ?_⟩
        · rw [List.length_map]
          exact seqIndex_of (k := ((o.idxOf x : Nat) : Int)) (by omega) (by omega)
        refine ⟨_, rfl, .inl ⟨rfl, _, SqL.of upd_same⟩, _, rfl, po, _, _, rfl, rfl, upd_same, small1000 (by rw [List.length_eraseIdx, List.length_map]; split <;> omega), ?_⟩
        refine ⟨⟨_, _, rfl⟩, ((t.mut nt).mut no0).mut no0, (by walk_at "hp"), ?_, ?_, Sf, n, (by walk_at "hp"), by omega, fun k => ?_⟩
        · rw [ovs_snoc ls i x ex, ho, hdep, ← ev]
          walk_at "hp"
        · rw [ord_take ls i x ex, ho, ← ord_in nd]
          exact upd_same
        · rw [mem' k, hSf k]
          by_cases hk : k = x
          · subst hk
            simp [hx]
          · simp [hk]
      · refine (if_neg (fun z => hx (of_decide_eq_true z))).mpr ?_
        have hxo : x ∉ o := fun z => hx (mo.mp z)
        have hdep : depO o x = none := by unfold depO; rw [if_neg hxo]
        refine ⟨_, rfl, .inl ⟨rfl, _, SqL.of gt⟩, pt, _, _, rfl, rfl, gt, small1000 (by rw [List.length_map, List.length_range]; omega), ?_⟩
        refine ⟨_, rfl, ⟨pn, Sf, n, rfl, (by walk_at "hp")⟩, _, rfl, pn, x, Sf, n, rfl, rfl, (by walk_at "hp"), Nat.lt_of_lt_of_le (by omega : n + 1 < 1000) (by decide), ?_⟩
        refine ⟨_, rfl, .inl ⟨rfl, _, SqL.of (xs := o.map V.int) (by walk_at "hp")⟩, _, rfl, po, _, _, rfl, rfl, (by walk_at "hp"), small1000 (by rw [List.length_map]; omega), ?_⟩
        refine ⟨⟨_, _, rfl⟩, ((t.mut nt).mut nn0).mut no0, (by walk_at "hp"), ?_, ?_, _, _, (by walk_at "hp"), ?_, fun k => ?_⟩
        · rw [ovs_snoc ls i x ex, ho, hdep]
          walk_at "hp"
        · rw [ord_take ls i x ex, ho]
          unfold ordS
          rw [flt_id hxo, List.map_append]
          exact upd_same
        · split <;> omega
        · rw [mem' k, hSf k]
    · obtain ⟨⟨v5, v6, rfl⟩, t, gl, gt, go, _⟩ := h
      refine ⟨_, rfl, q _ _ t nt ?_⟩
      rw [gt, List.length_map]
      unfold depsL
      rw [List.map_map]
      rfl

def keepO (r : Int) : Option Nat → Bool
  | none => true
  | some d => decide (r ≤ (d : Nat))
def missN (os : List (Option Nat)) (r : Int) : Nat := (os.filter (keepO r)).length
def keepV (r : Int) : V → Option V
  | .non => some .non
  | .int d => if r ≤ d then some (.int d) else none
  | _ => none
theorem keep_len (r : Int) : ∀ os : List (Option Nat), ((os.map ovV).filterMap (keepV r)).length = missN os r
  | [] => rfl
  | none :: os => by
    have h := keep_len r os
    show ((V.non :: os.map ovV).filterMap (keepV r)).length = ((none :: os).filter (keepO r)).length
    rw [List.filterMap_cons_some (f := keepV r) (b := V.non) rfl, List.filter_cons_of_pos rfl, List.length_cons, List.length_cons, h]
    rfl
  | some d :: os => by
    have h := keep_len r os
    show ((V.int (d : Nat) :: os.map ovV).filterMap (keepV r)).length = ((some d :: os).filter (keepO r)).length
    by_cases hd : r ≤ (d : Nat)
    · rw [List.filterMap_cons_some (f := keepV r) (a := V.int (d : Nat)) (b := V.int (d : Nat)) (if_pos hd), List.filter_cons_of_pos (p := keepO r) (a := some d) (decide_eq_true hd), List.length_cons, List.length_cons, h]
      rfl
    · rw [List.filterMap_cons_none (f := keepV r) (a := V.int (d : Nat)) (if_neg hd), List.filter_cons_of_neg (p := keepO r) (a := some d) (fun z => hd (of_decide_eq_true z)), h]
      rfl
def spMissedBy (K : PySem.W.Frag) : Sp := fun vs H Q _ => ∃ (a : Addr) (os : List (Option Nat)) (r : Int), vs = [.ref a, .int r] ∧ SqL K H a (os.map ovV) ∧ os.length ≤ 900 ∧ ∀ H', Same H H' → Q (.int (missN os r : Nat)) H'
/-- a turn of the comprehension -/
abbrev s_missed_by : Stmt := top 23
abbrev N_missed_by : List Str := ["told", "room", "depth"]
theorem S_missed_by : FnScope N_missed_by ["told", "room"] (defScope s_missed_by) := ⟨rfl, rfl, rfl, by decide +kernel, rfl, by decide +kernel, by decide +kernel⟩

theorem c_missed_by (T : Txt K w mg) (D : DefAt K "missed_by" s_missed_by) : Cal P w K mg base CX0 1 "missed_by" (spMissedBy K) := by
  have S := S_missed_by
  refine cal_of T.toTop D S (fun _ _ _ _ _ _ us hl => match us, hl with | [_, _], _ => rfl) (fun vs H Q E h => ?_) (fun f cdv A outer s H vs Q E hr h => ?_)
  · obtain ⟨a, os, r, rfl, _⟩ := h
    rfl
  · obtain ⟨a, os, r, rfl, hS, hl, q⟩ := h
    refine ⟨_, (pss_one (ps_ret (pe_callB call_len_seq (by rfl) T.len PySem.boot_len (pa_cons (pe_lc (own := [("depth", 2)]) (g := gName 2)  rfl S.nd (pi_list (pv 0)) (blkOk_by (own := [("depth", 2)]) (N := N_missed_by) (sc := defScope s_missed_by) (by decide +kernel)) (fun _ _ _ _ _ => pg_name (i := 2) S.nd rfl (Or.inl rfl)) (fun _ _ _ _ _ => pts_one (PW.pt (pw_or (pt_cmpR op_isN (pv 2) pe_non (nomark _)) (pw_or1 (pt_cmpR op_ge (pv 2) (pv 1) (nomark _)))))) (fun _ _ _ _ _ => (pv 2))) pa_nil)))), ?_⟩
    refine ⟨_, rfl, a, rfl, ⟨_, hS⟩, fun D nD => lc_fl (keepV r) nD hS (small1000 (by rw [List.length_map]; omega)) (fun i x H' ex s k1 k0 h1 h0 => ?_) (fun H' s g => ?_)⟩
    · obtain ⟨o, _, rfl⟩ : ∃ o, os[i]? = some o ∧ ovV o = x := by
        rw [List.getElem?_map] at ex
        obtain ⟨o, e, e2⟩ := Option.map_eq_some_iff.mp ex
        exact ⟨o, e, e2⟩
      cases o with
      | none => exact ⟨rfl, _, rfl, rfl, true, rfl, _, rfl, h1 _ _ rfl (Same.refl _)⟩
      | some d =>
        refine ⟨rfl, _, rfl, rfl, false, rfl, ?_⟩
        by_cases hd : r ≤ (d : Nat)
        · exact ⟨_, rfl, _, rfl, _, _, rfl, rfl, true, bl_of (decide_eq_true hd), _, rfl, h1 _ _ (if_pos hd) (Same.refl _)⟩
        · exact ⟨_, rfl, _, rfl, _, _, rfl, rfl, false, bl_of (decide_eq_false hd), h0 _ (if_neg hd) (Same.refl _)⟩
    · refine ⟨D, _, rfl, .inl (SqL.of g), ?_⟩
      rw [keep_len]
      exact q _ (s.trans (Same.refl _))

abbrev s_is_any_whole : Stmt := top 10
abbrev N_is_any_whole : List Str := ["thing"]
theorem S_is_any_whole : FnScope N_is_any_whole ["thing"] (defScope s_is_any_whole) := ⟨rfl, rfl, rfl, by decide +kernel, rfl, by decide +kernel, by decide +kernel⟩

theorem c_any_whole (T : Txt K w mg) (D : DefAt K "is_any_whole" s_is_any_whole) : Cal P w K mg base CX0 1 "is_any_whole" (spWhole K) := by
  have S := S_is_any_whole
  refine cal_of T.toTop D S (fun _ _ _ _ _ _ us hl => match us, hl with | [_], _ => rfl) (fun vs H Q E h => ?_) (fun f cdv A outer s H vs Q E hr h => ?_)
  · obtain ⟨v, n, rfl, _⟩ := h
    rfl
  · obtain ⟨v, n, rfl, ty, k1, k2, q⟩ := h
    refine ⟨_, (pss_one (ps_ret (pe_and (pe_callB call_isi (by rfl) T.isinstance (by decide +kernel) (pa_cons (pv 0) (pa_cons ((pe_bltn (v := .ty "int") (u := .type "int") rfl T.int (by decide +kernel) rfl)) pa_nil))) (pe_one (pe_not (pe_callB call_isi (by rfl) T.isinstance (by decide +kernel) (pa_cons (pv 0) (pa_cons ((pe_bltn (v := .ty "bool") (u := .type "bool") rfl T.bool (by decide +kernel) rfl)) pa_nil)))))))), ?_⟩
    refine ⟨_, rfl, _, _, _, _, _, rfl, .ty _, ty, kit_ty k1, _, rfl, ?_⟩
    refine ite2 (fun h => ?_) (fun h => ?_)
    · refine ⟨_, rfl, _, _, _, _, _, rfl, .ty _, ty, kit_ty k2, _, rfl, ?_⟩
      have h := of_decide_eq_true h
      have e : (!decide (n = "bool")) = decide (n = "int") := by
        rcases h with h | h <;> subst h <;> rfl
      show Q (V.bl (!decide (n = "bool"))) H
      rw [e]
      exact q
    · have e : decide (n = "int") = false := decide_eq_false fun z => h (decide_eq_true (.inl z))
      rw [e] at q
      exact q

abbrev s_is_whole : Stmt := top 9
abbrev N_is_whole : List Str := ["thing", "low", "high"]
theorem S_is_whole : FnScope N_is_whole ["thing", "low", "high"] (defScope s_is_whole) := ⟨rfl, rfl, rfl, by decide +kernel, rfl, by decide +kernel, by decide +kernel⟩

/-- is_whole(thing, low, high) -/
theorem c_is_wholeV (T : Txt K w mg) (D : DefAt K "is_whole" s_is_whole) (C_is_any_whole : Cal P w K mg base CX0 1 "is_any_whole" (spWhole K)) : Cal P w K mg base CX0 2 "is_whole" (spIsWholeV K) := by
  have S := S_is_whole
  refine cal_of T.toTop D S (fun _ _ _ _ _ _ us hl => match us, hl with | [_, _, _], _ => rfl) (fun vs H Q E h => ?_) (fun f cdv A outer s H vs Q E hr h => ?_)
  · obtain ⟨v, lo, hi, rfl, _⟩ := h
    rfl
  · obtain ⟨v, lo, hi, rfl, ⟨n, ty, k1, k2, hn, hn2⟩, q⟩ := h
    refine ⟨_, (pss_one (ps_ret (pe_and (pe_c C_is_any_whole hr (by decide) rfl (pa_cons (pv 0) pa_nil)) (pe_one (pe_chain op_le op_le (pv 1) (pv 0) (pv 2)))))), ?_⟩
    refine ⟨_, rfl, v, n, rfl, ty, k1, k2, _, rfl, ?_⟩
    by_cases e : n = "int"
    · obtain ⟨i, rfl⟩ := hn e
      refine (if_pos (decide_eq_true e)).mpr ?_
      refine ⟨_, rfl, _, rfl, _, _, rfl, rfl, _, rfl, ?_⟩
      by_cases h1 : lo ≤ i
      · refine (if_pos (decide_eq_true h1)).mpr ⟨_, rfl, _, _, rfl, rfl, ?_⟩
        have e : wholeV (.int i) lo hi = decide (i ≤ hi) := by show (decide (lo ≤ i) && decide (i ≤ hi)) = _; rw [decide_eq_true h1, Bool.true_and]
        rw [e] at q
        exact q
      · refine (if_neg (fun z => h1 (of_decide_eq_true z))).mpr ?_
        have e : wholeV (.int i) lo hi = false := by show (decide (lo ≤ i) && decide (i ≤ hi)) = _; rw [decide_eq_false h1, Bool.false_and]
        rw [e] at q
        exact q
    · refine (if_neg (fun z => e (of_decide_eq_true z))).mpr ?_
      have ev : wholeV v lo hi = false := by
        cases v with
        | int i => exact absurd (hn2 i rfl) e
        | _ => rfl
      rw [ev] at q
      exact q
theorem c_is_whole (T : Txt K w mg) (D : DefAt K "is_whole" s_is_whole) (D2 : DefAt K "is_any_whole" s_is_any_whole) : Cal P w K mg base CX0 2 "is_whole" (spIsWhole K) :=
  (c_is_wholeV T D (c_any_whole T D2)).imp fun vs H Q E h => by
    obtain ⟨v, d, lo, hi, e, hd, q⟩ := h
    exact ⟨v, lo, hi, e, any_dp hd, by rw [whole_dp hd]; exact q⟩

def txtOf (n : Int) : Str := Str.ofString (toString n)
theorem txt_len {n : Int} (h0 : 0 ≤ n) (h1 : n < 1000000) : (txtOf n).length ≤ 6 := by
  have e : n = ((n.toNat : Nat) : Int) := (Int.toNat_of_nonneg h0).symm
  unfold txtOf
  rw [e]
  have q : (TL.tl (Str.ofString (toString ((n.toNat : Nat) : Int)))).length ≤ 6 := by
    rw [TL.tl_num]
    exact TL.numL_len (by decide) (by omega)
  exact q
theorem log_small {n : Int} (h0 : 0 ≤ n) (h1 : n < 1000000) : n.natAbs.log2 < 1920 := by
  have h : n.natAbs < 2 ^ 20 := by omega
  rcases Nat.eq_zero_or_pos n.natAbs with e | e
  · rw [e]; decide
  · have := (Nat.log2_lt (by omega)).mpr h
    omega

theorem app_sz {a b : Str} {n m k : Nat} (ha : a.length ≤ n) (hb : b.length ≤ m) (h : n + m ≤ k) : (a ++ b).length ≤ k := by
  have e : (a ++ b).length = a.length + b.length := by
    show (a.cps ++ b.cps).size = a.cps.size + b.cps.size
    exact Array.size_append
  omega

def goodB (ds : List PyData) : Bool := decide (1 ≤ ds.length) && (decide (ds.length ≤ 200) && ds.all fun d => wholeIn d 0 999999)
def spCheckedB (K : PySem.W.Frag) (CB : Addr) : Sp := fun vs H Q E => ∃ (g : Addr) (xs : List V) (ds : List PyData), vs = [.ref g] ∧ SqL K H g xs ∧ DpAll K H xs ds ∧ xs.length ≤ 1000 ∧
  (goodB ds = true → ∀ H' p, Same H H' → H p = none → H' p = some (.lst xs) → Q (.ref p) H') ∧ (goodB ds = false → ∀ H', Same H H' → E (.ref CB) none H')
abbrev s_checked_boxes : Stmt := top 12
abbrev N_checked_boxes : List Str := ["boxes", "box", "number"]
theorem S_checked_boxes : FnScope N_checked_boxes ["boxes"] (defScope s_checked_boxes) := ⟨rfl, rfl, rfl, by decide +kernel, rfl, by decide +kernel, by decide +kernel⟩

theorem c_checked_boxes {CB : Addr} (T : Txt K w mg) (X_BadBoxes : ExcT K mg "BadBoxes" CB) (gMost : ∃ t, mg "MOST" = some (.int 200 t)) (gRound : ∃ t, mg "ROUND" = some (.int 1000000 t)) (D : DefAt K "checked_boxes" s_checked_boxes) (C_is_whole : Cal P w K mg base CX0 2 "is_whole" (spIsWhole K)) : Cal P w K mg base (L2.CX P w) 3 "checked_boxes" (spCheckedB K CB) := by
  have S := S_checked_boxes
  obtain ⟨tM, gMost⟩ := gMost
  obtain ⟨tR, gRound⟩ := gRound
  refine cal_ofX T.toTop D S (fun _ _ _ _ _ _ us hl => match us, hl with | [_], _ => rfl) (fun vs H Q E h => ?_) (fun f cdv A outer s H vs Q E hr h => ?_)
  · obtain ⟨g, xs, ds, rfl, _⟩ := h
    rfl
  · obtain ⟨g, xs, ds, rfl, hS, ha, hz, hq, he⟩ := h
    have hl := dpA_len ha
    refine ⟨_, (pss_cons (ps_if (pt_not (pt_chain op_le op_le pe_int (pe_callB call_len_seq (by rfl) T.len PySem.boot_len (pa_cons (pv 0) pa_nil)) ((pe_glob (v := .int 200) rfl gMost ⟨_, rfl⟩)))) (pss_one (ps_raise rfl (takes_of rfl rfl rfl rfl) (SkE.pmk_own1 PySem.F.excBase_ValueError X_BadBoxes.x X_BadBoxes.g X_BadBoxes.k (raises_own X_BadBoxes.b X_BadBoxes.t) rfl (pe_joined (.cons pe_str (.cons (pe_fmt ((pe_glob (v := .int 200) rfl gMost ⟨_, rfl⟩))) (.cons pe_str (.cons (pe_fmt (pe_callB call_len_seq (by rfl) T.len PySem.boot_len (pa_cons (pv 0) pa_nil))) .nil)))))))) pss_nil)
  (pss_cons (ps_for (g := gTup K 2 (gCons (gName 1) (gCons (gName 2) gNil))) (passes_of rfl) rfl (pi_enum (by rfl) T.enumerate (pa_cons (pv 0) pa_nil)) (by exact (pg_tup rfl (pgs_cons (pg_name (i := 1) S.nd rfl (Or.inl rfl)) (pgs_cons (pg_name (i := 2) S.nd rfl (Or.inl rfl)) pgs_nil))))
  (pss_one (ps_if (pt_not (pt_val (pe_c C_is_whole hr (by decide) rfl (pa_cons (pv 2) (pa_cons pe_int (pa_cons (pe_op op_sub ((pe_glob (v := .int 1000000) rfl gRound ⟨_, rfl⟩)) pe_int) pa_nil)))))) (pss_one (ps_raise rfl (takes_of rfl rfl rfl rfl) (SkE.pmk_own1 PySem.F.excBase_ValueError X_BadBoxes.x X_BadBoxes.g X_BadBoxes.k (raises_own X_BadBoxes.b X_BadBoxes.t) rfl (pe_joined (.cons pe_str (.cons (pe_fmt (pv 1)) (.cons pe_str (.cons (pe_fmt (pe_op op_sub ((pe_glob (v := .int 1000000) rfl gRound ⟨_, rfl⟩)) pe_int)) .nil)))))))) pss_nil)))
  (pss_one (ps_ret (pe_callTy call_list_of (by rfl) T.list (by decide +kernel) (pa_cons (pv 0) pa_nil)))))), ?_⟩
    have out : ∀ H', Same H H' → goodB ds = false → E (.ref CB) none H' := fun H' s hb => he hb H' s
    refine ⟨_, rfl, g, xs, rfl, .inl hS, _, _, rfl, rfl, ?_⟩
    by_cases h1 : 1 ≤ xs.length
    case neg =>
      have hb : goodB ds = false := by
        unfold goodB
        rw [decide_eq_false (by omega : ¬ 1 ≤ ds.length), Bool.false_and]
      refine ⟨false, bl_of (decide_eq_false (by omega)), _, rfl, ?_⟩
      refine ⟨_, rfl, by decide +kernel, ?_⟩
      refine .inr ⟨200, rfl, by decide, _, rfl, by decide +kernel, ?_⟩
      refine ⟨_, rfl, by decide +kernel, _, rfl, g, xs, rfl, .inl hS, .inr ⟨_, rfl, log_small (by omega) (by omega), _, rfl, ?_, he hb _ (Same.refl _)⟩⟩
      exact app_sz (n := 100) (m := 6) (by decide +kernel) (txt_len (by omega) (by omega)) (by decide)
    refine ⟨true, bl_of (decide_eq_true (by omega)), _, _, rfl, rfl, ?_⟩
    by_cases h2 : xs.length ≤ 200
    case neg =>
      have hb : goodB ds = false := by
        unfold goodB
        rw [decide_eq_false (by omega : ¬ ds.length ≤ 200), Bool.false_and, Bool.and_false]
      refine ⟨false, bl_of (decide_eq_false (by omega)), ?_⟩
      refine ⟨_, rfl, by decide +kernel, ?_⟩
      refine .inr ⟨200, rfl, by decide, _, rfl, by decide +kernel, ?_⟩
      refine ⟨_, rfl, by decide +kernel, _, rfl, g, xs, rfl, .inl hS, .inr ⟨_, rfl, log_small (by omega) (by omega), _, rfl, ?_, he hb _ (Same.refl _)⟩⟩
      exact app_sz (n := 100) (m := 6) (by decide +kernel) (txt_len (by omega) (by omega)) (by decide)
    refine ⟨true, bl_of (decide_eq_true (by omega)), ?_⟩
    refine ⟨_, rfl, g, xs, rfl, hS, for_gen xs.length (fun i σ H' => Same H H' ∧ (∃ v1 v2, σ = [some (.ref g), v1, v2]) ∧ ∀ d ∈ ds.take i, wholeIn d 0 999999 = true) ⟨Same.refl _, ⟨_, _, rfl⟩, fun d h => by simp at h⟩ (fun i σ H' hi h => ?_) (fun σ H' h => ⟨xs, h.1.seq hS, Nat.le_refl _⟩) (fun i σ H' y H'' hi h hy => ?_) (fun σ H' h => ?_)⟩
    · exact ⟨xs, xs[i], h.1.seq hS, List.getElem?_eq_getElem hi⟩
    · obtain ⟨s1, ⟨v1, v2, rfl⟩, hall⟩ := h
      obtain ⟨T', x, rfl, hn, rfl, hx⟩ := hy
      have hx := hx _ (s1.seq hS)
      obtain ⟨d, ed, hd⟩ := dpA_get ha hx
      have s2 := s1.more (o := .tup [.int (i : Nat), x]) hn
      refine ⟨T', _, rfl, SqT.of upd_same, rfl, _, _, rfl, _, _, rfl, rfl, ?_⟩
      refine ⟨_, rfl, _, _, rfl, rfl, x, d, 0, _, rfl, dp_same s2 _ _ hd, ?_⟩
      rw [show ((1000000 : Int) - 1) = 999999 from rfl]
      refine ⟨_, rfl, ?_⟩
      cases hf : wholeIn d 0 999999 with
      | true =>
        refine ⟨s2, ⟨_, _, rfl⟩, fun d' hd' => ?_⟩
        rw [List.take_add_one, ed] at hd'
        rcases List.mem_append.mp hd' with h | h
        · exact hall d' h
        · rw [Option.toList_some, List.mem_singleton] at h
          rw [h]
          exact hf
      | false =>
        have hb : goodB ds = false := by
          unfold goodB
          rw [Bool.and_eq_false_iff, Bool.and_eq_false_iff]
          exact .inr (.inr (Bool.eq_false_iff.mpr fun h => by
            have := List.all_eq_true.mp h d (List.mem_of_getElem? ed)
            rw [hf] at this
            cases this))
        refine ⟨_, rfl, by decide +kernel, ?_⟩
        refine ⟨_, rfl, .inr ⟨(i : Nat), rfl, log_small (by omega) (by omega), _, rfl, ?_, ?_⟩⟩
        · exact app_sz (n := 4) (m := 6) (by decide +kernel) (txt_len (by omega) (by omega)) (by decide)
        · refine ⟨_, rfl, app_sz (n := 10) (m := 40) (app_sz (n := 4) (m := 6) (by decide +kernel) (txt_len (by omega) (by omega)) (by decide)) (by decide +kernel) (by decide), ?_⟩
          refine ⟨_, _, rfl, rfl, .inr ⟨_, rfl, log_small (by decide) (by decide), _, rfl, ?_, he hb _ s2⟩⟩
          exact app_sz (n := 50) (m := 6) (app_sz (n := 10) (m := 40) (app_sz (n := 4) (m := 6) (by decide +kernel) (txt_len (by omega) (by omega)) (by decide)) (by decide +kernel) (by decide)) (by decide +kernel) (by decide)
    · obtain ⟨s1, ⟨v1, v2, rfl⟩, hall⟩ := h
      have hg : goodB ds = true := by
        unfold goodB
        rw [decide_eq_true (by omega : 1 ≤ ds.length), decide_eq_true (by omega : ds.length ≤ 200), Bool.true_and, Bool.true_and]
        rw [hl, List.take_length] at hall
        exact List.all_eq_true.mpr hall
      exact ⟨_, rfl, g, xs, rfl, .inl (s1.seq hS), fun l np => hq hg _ l (s1.more np) (s1.free np) upd_same⟩

/-- what a class of near lines has -/
structure NCls (K : PySem.W.Frag) (C : Addr) : Prop where
  cl : Cls K C
  nFar : NoAttr K C "far"
  nFound : NoAttr K C "found"
  nMissed : NoAttr K C "missed"
  nBack : NoAttr K C "back"
  nRoom : NoAttr K C "_room"
  nWidth : NoAttr K C "_width"
  nRule : NoAttr K C "_rule"
  nLines : NoAttr K C "_lines"
  nWritten : NoAttr K C "_written"
def spWriteBack (C : Addr) : Sp := fun vs H Q _ => ∃ (a : Na) (par : Np) (s : Ns) (L : Int), vs = [.ref a.p, .int L] ∧ NearAt C H a par s ∧ GoodS par s ∧ L ∈ s.keys ∧ L ∈ s.written ∧ s.far.length ≤ 300 ∧ par.wd ≤ 300 ∧ par.room ≤ 300 ∧
  ∀ H', NearAt C H' a par (wbS par.wd s L) → Step H a s H' (wbS par.wd s L) → Q .non H'
theorem key_get {s : Ns} {L : Int} (h : L ∈ s.keys) : ∃ b ns, lkP s.lines L = some (b, ns) ∧ (L, (b, ns)) ∈ s.lines := by
  have := lk_some (ps := s.lines) (l := L)
  rw [decide_eq_true (show L ∈ s.lines.map (·.1) from h)] at this
  obtain ⟨x, hx⟩ := Option.isSome_iff_exists.mp this
  exact ⟨x.1, x.2, hx, lk_mem hx⟩
theorem dget_ln {C : Addr} {H : Hp} {a : Na} {par : Np} {s : Ns} (h : NearAt C H a par s) {L : Int} {b : Addr} {ns : List Int} (e : lkP s.lines L = some (b, ns)) : DGet H a.dl (.int L) (some (.ref b)) := by
  have := DGet.k (k := Sum.inl L) h.dl
  rw [dk_val, e] at this
  exact this
theorem blit_map (far ns : List Int) (st hi : Int) (h0 : 0 ≤ st) (e : hi = st + (ns.length : Nat)) : (far.map V.int).take st.toNat ++ ns.map V.int ++ (far.map V.int).drop hi.toNat = (blit far st.toNat ns).map V.int := by
  unfold blit
  rw [List.map_append, List.map_append, List.map_take, List.map_drop, show hi.toNat = st.toNat + ns.length by omega]
abbrev s_Near__write_back : Stmt := inClass (top 19) 9
abbrev N_Near__write_back : List Str := ["self", "line", "numbers", "start"]
theorem S_Near__write_back : FnScope N_Near__write_back ["self", "line"] (defScope s_Near__write_back) := ⟨rfl, rfl, rfl, by decide +kernel, rfl, by decide +kernel, by decide +kernel⟩

theorem m_write_back {C : Addr} (T : Txt K w mg) (W : NCls K C) (D : MethAt K C "_write_back" "Near._write_back" s_Near__write_back) : C8.Met P w K mg base 1 C "_write_back" (spWriteBack C) [] := by
  have S := S_Near__write_back
  refine met_of W.cl D S (fun _ _ _ _ _ _ us hl => match us, hl with | [_, _], _ => rfl) (fun vs H Q E h => ?_) (fun f cdv A outer s H vs Q E hr h => ?_)
  · obtain ⟨a, par, s, L, rfl, _⟩ := h
    rfl
  · obtain ⟨a, par, s, L, rfl, N, G, hk, hw, hf, hwd, hro, q⟩ := h
    refine ⟨_, (pss_cons (ps_set (i := 2) S.nd rfl (Or.inl rfl) (pe_dget (hu_of hr) (pe_fld (pv 0) rfl) (pv 1) (fun _ _ => rfl)))
  (pss_cons (ps_set (i := 3) S.nd rfl (Or.inl rfl) (pe_op op_mul (pv 1) (pe_fld (pv 0) rfl)))
  (pss_cons (ps_slput (pe_fld (pv 0) rfl) (pv 3) (pe_op op_add (pv 3) (pe_callB call_len_seq (by rfl) T.len PySem.boot_len (pa_cons (pv 2) pa_nil))) (pv 2) rfl)
  (pss_cons (ps_fldaug (pv 0) pe_int in_add)
  (pss_one (ps_ddel (pe_fld (pv 0) rfl) (pv 1))))))), ?_⟩
    obtain ⟨dx, hi⟩ := N.ins
    obtain ⟨b, ns, hlk, hm⟩ := key_get hk
    obtain ⟨hb, _⟩ := N.lns _ hm
    obtain ⟨nbp, nbf, nbl, nbw⟩ := N.lnd hm
    obtain ⟨pf, pl, pw, fl, fw, lw⟩ := N.dist
    obtain ⟨h0, h1, h2⟩ := G.nums _ hm
    have w1 := G.w1
    simp only at h0 h1 h2 hb nbp nbf nbl nbw
    have hst : 0 ≤ L * (par.wd : Nat) := Int.mul_nonneg h0 (by omega)
    have hL : L ≤ L * (par.wd : Nat) := by
      have := Int.mul_le_mul_of_nonneg_left (show (1 : Int) ≤ (par.wd : Nat) by omega) h0
      omega
    have enum : numsOf s L = ns := by unfold numsOf; rw [hlk]
    refine ⟨_, rfl, a.p, C, dx, _, _, rfl, hi, W.cl, W.nLines, rfl, _, rfl, a.dl, _, rfl, dget_ln N hlk, ?_⟩
    refine ⟨_, rfl, _, rfl, a.p, C, dx, _, _, rfl, hi, W.cl, W.nWidth, rfl, _, _, rfl, rfl, .inl ⟨by omega, by omega⟩, ?_⟩
    refine ⟨_, rfl, _, rfl, a.p, C, dx, _, _, rfl, hi, W.cl, W.nFar, rfl, _, rfl, _, rfl, _, rfl, b, _, rfl, .inl (SqL.of hb), _, _, rfl, rfl, ?_⟩
    refine ⟨a.af, b, _, _, _, _, rfl, rfl, rfl, rfl, N.far, hb, Ne.symm nbf, hst, by rw [List.length_map]; omega, by rw [List.length_map, List.length_map]; omega, Nat.le_trans (by rw [List.length_map, List.length_map]; show _ ≤ 1000; omega) (by decide), ?_⟩
    rw [List.length_map, blit_map s.far ns _ _ hst rfl]
    refine ⟨_, rfl, a.p, C, dx, nfs a par s, .int (s.back : Nat), rfl, (by walk_at "hp"), W.cl, W.nBack, rfl, _, _, rfl, rfl, dx, nfs a par s, (by walk_at "hp"), (by show 9 < 1000; decide), ?_⟩
    refine ⟨_, rfl, a.p, C, dx, _, _, rfl, upd_same, W.cl, W.nWritten, rfl, _, rfl, a.dw, _, Sum.inl L, rfl, (by have := N.dw; walk_at "hp"), rfl, by rw [dk_val, Option.isSome_map, lk_some, tk_keys, decide_eq_true hw], ?_⟩
    rw [dk_drop, tk_drop]
    have hN : wbS par.wd s L = { s with far := blit s.far (L * par.wd).toNat ns, back := s.back + 1, written := s.written.filter fun y => y != L } := by unfold wbS; rw [enum]
    refine q _ ⟨⟨dx, ?_⟩, ?_, ?_, ?_, N.ne, fun x hx => ?_, N.nd⟩ (Step.own (fun q' o e n => ?_) fun q' o => o)
    · rw [hN]
      walk_at "hp"
    · rw [hN]
      walk_at "hp"
    · have := N.dl
      walk_at "hp"
    · rw [hN]
      exact upd_same
    · obtain ⟨k1, k2⟩ := N.lns x hx
      obtain ⟨m1, m2, m3, m4⟩ := N.lnd hx
      exact ⟨by walk_at "hp", k2⟩
    · obtain ⟨m1, m2, m3, m4, m5⟩ := nown n
      walk_at "hp"
theorem near_drop {C : Addr} {H H' : Hp} {a : Na} {par : Np} {s s1 : Ns} {L : Int} (N : NearAt C H a par s) (hp : ∃ dx, H' a.p = some (.ins C dx (nfs a par s1))) (hf : H' a.af = some (.lst (s1.far.map V.int))) (hw : H' a.dw = some (.dK (dk gT (tkP s1.written))))
    (hl : H' a.dl = some (.dK (dk lnV (dropP s.lines L)))) (k : ∀ x ∈ s.lines, H' x.2.1 = H x.2.1) : NearAt C H' a par { s1 with lines := dropP s.lines L } :=
  ⟨hp, hf, hl, hw, N.ne, fun x hx => by
    have hx := (drop_sub hx).1
    rw [k x hx]
    exact N.lns x hx, N.nd.sublist (List.Sublist.map _ List.filter_sublist)⟩
def spLetGo (C : Addr) : Sp := fun vs H Q _ => ∃ (a : Na) (par : Np) (s : Ns) (L : Int), vs = [.ref a.p, .int L] ∧ NearAt C H a par s ∧ GoodS par s ∧ L ∈ s.keys ∧ s.far.length ≤ 300 ∧ par.wd ≤ 300 ∧ par.room ≤ 300 ∧
  ∀ H', NearAt C H' a par (goS par.wd s L) → Step H a s H' (goS par.wd s L) → Q .non H'
abbrev s_Near__let_go : Stmt := inClass (top 19) 8
abbrev N_Near__let_go : List Str := ["self", "line"]
theorem S_Near__let_go : FnScope N_Near__let_go ["self", "line"] (defScope s_Near__let_go) := ⟨rfl, rfl, rfl, by decide +kernel, rfl, by decide +kernel, by decide +kernel⟩

theorem m_let_go {C : Addr} (T : Txt K w mg) (W : NCls K C) (D : MethAt K C "_let_go" "Near._let_go" s_Near__let_go) (M_write_back : C8.Met P w K mg base 1 C "_write_back" (spWriteBack C) []) : C8.Met P w K mg base 2 C "_let_go" (spLetGo C) [] := by
  have S := S_Near__let_go
  refine met_of W.cl D S (fun _ _ _ _ _ _ us hl => match us, hl with | [_, _], _ => rfl) (fun vs H Q E h => ?_) (fun f cdv A outer s H vs Q E hr h => ?_)
  · obtain ⟨a, par, s, L, rfl, _⟩ := h
    rfl
  · obtain ⟨a, par, s, L, rfl, N, G, hk, hf, hwd, hro, q⟩ := h
    refine ⟨_, (pss_cons (ps_if (pt_cmp (pc_din (hu_of hr) (pv 1) (pe_fld (pv 0) rfl))) (pss_one (ps_expr (C8.pe_mt M_write_back hr (by decide) (pv 0) (pa_cons (pv 1) pa_nil)))) pss_nil)
  (pss_one (ps_ddel (pe_fld (pv 0) rfl) (pv 1)))), ?_⟩
    obtain ⟨dx, hi⟩ := N.ins
    have tail : ∀ (H1 : Hp) (s1 : Ns), NearAt C H1 a par s1 → s1.lines = s.lines → Step H a s H1 s1 → goS par.wd s L = { s1 with lines := dropP s.lines L } →
        (∃ d dx1, d = a.p ∧ H1 d = some (.ins C dx1 (nfs a par s1))) ∧ NearAt C (upd H1 a.dl (.dK (dropK (dk lnV s1.lines) (Sum.inl L)))) a par (goS par.wd s L) ∧ Step H a s (upd H1 a.dl (.dK (dropK (dk lnV s1.lines) (Sum.inl L)))) (goS par.wd s L) := fun H1 s1 N1 hl1 st e => by
      obtain ⟨dx1, hi1⟩ := N1.ins
      obtain ⟨pf, pl, pw, fl, fw, lw⟩ := N1.dist
      refine ⟨⟨_, dx1, rfl, hi1⟩, ?_, ?_⟩
      · rw [e, ← hl1]
        rw [dk_drop]
        refine near_drop N1 ⟨dx1, by walk_at "hp"⟩ (by have := N1.far; walk_at "hp") (by have := N1.dw; walk_at "hp") upd_same fun x hx => ?_
        exact upd_ne (N1.lnd hx).2.2.1
      · refine st.trans (Step.own (fun q' o e' n => ?_) (own_sub fun x hx => ?_))
        · obtain ⟨m1, m2, m3, m4, m5⟩ := nown n
          walk_at "hp"
        · rw [e] at hx
          exact ⟨x, by rw [hl1]; exact (drop_sub hx).1, rfl⟩
    refine ⟨_, rfl, _, rfl, a.p, C, dx, _, _, rfl, hi, W.cl, W.nWritten, rfl, a.dw, _, rfl, DGet.k (k := Sum.inl L) N.dw, ?_⟩
    rw [dk_val, Option.isSome_map, lk_some, tk_keys]
    by_cases hw : L ∈ s.written
    · refine ⟨true, bl_of (decide_eq_true hw), ?_⟩
      refine ⟨_, rfl, a.p, dx, _, rfl, hi, rfl, _, rfl, a, par, s, L, rfl, N, G, hk, hw, hf, hwd, hro, fun H1 N1 st1 => ?_⟩
      obtain ⟨⟨_, dx1, rfl, hi1⟩, r1, r2⟩ := tail H1 _ N1 rfl st1 (by rw [go_cases, if_pos hw])
      refine ⟨_, rfl, a.p, C, dx1, _, _, rfl, hi1, W.cl, W.nLines, rfl, _, rfl, a.dl, _, Sum.inl L, rfl, N1.dl, rfl, ?_, q _ r1 r2⟩
      rw [dk_val, Option.isSome_map, lk_some]
      exact decide_eq_true hk
    · refine ⟨false, bl_of (decide_eq_false hw), ?_⟩
      obtain ⟨_, r1, r2⟩ := tail H s N rfl (Step.of_same (Same.refl _)) (by rw [go_cases, if_neg hw])
      refine ⟨_, rfl, a.p, C, dx, _, _, rfl, hi, W.cl, W.nLines, rfl, _, rfl, a.dl, _, Sum.inl L, rfl, N.dl, rfl, ?_, q _ r1 r2⟩
      rw [dk_val, Option.isSome_map, lk_some]
      exact decide_eq_true hk
theorem keys_list (s : Ns) : (dk lnV s.lines).map (fun kv => kV kv.1) = s.keys.map V.int := by
  unfold dk Ns.keys
  rw [List.map_map, List.map_map]
  rfl
def spHeld (C : Addr) : Sp := fun vs H Q _ => ∃ (a : Na) (par : Np) (s : Ns), vs = [.ref a.p] ∧ NearAt C H a par s ∧ ∀ H' p, Same H H' → H p = none → H' p = some (.lst (s.keys.map V.int)) → Q (.ref p) H'
abbrev s_Near_held : Stmt := inClass (top 19) 3
abbrev N_Near_held : List Str := ["self"]
theorem S_Near_held : FnScope N_Near_held ["self"] (defScope s_Near_held) := ⟨rfl, rfl, rfl, by decide +kernel, rfl, by decide +kernel, by decide +kernel⟩

theorem m_held {C : Addr} (T : Txt K w mg) (W : NCls K C) (D : MethAt K C "held" "Near.held" s_Near_held) : C8.Met P w K mg base 1 C "held" (spHeld C) [] := by
  have S := S_Near_held
  refine met_of W.cl D S (fun _ _ _ _ _ _ us hl => match us, hl with | [_], _ => rfl) (fun vs H Q E h => ?_) (fun f cdv A outer s H vs Q E hr h => ?_)
  · obtain ⟨a, par, s, rfl, _⟩ := h
    rfl
  · obtain ⟨a, par, s, rfl, N, q⟩ := h
    refine ⟨_, (pss_one (ps_ret (pe_callTy (call_listD rfl) (by rfl) T.list (by decide +kernel) (pa_cons (pe_fld (pv 0) rfl) pa_nil)))), ?_⟩
    obtain ⟨dx, hi⟩ := N.ins
    refine ⟨_, rfl, a.p, C, dx, _, _, rfl, hi, W.cl, W.nLines, rfl, a.dl, _, rfl, .inl N.dl, fun p np => ?_⟩
    rw [keys_list]
    exact q _ p (Same.new np) np upd_same
def spFind (C : Addr) : Sp := fun vs H Q _ => ∃ (a : Na) (par : Np) (s : Ns) (L : Int), vs = [.ref a.p, .int L] ∧ NearAt C H a par s ∧ GoodS par s ∧ L ∈ s.keys ∧ par.room ≤ 300 ∧
  ∀ H', NearAt C H' a par (findS (decide (par.rule = "least")) s L) → Step H a s H' (findS (decide (par.rule = "least")) s L) → Q .non H'
abbrev s_Near__find : Stmt := inClass (top 19) 6
abbrev N_Near__find : List Str := ["self", "line", "numbers"]
theorem S_Near__find : FnScope N_Near__find ["self", "line"] (defScope s_Near__find) := ⟨rfl, rfl, rfl, by decide +kernel, rfl, by decide +kernel, by decide +kernel⟩

theorem m_find {C : Addr} (T : Txt K w mg) (W : NCls K C) (gLeast : ∃ t, mg "LEAST" = some (.str "least" t)) (D : MethAt K C "_find" "Near._find" s_Near__find) : C8.Met P w K mg base 1 C "_find" (spFind C) [] := by
  have S := S_Near__find
  obtain ⟨tL, gLeast⟩ := gLeast
  refine met_of W.cl D S (fun _ _ _ _ _ _ us hl => match us, hl with | [_, _], _ => rfl) (fun vs H Q E h => ?_) (fun f cdv A outer s H vs Q E hr h => ?_)
  · obtain ⟨a, par, s, L, rfl, _⟩ := h
    rfl
  · obtain ⟨a, par, s, L, rfl, N, G, hk, hro, q⟩ := h
    refine ⟨_, (pss_one (ps_if (pt_cmpR op_eq (pe_fld (pv 0) rfl) ((pe_glob (v := .str "least") rfl gLeast ⟨_, rfl⟩)) (nomark _)) (pss_cons (ps_set (i := 2) S.nd rfl (Or.inl rfl) (pe_dpop1 (pe_fld (pv 0) rfl) (pv 1) ⟨by rfl, by rfl, by rfl, by rfl⟩))
  (pss_one (ps_dput (hu_of hr) (pe_fld (pv 0) rfl) (pv 1) (pv 2) rfl))) pss_nil)), ?_⟩
    obtain ⟨dx, hi⟩ := N.ins
    obtain ⟨b, ns, hlk, hm⟩ := key_get hk
    obtain ⟨pf, pl, pw, fl, fw, lw⟩ := N.dist
    refine ⟨_, rfl, a.p, C, dx, _, _, rfl, hi, W.cl, W.nRule, rfl, rfl, ?_⟩
    by_cases hle : par.rule = "least"
    · refine ⟨true, bl_of (decide_eq_true (congrArg V.str hle)), ?_⟩
      have ef : findS (decide (par.rule = "least")) s L = { s with lines := dropP s.lines L ++ [(L, (b, ns))] } := by
        unfold findS
        rw [hlk, decide_eq_true hle]
        rfl
      rw [ef] at q
      refine ⟨_, rfl, a.p, C, dx, _, _, rfl, hi, W.cl, W.nLines, rfl, a.dl, rfl, .inl ⟨_, .inl N.dl⟩, _, rfl, _, Sum.inl L, lnV (b, ns), N.dl, rfl, by rw [dk_val, hlk]; rfl, ?_⟩
      have hnk : L ∉ (dropP s.lines L).map (·.1) := by
        rw [drop_keys]
        exact fun h => by simpa using (List.mem_filter.mp h).2
      have hll : (dropP s.lines L).length ≤ s.lines.length := List.length_filter_le _ _
      have hrm := G.room
      refine ⟨_, rfl, _, rfl, a.p, C, dx, _, _, rfl, (by walk_at "hp"), W.cl, W.nLines, rfl, _, rfl, a.dl, _, rfl, DPut.k (k := Sum.inl L) upd_same (small1000 (by rw [dk_drop, dk_len]; omega)), ?_⟩
      rw [dk_drop, dk_put, put_new hnk]
      have hperm : (dropP s.lines L ++ [(L, (b, ns))]).Perm s.lines := by
        have h1 : dropP s.lines L = s.lines.erase (L, (b, ns)) := by
          rw [List.Nodup.erase_eq_filter (nodup_of G.keys)]
          unfold dropP
          refine List.filter_congr fun x hx => ?_
          by_cases e : x.1 = L
          · have : x = (L, (b, ns)) := by
              have h2 := nodup_inj G.keys hx hm e
              exact h2
            rw [this]
            exact (bne_self_eq_false L).trans (bne_self_eq_false (L, (b, ns))).symm
          · have : x ≠ (L, (b, ns)) := fun z => e (by rw [z])
            exact (bne_iff_ne.mpr e).trans (bne_iff_ne.mpr this).symm
        rw [h1]
        exact (List.perm_append_singleton _ _).trans (List.perm_cons_erase hm).symm
      have hsub : ∀ x ∈ dropP s.lines L ++ [(L, (b, ns))], x ∈ s.lines := fun x hx => hperm.mem_iff.mp hx
      refine q _ ⟨⟨dx, by walk_at "hp"⟩, by have := N.far; walk_at "hp", upd_same, by have := N.dw; walk_at "hp", N.ne, fun x hx => ?_, ((hperm.map _).nodup_iff).mpr N.nd⟩ (Step.own (fun q' o e n => ?_) (own_sub fun x hx => ⟨x, hsub x hx, rfl⟩))
      · obtain ⟨k1, k2⟩ := N.lns x (hsub x hx)
        obtain ⟨m1, m2, m3, m4⟩ := N.lnd (hsub x hx)
        exact ⟨by walk_at "hp", k2⟩
      · obtain ⟨m1, m2, m3, m4, m5⟩ := nown n
        walk_at "hp"
    · refine ⟨false, bl_of (decide_eq_false fun z => hle (V.str.inj z)), ?_⟩
      have ef : findS (decide (par.rule = "least")) s L = s := by
        unfold findS
        rw [hlk, decide_eq_false hle]
        rfl
      rw [ef] at q
      exact q H N (Step.of_same (Same.refl _))
theorem cut_slice (far : List Int) (st wd : Nat) : cutV (far.map V.int) (some (st : Nat)) (some (((st : Nat) : Int) + ((wd : Nat) : Int))) = (sliceF far st wd).map V.int := by
  unfold cutV sliceF
  rw [show ((st : Nat) : Int) + ((wd : Nat) : Int) = ((st + wd : Nat) : Int) by omega, HT.sIx_nat, HT.sIx_nat, List.length_map, ← List.map_drop, ← List.map_take]
  congr 1
  by_cases h : st ≤ far.length
  · rw [show min st far.length = st by omega]
    by_cases h2 : st + wd ≤ far.length
    · rw [show min (st + wd) far.length - st = wd by omega]
    · rw [show min (st + wd) far.length - st = far.length - st by omega, List.take_of_length_le (by rw [List.length_drop]; omega), List.take_of_length_le (by rw [List.length_drop]; omega)]
  · rw [List.drop_of_length_le (by omega), List.drop_of_length_le (by omega)]
    simp
def spBring (C : Addr) : Sp := fun vs H Q _ => ∃ (a : Na) (par : Np) (s : Ns) (L : Int), vs = [.ref a.p, .int L] ∧ NearAt C H a par s ∧ GoodS par s ∧ L ∉ s.keys ∧ 0 ≤ L ∧ L * (par.wd : Nat) < s.far.length ∧ s.far.length ≤ 300 ∧ par.wd ≤ 300 ∧ par.room ≤ 300 ∧
  ∀ H' b, NearAt C H' a par (bringS par s L b) → Step H a s H' (bringS par s L b) → Q .non H'
abbrev s_Near__bring : Stmt := inClass (top 19) 7
abbrev N_Near__bring : List Str := ["self", "line", "start"]
theorem S_Near__bring : FnScope N_Near__bring ["self", "line"] (defScope s_Near__bring) := ⟨rfl, rfl, rfl, by decide +kernel, rfl, by decide +kernel, by decide +kernel⟩

theorem m_bring {C : Addr} (T : Txt K w mg) (W : NCls K C) (D : MethAt K C "_bring" "Near._bring" s_Near__bring) (M_let_go : C8.Met P w K mg base 2 C "_let_go" (spLetGo C) []) (M_held : C8.Met P w K mg base 1 C "held" (spHeld C) []) : C8.Met P w K mg base 3 C "_bring" (spBring C) [] := by
  have S := S_Near__bring
  refine met_of W.cl D S (fun _ _ _ _ _ _ us hl => match us, hl with | [_, _], _ => rfl) (fun vs H Q E h => ?_) (fun f cdv A outer s H vs Q E hr h => ?_)
  · obtain ⟨a, par, s, L, rfl, _⟩ := h
    rfl
  · obtain ⟨a, par, s, L, rfl, N, G, hk, hL0, hL1, hf, hwd, hro, q⟩ := h
    have w1 := G.w1
    have hst : 0 ≤ L * (par.wd : Nat) := Int.mul_nonneg hL0 (by omega)
    have hL : L ≤ L * (par.wd : Nat) := by
      have := Int.mul_le_mul_of_nonneg_left (show (1 : Int) ≤ (par.wd : Nat) by omega) hL0
      omega
    refine ⟨_, (pss_cons (ps_if (pt_cmpR op_eq (pe_callB call_lenD (by rfl) T.len PySem.boot_len (pa_cons (pe_fld (pv 0) rfl) pa_nil)) (pe_fld (pv 0) rfl) (nomark _)) (pss_one (ps_expr (C8.pe_mt M_let_go hr (by decide) (pv 0) (pa_cons (pe_ix ix_list (C8.pe_mt0 M_held hr (by decide) (pv 0)) pe_int (fun _ _ => rfl)) pa_nil)))) pss_nil)
  (pss_cut (D := { nx := fun _ H' => Q .non H', rt := Q }) (P := fun σ H' => σ = [some (.ref a.p), some (.int L), none] ∧ ∃ s1, NearAt C H' a par s1 ∧ Step H a s H' s1 ∧ s1.far.length = s.far.length ∧ s1.lines.length ≤ par.room ∧ L ∉ s1.keys ∧ ∀ b, bringS par s L b = { s1 with lines := s1.lines ++ [(L, (b, sliceF s1.far (L * par.wd).toNat par.wd))] }) ?tail)), ?_⟩
    case tail =>
      refine ⟨_, (pss_cons (ps_set (i := 2) S.nd rfl (Or.inl rfl) (pe_op op_mul (pv 1) (pe_fld (pv 0) rfl)))
  (pss_one (ps_dput (hu_of hr) (pe_fld (pv 0) rfl) (pv 1) (pe_slice sl_list (pe_fld (pv 0) rfl) (po_some (pv 2)) (po_some (pe_op op_add (pv 2) (pe_fld (pv 0) rfl)))) rfl))), fun σ H1 h => ?_⟩
      obtain ⟨rfl, s1, N1, st1, hf1, hl1, hk1, eb⟩ := h
      obtain ⟨dx, hi⟩ := N1.ins
      obtain ⟨pf, pl, pw, fl, fw, lw⟩ := N1.dist
      obtain ⟨k, ek⟩ : ∃ k : Nat, L * (par.wd : Nat) = (k : Nat) := ⟨(L * (par.wd : Nat)).toNat, (Int.toNat_of_nonneg hst).symm⟩
      refine ⟨_, rfl, _, rfl, a.p, C, dx, _, _, rfl, hi, W.cl, W.nWidth, rfl, _, _, rfl, rfl, .inl ⟨by omega, by omega⟩, ?_⟩
      refine ⟨_, rfl, a.p, C, dx, _, _, rfl, hi, W.cl, W.nFar, rfl, _, rfl, _, rfl, _, rfl, _, rfl, a.p, C, dx, _, _, rfl, hi, W.cl, W.nWidth, rfl, _, _, rfl, rfl, _, rfl, a.af, _, rfl, SqL.of N1.far, fun b nb => ?_⟩
      rw [ek, cut_slice]
      have nbo := N1.new nb
      obtain ⟨nbp, nbf, nbl, nbw, nbx⟩ := nown nbo
      refine ⟨_, rfl, a.p, C, dx, _, _, rfl, (by walk_at "hp"), W.cl, W.nLines, rfl, _, rfl, a.dl, _, rfl, DPut.k (k := Sum.inl L) (by have := N1.dl; walk_at "hp") (small1000 (by rw [dk_len]; omega)), ?_⟩
      have ev : V.ref b = lnV (b, sliceF s1.far k par.wd) := rfl
      rw [ev, dk_put, put_new hk1]
      have en : bringS par s L b = { s1 with lines := s1.lines ++ [(L, (b, sliceF s1.far k par.wd))] } := by rw [eb b, ek]; rfl
      refine q _ b ?_ (st1.trans fun q' o e n => ?_)
      · rw [en]
        refine ⟨⟨dx, by walk_at "hp"⟩, by have := N1.far; walk_at "hp", upd_same, by have := N1.dw; walk_at "hp", N1.ne, fun x hx => ?_, ?_⟩
        · rcases List.mem_append.mp hx with hx | hx
          · obtain ⟨k1, k2⟩ := N1.lns x hx
            obtain ⟨m1, m2, m3, m4⟩ := N1.lnd hx
            have := nbx x hx
            exact ⟨by walk_at "hp", k2⟩
          · cases List.mem_singleton.mp hx
            exact ⟨(by walk_at "hp"), nbf⟩
        · show ((s1.lines ++ [(L, (b, sliceF s1.far k par.wd))]).map (·.2.1)).Nodup
          rw [List.map_append, List.nodup_append]
          refine ⟨N1.nd, by simp, fun y hy z hz => ?_⟩
          obtain ⟨x, hx, rfl⟩ := List.mem_map.mp hy
          cases List.mem_singleton.mp hz
          exact nbx x hx
      · obtain ⟨m1, m2, m3, m4, m5⟩ := nown n
        have nqb : q' ≠ b := ne_of_none e nb
        refine ⟨by walk_at "hp", fun z => ?_⟩
        rw [en] at z
        rcases z with z | z | z | z | ⟨x, hx, z⟩
        · exact m1 z
        · exact m2 z
        · exact m3 z
        · exact m4 z
        · rcases List.mem_append.mp hx with hx | hx
          · exact m5 x hx z
          · cases List.mem_singleton.mp hx
            exact nqb z.symm
    obtain ⟨dx, hi⟩ := N.ins
    refine ⟨_, rfl, a.p, C, dx, _, _, rfl, hi, W.cl, W.nLines, rfl, a.dl, _, rfl, N.dl, _, rfl, a.p, C, dx, _, _, rfl, hi, W.cl, W.nRoom, rfl, rfl, ?_⟩
    rw [dk_len]
    by_cases hfull : s.lines.length = par.room
    · refine ⟨true, bl_of (decide_eq_true (by rw [hfull])), ?_⟩
      refine ⟨_, rfl, a.p, dx, _, rfl, hi, rfl, ?_⟩
      refine ⟨_, rfl, a.p, dx, _, rfl, hi, rfl, a, par, s, rfl, N, fun H1 p1 t1 n1 g1 => ?_⟩
      have r1 := G.r1
      obtain ⟨L0, hL0'⟩ : ∃ L0, s.keys[0]? = some L0 := ⟨_, List.getElem?_eq_getElem (by unfold Ns.keys; rw [List.length_map]; omega)⟩
      have hmem : L0 ∈ s.keys := List.mem_of_getElem? hL0'
      have ehd : s.keys.headD 0 = L0 := by
        rw [List.headD_eq_head?_getD, List.head?_eq_getElem?, hL0']
        rfl
      refine ⟨p1, _, _, _, rfl, rfl, SqL.of g1, at_in (by decide) (by rw [List.getElem?_map, show (0 : Int).toNat = 0 from rfl, hL0']; rfl), ?_⟩
      refine ⟨a, par, s, L0, rfl, N.same t1, G, hmem, hf, hwd, hro, fun H2 N2 st2 => ?_⟩
      obtain ⟨q1, q2, q3, q4⟩ := G.go hmem
      refine ⟨rfl, rfl, _, N2, (Step.of_same t1).trans st2, q2, q1.room, ?_, fun b => ?_⟩
      · rw [q4]
        exact fun z => hk (List.mem_filter.mp z).1
      · unfold bringS
        rw [if_pos hfull, ehd]
    · refine ⟨false, bl_of (decide_eq_false fun z => hfull (by have := V.int.inj z; omega)), ?_⟩
      refine ⟨rfl, rfl, s, N, Step.of_same (Same.refl _), rfl, G.room, hk, fun b => ?_⟩
      unfold bringS
      rw [if_neg hfull]
def spTouchedLine (K : PySem.W.Frag) (C CN : Addr) : Sp := fun vs H Q E => ∃ (a : Na) (par : Np) (s : Ns) (v : V), vs = [.ref a.p, v] ∧ AnyT K H v ∧ NearAt C H a par s ∧ GoodS par s ∧ 1 ≤ s.far.length ∧ s.far.length ≤ 300 ∧ par.wd ≤ 300 ∧ par.room ≤ 300 ∧
  (∀ i : Nat, v = .int (i : Nat) → i < s.far.length → ∀ H' b, NearAt C H' a par (touchS par s ((i / par.wd : Nat) : Int) b) → Step H a s H' (touchS par s ((i / par.wd : Nat) : Int) b) → Q (.int ((i / par.wd : Nat) : Int)) H') ∧
  (wholeV v 0 ((s.far.length : Nat) - 1) = false → ∀ H', Same H H' → E (.ref CN) none H')
theorem NearAt.cnt {C : Addr} {H : Hp} {a : Na} {par : Np} {s : Ns} (N : NearAt C H a par s) (f m bk : Nat) (dx : Addr) : NearAt C (L2.upd H a.p (.ins C dx (nfs a par { s with found := f, missed := m, back := bk }))) a par { s with found := f, missed := m, back := bk } := by
  obtain ⟨pf, pl, pw, fl, fw, lw⟩ := N.dist
  refine ⟨⟨dx, upd_same⟩, (upd_ne (Ne.symm pf)).trans N.far, (upd_ne (Ne.symm pl)).trans N.dl, (upd_ne (Ne.symm pw)).trans N.dw, N.ne, fun x hx => ?_, N.nd⟩
  obtain ⟨k1, k2⟩ := N.lns x hx
  exact ⟨(upd_ne (N.lnd hx).1).trans k1, k2⟩
theorem Step.cnt {H : Hp} {a : Na} {s : Ns} {o : HO} {f m bk : Nat} : Step H a s (upd H a.p o) { s with found := f, missed := m, back := bk } := Step.own (fun q o e n => (upd_ne (nown n).1).trans e) fun _ o => o
abbrev s_Near__touched_line : Stmt := inClass (top 19) 5
abbrev N_Near__touched_line : List Str := ["self", "box", "last", "line"]
theorem S_Near__touched_line : FnScope N_Near__touched_line ["self", "box"] (defScope s_Near__touched_line) := ⟨rfl, rfl, rfl, by decide +kernel, rfl, by decide +kernel, by decide +kernel⟩

theorem m_touched_line {C CN : Addr} (T : Txt K w mg) (W : NCls K C) (X_NoBox : ExcT K mg "NoBox" CN) (D : MethAt K C "_touched_line" "Near._touched_line" s_Near__touched_line) (C_is_whole : Cal P w K mg base CX0 2 "is_whole" (spIsWholeV K)) (C_line_of : Cal P w K mg base CX0 1 "line_of" spLineOf)
    (M_find : C8.Met P w K mg base 1 C "_find" (spFind C) []) (M_bring : C8.Met P w K mg base 3 C "_bring" (spBring C) []) : MetX P w K mg base 4 C "_touched_line" (spTouchedLine K C CN) := by
  have S := S_Near__touched_line
  refine metX_of W.cl D S (fun _ _ _ _ _ _ us hl => match us, hl with | [_, _], _ => rfl) (fun vs H Q E h => ?_) (fun f cdv A outer s H vs Q E hr h => ?_)
  · obtain ⟨a, par, s, v, rfl, _⟩ := h
    rfl
  · obtain ⟨a, par, s, v, rfl, hv, N, G, hf1, hf, hwd, hro, hq, he⟩ := h
    refine ⟨_, (pss_cons (ps_set (i := 2) S.nd rfl (Or.inl rfl) (pe_op op_sub (pe_callB call_len_seq (by rfl) T.len PySem.boot_len (pa_cons (pe_fld (pv 0) rfl) pa_nil)) pe_int))
  (pss_cons (ps_if (pt_not (pt_val (pe_c C_is_whole hr (by decide) rfl (pa_cons (pv 1) (pa_cons pe_int (pa_cons (pv 2) pa_nil)))))) (pss_one (ps_raise rfl (takes_of rfl rfl rfl rfl) (SkE.pmk_own1 PySem.F.excBase_ValueError X_NoBox.x X_NoBox.g X_NoBox.k (raises_own X_NoBox.b X_NoBox.t) rfl (pe_joined (.cons pe_str (.cons (pe_fmt (pv 2)) .nil)))))) pss_nil)
  (pss_cons (ps_set (i := 3) S.nd rfl (Or.inl rfl) (pe_c C_line_of hr (by decide) rfl (pa_cons (pv 1) (pa_cons (pe_fld (pv 0) rfl) pa_nil))))
  (pss_cons (ps_if (pt_cmp (pc_din (hu_of hr) (pv 3) (pe_fld (pv 0) rfl))) (pss_cons (ps_fldaug (pv 0) pe_int in_add)
  (pss_one (ps_expr (C8.pe_mt M_find hr (by decide) (pv 0) (pa_cons (pv 3) pa_nil))))) (pss_cons (ps_fldaug (pv 0) pe_int in_add)
  (pss_one (ps_expr (C8.pe_mt M_bring hr (by decide) (pv 0) (pa_cons (pv 3) pa_nil))))))
  (pss_one (ps_ret (pv 3))))))), ?_⟩
    obtain ⟨dx, hi⟩ := N.ins
    refine ⟨_, rfl, a.p, C, dx, _, _, rfl, hi, W.cl, W.nFar, rfl, a.af, _, rfl, .inl (SqL.of N.far), _, _, rfl, rfl, ?_⟩
    rw [List.length_map]
    refine ⟨_, rfl, _, rfl, v, 0, _, rfl, hv, _, rfl, ?_⟩
    cases hb : wholeV v 0 ((s.far.length : Nat) - 1) with
    | false =>
      refine ⟨_, rfl, by decide +kernel, ?_⟩
      refine ⟨_, rfl, .inr ⟨_, rfl, log_small (by omega) (by omega), _, rfl, ?_, he hb _ (Same.refl _)⟩⟩
      exact app_sz (n := 40) (m := 6) (by decide +kernel) (txt_len (by omega) (by omega)) (by decide)
    | true =>
      obtain ⟨i, rfl, hi0⟩ : ∃ i : Nat, v = .int (i : Nat) ∧ i < s.far.length := by
        cases v with
        | int z =>
          have hb : (decide (0 ≤ z) && decide (z ≤ (s.far.length : Nat) - 1)) = true := hb
          rw [Bool.and_eq_true, decide_eq_true_eq, decide_eq_true_eq] at hb
          exact ⟨z.toNat, congrArg V.int (Int.toNat_of_nonneg hb.1).symm, by omega⟩
        | _ => cases hb
      have w1 := G.w1
      have hq := hq i rfl hi0
      refine ⟨_, rfl, _, rfl, a.p, C, dx, _, _, rfl, hi, W.cl, W.nWidth, rfl, _, _, rfl, by omega, by omega, ?_⟩
      rw [show ((i : Nat) : Int) / ((par.wd : Nat) : Int) = ((i / par.wd : Nat) : Int) from (Int.natCast_ediv _ _).symm]
      have hL1 : ((i / par.wd : Nat) : Int) * (par.wd : Nat) < s.far.length := by
        have := Nat.div_mul_le_self i par.wd
        have h2 : ((i / par.wd : Nat) : Int) * (par.wd : Nat) = ((i / par.wd * par.wd : Nat) : Int) := (Int.natCast_mul _ _).symm
        omega
      have hL0 : 0 ≤ ((i / par.wd : Nat) : Int) := Int.natCast_nonneg _
      generalize ((i / par.wd : Nat) : Int) = L at hq hL0 hL1
      refine ⟨_, rfl, _, rfl, a.p, C, dx, _, _, rfl, hi, W.cl, W.nLines, rfl, a.dl, _, rfl, DGet.k (k := Sum.inl L) N.dl, ?_⟩
      rw [dk_val, Option.isSome_map, lk_some]
      by_cases hk : L ∈ s.keys
      · refine ⟨true, bl_of (decide_eq_true hk), ?_⟩
        refine ⟨_, rfl, a.p, C, dx, nfs a par s, .int (s.found : Nat), rfl, hi, W.cl, W.nFound, rfl, _, _, rfl, rfl, dx, nfs a par s, hi, (by show 9 < 1000; decide), ?_⟩
        have N1 := N.cnt (s.found + 1) s.missed s.back dx
        have st1 : Step H a s (upd H a.p (.ins C dx (nfs a par { s with found := s.found + 1 }))) { s with found := s.found + 1 } := Step.cnt
        have eT : ∀ b, touchS par s L b = findS (decide (par.rule = "least")) { s with found := s.found + 1 } L := fun b => if_pos hk
        refine ⟨_, rfl, a.p, dx, _, rfl, upd_same, rfl, _, rfl, a, par, _, L, rfl, N1, G.cnt _ _ _, hk, hro, fun H2 N2 st2 => ?_⟩
        refine ⟨_, rfl, hq H2 0 ?_ ?_⟩
        · rw [eT]
          exact N2
        · rw [eT]
          exact st1.trans st2
      · refine ⟨false, bl_of (decide_eq_false hk), ?_⟩
        refine ⟨_, rfl, a.p, C, dx, nfs a par s, .int (s.missed : Nat), rfl, hi, W.cl, W.nMissed, rfl, _, _, rfl, rfl, dx, nfs a par s, hi, (by show 9 < 1000; decide), ?_⟩
        have N1 := N.cnt s.found (s.missed + 1) s.back dx
        have st1 : Step H a s (upd H a.p (.ins C dx (nfs a par { s with missed := s.missed + 1 }))) { s with missed := s.missed + 1 } := Step.cnt
        have eT : ∀ b, touchS par s L b = bringS par { s with missed := s.missed + 1 } L b := fun b => if_neg hk
        refine ⟨_, rfl, a.p, dx, _, rfl, upd_same, rfl, _, rfl, a, par, _, L, rfl, N1, G.cnt _ _ _, hk, hL0, hL1, hf, hwd, hro, fun H2 b N2 st2 => ?_⟩
        refine ⟨_, rfl, hq H2 b ?_ ?_⟩
        · rw [eT]
          exact N2
        · rw [eT]
          exact st1.trans st2
theorem touch_key {par : Np} {s : Ns} {L : Int} {b : Addr} : L ∈ (touchS par s L b).keys := by
  unfold touchS
  by_cases h : L ∈ s.keys
  · rw [if_pos h]
    have h' : L ∈ ({ s with found := s.found + 1 } : Ns).keys := h
    obtain ⟨b, ns, hlk, hm⟩ := key_get h'
    unfold findS
    rw [hlk]
    dsimp only
    split
    · unfold Ns.keys
      rw [List.map_append, List.mem_append]
      exact .inr List.mem_cons_self
    · exact h
  · rw [if_neg h]
    unfold bringS Ns.keys
    rw [List.map_append, List.mem_append]
    exact .inr List.mem_cons_self

theorem mod_in {par : Np} {s : Ns} (G : GoodS par s) {i : Nat} (hi : i < s.far.length) {b : Addr} {ns : List Int} (hm : (((i / par.wd : Nat) : Int), (b, ns)) ∈ s.lines) : i % par.wd < ns.length := by
  obtain ⟨h0, h1, h2⟩ := G.nums _ hm
  have w1 := G.w1
  have e1 := Nat.div_add_mod i par.wd
  have e2 := Nat.mod_lt i (show par.wd > 0 by omega)
  have e3 : (((i / par.wd : Nat) : Int) * (par.wd : Nat)).toNat = par.wd * (i / par.wd) := by
    rw [show ((i / par.wd : Nat) : Int) * (par.wd : Nat) = ((par.wd * (i / par.wd) : Nat) : Int) by rw [Int.natCast_mul]; exact Int.mul_comm _ _]
    rfl
  simp only at h2
  rw [h2, e3]
  omega
def spLookN (K : PySem.W.Frag) (C CN : Addr) : Sp := fun vs H Q E => ∃ (a : Na) (par : Np) (s : Ns) (v : V), vs = [.ref a.p, v] ∧ AnyT K H v ∧ NearAt C H a par s ∧ GoodS par s ∧ 1 ≤ s.far.length ∧ s.far.length ≤ 300 ∧ par.wd ≤ 300 ∧ par.room ≤ 300 ∧
  (∀ i : Nat, v = .int (i : Nat) → i < s.far.length → ∀ H' b, NearAt C H' a par (touchS par s ((i / par.wd : Nat) : Int) b) → Step H a s H' (touchS par s ((i / par.wd : Nat) : Int) b) → Q (.int (lookV par (touchS par s ((i / par.wd : Nat) : Int) b) i)) H') ∧
  (wholeV v 0 ((s.far.length : Nat) - 1) = false → ∀ H', Same H H' → E (.ref CN) none H')
abbrev s_Near_look : Stmt := inClass (top 19) 1
abbrev N_Near_look : List Str := ["self", "box", "line"]
theorem S_Near_look : FnScope N_Near_look ["self", "box"] (defScope s_Near_look) := ⟨rfl, rfl, rfl, by decide +kernel, rfl, by decide +kernel, by decide +kernel⟩

theorem m_lookN {C CN : Addr} (T : Txt K w mg) (W : NCls K C) (D : MethAt K C "look" "Near.look" s_Near_look) (M_touched_line : MetX P w K mg base 4 C "_touched_line" (spTouchedLine K C CN)) : MetX P w K mg base 5 C "look" (spLookN K C CN) := by
  have S := S_Near_look
  refine metX_of W.cl D S (fun _ _ _ _ _ _ us hl => match us, hl with | [_, _], _ => rfl) (fun vs H Q E h => ?_) (fun f cdv A outer s H vs Q E hr h => ?_)
  · obtain ⟨a, par, s, v, rfl, _⟩ := h
    rfl
  · obtain ⟨a, par, s, v, rfl, hv, N, G, hf1, hf, hwd, hro, hq, he⟩ := h
    refine ⟨_, (pss_cons (ps_set (i := 2) S.nd rfl (Or.inl rfl) (pe_mx M_touched_line (takes_of rfl rfl rfl rfl) hr (by decide) (pv 0) (pa_cons (pv 1) pa_nil)))
  (pss_one (ps_ret (pe_ix ix_list (pe_dget (hu_of hr) (pe_fld (pv 0) rfl) (pv 2) (fun _ _ => rfl)) (pe_op op_mod (pv 1) (pe_fld (pv 0) rfl)) (fun _ _ => rfl))))), ?_⟩
    obtain ⟨dx, hi⟩ := N.ins
    refine ⟨_, rfl, a.p, dx, _, rfl, hi, rfl, _, rfl, a, par, s, v, rfl, hv, N, G, hf1, hf, hwd, hro, fun i ev hil H1 b N1 st1 => ?_, fun hb H1 t1 => he hb H1 t1⟩
    subst ev
    obtain ⟨dx1, hi1⟩ := N1.ins
    have w1 := G.w1
    have hL1 : ((i / par.wd : Nat) : Int) * (par.wd : Nat) < s.far.length := by
      have := Nat.div_mul_le_self i par.wd
      have h2 : ((i / par.wd : Nat) : Int) * (par.wd : Nat) = ((i / par.wd * par.wd : Nat) : Int) := (Int.natCast_mul _ _).symm
      omega
    obtain ⟨G1, ef⟩ := G.touch (b := b) (Int.natCast_nonneg (i / par.wd)) hL1
    obtain ⟨b1, ns1, hlk, hm⟩ := key_get (touch_key (par := par) (s := s) (L := ((i / par.wd : Nat) : Int)) (b := b))
    obtain ⟨hb1, _⟩ := N1.lns _ hm
    have hin := mod_in G1 (i := i) (by omega) hm
    refine ⟨_, rfl, a.p, C, dx1, _, _, rfl, hi1, W.cl, W.nLines, rfl, _, rfl, a.dl, _, rfl, dget_ln N1 hlk, ?_⟩
    refine ⟨_, rfl, _, rfl, a.p, C, dx1, _, _, rfl, hi1, W.cl, W.nWidth, rfl, _, _, rfl, rfl, by omega, ?_⟩
    have emod : ((i : Nat) : Int) % ((par.wd : Nat) : Int) = ((i % par.wd : Nat) : Int) := (Int.natCast_emod _ _).symm
    refine ⟨b1, _, _, .int (ns1.getD (i % par.wd) 0), rfl, rfl, SqL.of hb1, by rw [emod]; exact at_map V.int (by rw [List.getD_eq_getElem?_getD, List.getElem?_eq_getElem hin]; rfl), ?_⟩
    have := hq i rfl hil H1 b N1 st1
    unfold lookV numsOf at this
    rw [hlk] at this
    exact this
def spPutN (K : PySem.W.Frag) (C CN : Addr) : Sp := fun vs H Q E => ∃ (a : Na) (par : Np) (s : Ns) (v : V) (n : Int), vs = [.ref a.p, v, .int n] ∧ AnyT K H v ∧ NearAt C H a par s ∧ GoodS par s ∧ 1 ≤ s.far.length ∧ s.far.length ≤ 300 ∧ par.wd ≤ 300 ∧ par.room ≤ 300 ∧
  (∀ i : Nat, v = .int (i : Nat) → i < s.far.length → ∀ H' b, NearAt C H' a par (putS (touchS par s ((i / par.wd : Nat) : Int) b) ((i / par.wd : Nat) : Int) (i % par.wd) n) → Step H a s H' (putS (touchS par s ((i / par.wd : Nat) : Int) b) ((i / par.wd : Nat) : Int) (i % par.wd) n) → Q .non H') ∧
  (wholeV v 0 ((s.far.length : Nat) - 1) = false → ∀ H', Same H H' → E (.ref CN) none H')
theorem written_put {s : Ns} {L : Int} : tkP (if L ∈ s.written then s.written else s.written ++ [L]) = putP (tkP s.written) L () := tk_put.symm
abbrev s_Near_put : Stmt := inClass (top 19) 2
abbrev N_Near_put : List Str := ["self", "box", "number", "line"]
theorem S_Near_put : FnScope N_Near_put ["self", "box", "number"] (defScope s_Near_put) := ⟨rfl, rfl, rfl, by decide +kernel, rfl, by decide +kernel, by decide +kernel⟩

theorem m_putN {C CN : Addr} (T : Txt K w mg) (W : NCls K C) (D : MethAt K C "put" "Near.put" s_Near_put) (M_touched_line : MetX P w K mg base 4 C "_touched_line" (spTouchedLine K C CN)) : MetX P w K mg base 5 C "put" (spPutN K C CN) := by
  have S := S_Near_put
  refine metX_of W.cl D S (fun _ _ _ _ _ _ us hl => match us, hl with | [_, _, _], _ => rfl) (fun vs H Q E h => ?_) (fun f cdv A outer s H vs Q E hr h => ?_)
  · obtain ⟨a, par, s, v, n, rfl, _⟩ := h
    rfl
  · obtain ⟨a, par, s, v, n, rfl, hv, N, G, hf1, hf, hwd, hro, hq, he⟩ := h
    refine ⟨_, (pss_cons (ps_set (i := 3) S.nd rfl (Or.inl rfl) (pe_mx M_touched_line (takes_of rfl rfl rfl rfl) hr (by decide) (pv 0) (pa_cons (pv 1) pa_nil)))
  (pss_cons (ps_asg (pv 2) (pg_sub (pe_dget (hu_of hr) (pe_fld (pv 0) rfl) (pv 3) (fun _ _ => rfl)) (pe_op op_mod (pv 1) (pe_fld (pv 0) rfl)) set_list))
  (pss_one (ps_dput (hu_of hr) (pe_fld (pv 0) rfl) (pv 3) pe_bl rfl)))), ?_⟩
    obtain ⟨dx, hi⟩ := N.ins
    refine ⟨_, rfl, a.p, dx, _, rfl, hi, rfl, _, rfl, a, par, s, v, rfl, hv, N, G, hf1, hf, hwd, hro, fun i ev hil H1 b N1 st1 => ?_, fun hb H1 t1 => he hb H1 t1⟩
    subst ev
    have hq := fun H' : Hp => hq i rfl hil H' b
    obtain ⟨dx1, hi1⟩ := N1.ins
    have w1 := G.w1
    have hL1 : ((i / par.wd : Nat) : Int) * (par.wd : Nat) < s.far.length := by
      have := Nat.div_mul_le_self i par.wd
      have h2 : ((i / par.wd : Nat) : Int) * (par.wd : Nat) = ((i / par.wd * par.wd : Nat) : Int) := (Int.natCast_mul _ _).symm
      omega
    obtain ⟨G1, ef⟩ := G.touch (b := b) (Int.natCast_nonneg (i / par.wd)) hL1
    have hkey := touch_key (par := par) (s := s) (L := ((i / par.wd : Nat) : Int)) (b := b)
    obtain ⟨b1, ns1, hlk, hm⟩ := key_get hkey
    obtain ⟨hb1, hbf⟩ := N1.lns _ hm
    have hin := mod_in G1 (i := i) (by omega) hm
    obtain ⟨nbp, nbf, nbl, nbw⟩ := N1.lnd hm
    simp only at hb1 hbf nbp nbf nbl nbw
    generalize hs1 : touchS par s ((i / par.wd : Nat) : Int) b = s1 at N1 st1 hq G1 hlk hm ef hkey hi1
    generalize hL : ((i / par.wd : Nat) : Int) = L at hq hlk hm hkey hs1
    refine ⟨_, rfl, _, rfl, a.p, C, dx1, _, _, rfl, hi1, W.cl, W.nLines, rfl, _, rfl, a.dl, _, rfl, dget_ln N1 hlk, ?_⟩
    refine ⟨_, rfl, _, rfl, a.p, C, dx1, _, _, rfl, hi1, W.cl, W.nWidth, rfl, _, _, rfl, rfl, by omega, ?_⟩
    have emod : ((i : Nat) : Int) % ((par.wd : Nat) : Int) = ((i % par.wd : Nat) : Int) := (Int.natCast_emod _ _).symm
    refine ⟨b1, _, _, i % par.wd, rfl, rfl, hb1, ?_, ?_⟩
    · unfold ixN
      rw [List.length_map, emod, if_pos (Int.natCast_nonneg _), if_pos (by omega)]
      rfl
    rw [show (ns1.map V.int).set (i % par.wd) (.int n) = (ns1.set (i % par.wd) n).map V.int by rw [List.map_set]]
    obtain ⟨pf, pl, pw, fl, fw, lw⟩ := N1.dist
    have hwl : s1.written.length ≤ 300 := by
      have h1 : s1.written.length ≤ s1.keys.length := nd_len G1.wnd G1.wsub
      have h2 : s1.keys.length = s1.lines.length := by unfold Ns.keys; rw [List.length_map]
      have := G1.room
      omega
    refine ⟨_, rfl, a.p, C, dx1, _, _, rfl, (by walk_at "hp"), W.cl, W.nWritten, rfl, _, rfl, a.dw, _, rfl, DPut.k (k := Sum.inl L) (by have := N1.dw; walk_at "hp") (small1000 (by rw [dk_len, tk_len]; omega)), ?_⟩
    rw [show V.bl true = gT () from rfl, dk_put, ← written_put]
    have hi2 : H1 a.p = some (.ins C dx1 (nfs a par (putS s1 L (i % par.wd) n))) := hi1
    have hf2 : H1 a.af = some (.lst ((putS s1 L (i % par.wd) n).far.map V.int)) := N1.far
    refine hq _ ⟨⟨dx1, (upd_ne pw).trans ((upd_ne nbp.symm).trans hi2)⟩, (upd_ne fw).trans ((upd_ne nbf.symm).trans hf2), ?_, upd_same, N1.ne, fun x hx => ?_, ?_⟩ (st1.trans (Step.own (fun q' o e n => ?_) (own_sub fun x hx => ?_)))
    · have : dk lnV (setLn s1.lines L (i % par.wd) n) = dk lnV s1.lines := by
        unfold dk setLn
        rw [List.map_map]
        refine List.map_congr_left fun x _ => ?_
        show ((Sum.inl (if x.1 = L then (x.1, (x.2.1, x.2.2.set (i % par.wd) n)) else x).1 : Key), lnV (if x.1 = L then (x.1, (x.2.1, x.2.2.set (i % par.wd) n)) else x).2) = (Sum.inl x.1, lnV x.2)
        split <;> rfl
      show _ = some (HO.dK (dk lnV (setLn s1.lines L (i % par.wd) n)))
      rw [this]
      have := N1.dl
      walk_at "hp"
    · obtain ⟨y, hy, rfl⟩ := List.mem_map.mp hx
      obtain ⟨k1, k2⟩ := N1.lns y hy
      obtain ⟨m1, m2, m3, m4⟩ := N1.lnd hy
      by_cases e : y.1 = L
      · have ey : y = (L, (b1, ns1)) := nodup_inj (f := fun x : Int × (Addr × List Int) => x.1) G1.keys hy hm e
        rw [if_pos e, ey]
        exact ⟨by walk_at "hp", nbf⟩
      · rw [if_neg e]
        have : y.2.1 ≠ b1 := fun z => e (by rw [nodup_inj (f := fun x : Int × (Addr × List Int) => x.2.1) N1.nd hy hm z])
        exact ⟨by walk_at "hp", k2⟩
    · show ((setLn s1.lines L (i % par.wd) n).map (·.2.1)).Nodup
      rw [set_addrs]
      exact N1.nd
    · obtain ⟨m1, m2, m3, m4, m5⟩ := nown n
      have := (m5 _ hm).symm
      simp only at this
      walk_at "hp"
    · obtain ⟨y, hy, rfl⟩ := List.mem_map.mp hx
      refine ⟨y, hy, ?_⟩
      split <;> rfl
/-! ### the making -/
def ruleOk : PyData → Bool
  | .str x => decide (x = "least") || decide (x = "first")
  | _ => false
def shapeOk (vr vw : V) (du : PyData) : Bool := wholeV vr 1 200 && (wholeV vw 1 200 && ruleOk du)
def spCheckShape (K : PySem.W.Frag) (CS : Addr) : Sp := fun vs H Q E => ∃ (vr vw vu : V) (du : PyData), vs = [vr, vw, vu] ∧ AnyT K H vr ∧ AnyT K H vw ∧ Dp K H vu du ∧ (shapeOk vr vw du = true → ∀ H', Same H H' → Q .non H') ∧ (shapeOk vr vw du = false → ∀ H', Same H H' → E (.ref CS) none H')
abbrev s__check_shape : Stmt := top 20
abbrev N__check_shape : List Str := ["room", "width", "rule"]
theorem S__check_shape : FnScope N__check_shape ["room", "width", "rule"] (defScope s__check_shape) := ⟨rfl, rfl, rfl, by decide +kernel, rfl, by decide +kernel, by decide +kernel⟩

theorem c_check_shape {CS : Addr} (T : Txt K w mg) (X_BadShape : ExcT K mg "BadShape" CS) (gMost : ∃ t, mg "MOST" = some (.int 200 t)) (gLeast : ∃ t, mg "LEAST" = some (.str "least" t)) (gFirst : ∃ t, mg "FIRST" = some (.str "first" t)) (D : DefAt K "_check_shape" s__check_shape) (C_is_whole : Cal P w K mg base CX0 2 "is_whole" (spIsWholeV K)) : Cal P w K mg base (L2.CX P w) 3 "_check_shape" (spCheckShape K CS) := by
  have S := S__check_shape
  obtain ⟨tM, gMost⟩ := gMost
  obtain ⟨tL, gLeast⟩ := gLeast
  obtain ⟨tF, gFirst⟩ := gFirst
  refine cal_ofX T.toTop D S (fun _ _ _ _ _ _ us hl => match us, hl with | [_, _, _], _ => rfl) (fun vs H Q E h => ?_) (fun f cdv A outer s H vs Q E hr h => ?_)
  · obtain ⟨vr, vw, vu, du, rfl, _⟩ := h
    rfl
  · obtain ⟨vr, vw, vu, du, rfl, hvr, hvw, hvu, hq, he⟩ := h
    refine ⟨_, (pss_cons (ps_if (pt_not (pt_val (pe_c C_is_whole hr (by decide) rfl (pa_cons (pv 0) (pa_cons pe_int (pa_cons ((pe_glob (v := .int 200) rfl gMost ⟨_, rfl⟩)) pa_nil)))))) (pss_one (ps_raise rfl (takes_of rfl rfl rfl rfl) (SkE.pmk_own1 PySem.F.excBase_ValueError X_BadShape.x X_BadShape.g X_BadShape.k (raises_own X_BadShape.b X_BadShape.t) rfl (pe_joined (.cons pe_str (.cons (pe_fmt ((pe_glob (v := .int 200) rfl gMost ⟨_, rfl⟩))) .nil)))))) pss_nil)
  (pss_cons (ps_if (pt_not (pt_val (pe_c C_is_whole hr (by decide) rfl (pa_cons (pv 1) (pa_cons pe_int (pa_cons ((pe_glob (v := .int 200) rfl gMost ⟨_, rfl⟩)) pa_nil)))))) (pss_one (ps_raise rfl (takes_of rfl rfl rfl rfl) (SkE.pmk_own1 PySem.F.excBase_ValueError X_BadShape.x X_BadShape.g X_BadShape.k (raises_own X_BadShape.b X_BadShape.t) rfl (pe_joined (.cons pe_str (.cons (pe_fmt ((pe_glob (v := .int 200) rfl gMost ⟨_, rfl⟩))) .nil)))))) pss_nil)
  (pss_one (ps_if (PW.pt (pw_or (pt_not (pt_val (pe_callB call_isi (by rfl) T.isinstance (by decide +kernel) (pa_cons (pv 2) (pa_cons ((pe_bltn (v := .ty "str") (u := .type "str") rfl T.str (by decide +kernel) rfl)) pa_nil))))) (pw_or1 (pt_cmpR op_notIn_seq (pv 2) (pe_tup (pa_cons ((pe_glob (v := .str "least") rfl gLeast ⟨_, rfl⟩)) (pa_cons ((pe_glob (v := .str "first") rfl gFirst ⟨_, rfl⟩)) pa_nil))) (by with_unfolding_all rfl))))) (pss_one (ps_raise rfl (takes_of rfl rfl rfl rfl) (SkE.pmk_own1 PySem.F.excBase_ValueError X_BadShape.x X_BadShape.g X_BadShape.k (raises_own X_BadShape.b X_BadShape.t) rfl (pe_joined (.cons pe_str (.cons (pe_fmt ((pe_glob (v := .str "least") rfl gLeast ⟨_, rfl⟩))) (.cons pe_str (.cons (pe_fmt ((pe_glob (v := .str "first") rfl gFirst ⟨_, rfl⟩))) .nil)))))))) pss_nil)))), ?_⟩
    refine ⟨_, rfl, vr, 1, 200, rfl, hvr, _, rfl, ?_⟩
    cases h1 : wholeV vr 1 200 with
    | false =>
      have hb : shapeOk vr vw du = false := by unfold shapeOk; rw [h1]; rfl
      refine ⟨_, rfl, by decide +kernel, ?_⟩
      exact .inr ⟨200, rfl, by decide, _, rfl, by decide +kernel, he hb _ (Same.refl _)⟩
    | true =>
    refine ⟨_, rfl, vw, 1, 200, rfl, hvw, _, rfl, ?_⟩
    cases h2 : wholeV vw 1 200 with
    | false =>
      have hb : shapeOk vr vw du = false := by unfold shapeOk; rw [h1, h2]; rfl
      refine ⟨_, rfl, by decide +kernel, ?_⟩
      exact .inr ⟨200, rfl, by decide, _, rfl, by decide +kernel, he hb _ (Same.refl _)⟩
    | true =>
    have hs : shapeOk vr vw du = ruleOk du := by unfold shapeOk; rw [h1, h2]; rfl
    rw [hs] at hq he
    have ty := dp_ty hvu
    have bad : ruleOk du = false → ∀ H', Same H H' → E (.ref CS) none H' := he
    refine ⟨_, rfl, _, _, _, _, _, rfl, .ty _, ty, kit_ty (kit_str du), ?_⟩
    by_cases hstr : tyN du = "str"
    · obtain ⟨x, rfl⟩ : ∃ x, du = .str x := by
        cases du with
        | str x => exact ⟨x, rfl⟩
        | _ => simp [tyN] at hstr
      cases hvu
      refine ⟨true, bl_of (decide_eq_true rfl), ?_⟩
      refine ⟨_, rfl, sz_ok rfl, fun p np => ⟨p, _, rfl, .inr (SqT.of upd_same), rfl, rfl, ?_⟩⟩
      have hin : inV (.str x) [.str "least", .str "first"] = ruleOk (.str x) := by
        show ((("least" : Str) == x) || ((("first" : Str) == x) || false)) = (decide (x = "least") || decide (x = "first"))
        rw [Bool.or_false, Bool.eq_iff_iff]
        simp only [Bool.or_eq_true, beq_iff_eq, decide_eq_true_eq]
        exact ⟨fun h => h.elim (fun e => .inl e.symm) fun e => .inr e.symm, fun h => h.elim (fun e => .inl e.symm) fun e => .inr e.symm⟩
      cases hr2 : ruleOk (.str x) with
      | true => exact ⟨false, bl_of (by rw [hin, hr2]; rfl), hq hr2 _ (Same.new np)⟩
      | false =>
        refine ⟨true, bl_of (by rw [hin, hr2]; rfl), ?_⟩
        refine ⟨_, rfl, by decide +kernel, ?_⟩
        exact .inl ⟨"least", rfl, by decide +kernel, _, rfl, by decide +kernel, _, rfl, by decide +kernel, .inl ⟨"first", rfl, by decide +kernel, _, rfl, by decide +kernel, he hr2 _ (Same.new np)⟩⟩
    · refine ⟨false, bl_of (decide_eq_false hstr), ?_⟩
      have hb : ruleOk du = false := by
        cases du with
        | str x => exact absurd rfl hstr
        | _ => rfl
      refine ⟨_, rfl, by decide +kernel, ?_⟩
      exact .inl ⟨"least", rfl, by decide +kernel, _, rfl, by decide +kernel, _, rfl, by decide +kernel, .inl ⟨"first", rfl, by decide +kernel, _, rfl, by decide +kernel, he hb _ (Same.refl _)⟩⟩
def initS (bs : List Int) : Ns := ⟨bs, 0, 0, 0, [], []⟩
def spInitN (K : PySem.W.Frag) (C CB CS : Addr) : Sp := fun vs H Q E => ∃ (H0 : Hp) (p dx g : Addr) (xs : List V) (ds : List PyData) (vr vw vu : V) (du : PyData), vs = [.ref p, .ref g, vr, vw, vu] ∧ Same H0 H ∧ H0 p = none ∧ H p = some (.ins C dx []) ∧
  SqL K H0 g xs ∧ DpAll K H0 xs ds ∧ xs.length ≤ 1000 ∧ AnyT K H0 vr ∧ AnyT K H0 vw ∧ (∀ H', Same H0 H' → AnyT K H' vr ∧ AnyT K H' vw) ∧ Dp K H0 vu du ∧
  (∀ (bs : List Int) (r wd : Nat) (rule : Str), goodB ds = true → shapeOk vr vw du = true → xs = bs.map V.int → vr = .int (r : Nat) → vw = .int (wd : Nat) → vu = .str rule →
    ∀ H' a, a.p = p → NearAt C H' a ⟨r, wd, rule⟩ (initS bs) → Same H0 H' → (∀ q, Own a (initS bs) q → H0 q = none) → Q .non H') ∧
  (goodB ds = false → ∀ H', Same H0 H' → E (.ref CB) none H') ∧ (goodB ds = true → shapeOk vr vw du = false → ∀ H', Same H0 H' → E (.ref CS) none H')
theorem good_ints {K : PySem.W.Frag} {H : Hp} {xs : List V} {ds : List PyData} (h : DpAll K H xs ds) (g : goodB ds = true) : ∃ bs : List Int, xs = bs.map V.int ∧ (∀ b ∈ bs, 0 ≤ b ∧ b < 1000000) ∧ 1 ≤ bs.length ∧ bs.length ≤ 200 := by
  unfold goodB at g
  rw [Bool.and_eq_true, Bool.and_eq_true, decide_eq_true_eq, decide_eq_true_eq] at g
  obtain ⟨g1, g2, g3⟩ := g
  have main : ∀ {xs : List V} {ds : List PyData}, DpAll K H xs ds → (ds.all fun d => wholeIn d 0 999999) = true → ∃ bs : List Int, xs = bs.map V.int ∧ ∀ b ∈ bs, 0 ≤ b ∧ b < 1000000 := by
    intro xs ds h
    induction ds generalizing xs with
    | nil => intro _; cases h; exact ⟨[], rfl, fun b hb => by cases hb⟩
    | cons d ds ih =>
      intro g
      cases h with
      | cons hd ht =>
        rw [List.all_cons, Bool.and_eq_true] at g
        obtain ⟨bs, e, hb⟩ := ih ht g.2
        cases hd with
        | int i =>
          have hi : (decide (0 ≤ i) && decide (i ≤ 999999)) = true := g.1
          rw [Bool.and_eq_true, decide_eq_true_eq, decide_eq_true_eq] at hi
          refine ⟨i :: bs, by rw [e]; rfl, fun b hb2 => ?_⟩
          rcases List.mem_cons.mp hb2 with rfl | hb2
          · exact ⟨hi.1, by omega⟩
          · exact hb b hb2
        | _ => cases g.1
  obtain ⟨bs, e, hb⟩ := main h g3
  have hl := dpA_len h
  rw [e, List.length_map] at hl
  exact ⟨bs, e, hb, by omega, by omega⟩
abbrev s_Near___init__ : Stmt := inClass (top 19) 0
abbrev N_Near___init__ : List Str := ["self", "boxes", "room", "width", "rule"]
theorem S_Near___init__ : FnScope N_Near___init__ ["self", "boxes", "room", "width", "rule"] (defScope s_Near___init__) := ⟨rfl, rfl, rfl, by decide +kernel, rfl, by decide +kernel, by decide +kernel⟩

theorem m_initN {C CB CS : Addr} (T : Txt K w mg) (W : NCls K C) (mk : PySem.W.makesIn K C = true) (kc : PySem.W.keepIn K (.ref C) = true) (hm : mg "Near" = some (.ref C)) (D : MethAt K C "__init__" "Near.__init__" s_Near___init__) (C_checked_boxes : Cal P w K mg base (L2.CX P w) 3 "checked_boxes" (spCheckedB K CB)) (C__check_shape : Cal P w K mg base (L2.CX P w) 3 "_check_shape" (spCheckShape K CS)) :
    MakX P w K mg base 4 "Near" C (spInitN K C CB CS) := by
  have S := S_Near___init__
  refine makX_of mk kc hm D S (fun _ _ _ _ _ _ us hl => match us, hl with | [_, _, _, _, _], _ => rfl) (fun vs H Q E h => ?_) (fun f cdv A outer s H vs Q E hr h => ?_)
  · obtain ⟨H0, p, dx, g, xs, ds, vr, vw, vu, du, rfl, _⟩ := h
    rfl
  · obtain ⟨H0, p, dx, g, xs, ds, vr, vw, vu, du, rfl, s0, p0, hp, hX, hD, hz, hvr, hvw, hany, hvu, hq, he1, he2⟩ := h
    refine ⟨_, (pss_cons (ps_fld (pv 0) (pe_cx C_checked_boxes (takes_of rfl rfl rfl rfl) hr (by decide) rfl (pa_cons (pv 1) pa_nil)) rfl)
  (pss_cons (ps_expr (pe_cx C__check_shape (takes_of rfl rfl rfl rfl) hr (by decide) rfl (pa_cons (pv 2) (pa_cons (pv 3) (pa_cons (pv 4) pa_nil)))))
  (pss_cons (ps_fld (pv 0) pe_int rfl)
  (pss_cons (ps_fld (pv 0) pe_int rfl)
  (pss_cons (ps_fld (pv 0) pe_int rfl)
  (pss_cons (ps_fld (pv 0) (pv 2) rfl)
  (pss_cons (ps_fld (pv 0) (pv 3) rfl)
  (pss_cons (ps_fld (pv 0) (pv 4) rfl)
  (pss_cons (ps_fld (pv 0) pe_dnewK rfl)
  (pss_one (ps_fld (pv 0) pe_dnewK rfl))))))))))), ?_⟩
    refine ⟨_, rfl, g, xs, ds, rfl, s0.seq hX, dpAll_same s0 _ _ hD, hz, fun hgB H1 af t1 naf gaf => ?_, fun hgB H1 t1 => he1 hgB H1 (s0.trans t1)⟩
    have hp1 := t1 _ _ hp
    have paf : p ≠ af := ne_of_none hp naf
    have naf0 : H0 af = none := s0.free naf
    have t01 := s0.trans t1
    obtain ⟨bs, ebs, hbb, hb1, hb2⟩ := good_ints hD hgB
    refine ⟨_, rfl, p, C, dx, [], rfl, hp1, W.cl, W.nFar, (by show 0 < 1000; decide), ?_⟩
    generalize eH2 : upd H1 p _ = H2
    have g2 : H2 p = some (.ins C dx [(("far" : Str), .ref af)]) := eH2 ▸ upd_same
    have t2 : Same H0 H2 := eH2 ▸ t01.mut p0
    have gaf2 : H2 af = some (.lst xs) := by rw [← eH2]; exact (upd_ne paf.symm).trans gaf
    clear eH2
    refine ⟨_, rfl, _, rfl, _, rfl, vr, vw, vu, du, rfl, (hany _ t2).1, (hany _ t2).2, dp_same t2 _ _ hvu, fun hsh H3 t3 => ?_, fun hsh H3 t3 => he2 hgB hsh H3 (t2.trans t3)⟩
    have g3 := t3 _ _ g2
    have gaf3 := t3 _ _ gaf2
    have t03 := t2.trans t3
    -- what is good is of these forms
    obtain ⟨r, wd, rule, rfl, rfl, rfl⟩ : ∃ (r wd : Nat) (rule : Str), vr = .int (r : Nat) ∧ vw = .int (wd : Nat) ∧ vu = .str rule := by
      unfold shapeOk at hsh
      rw [Bool.and_eq_true, Bool.and_eq_true] at hsh
      obtain ⟨k1, k2, k3⟩ := hsh
      have nat : ∀ v : V, wholeV v 1 200 = true → ∃ n : Nat, v = .int (n : Nat) := fun v h => by
        cases v with
        | int z =>
          have h : (decide (1 ≤ z) && decide (z ≤ 200)) = true := h
          rw [Bool.and_eq_true, decide_eq_true_eq, decide_eq_true_eq] at h
          exact ⟨z.toNat, congrArg V.int (Int.toNat_of_nonneg (by omega)).symm⟩
        | _ => cases h
      obtain ⟨r, er⟩ := nat _ k1
      obtain ⟨wd, ew⟩ := nat _ k2
      cases hvu with
      | str x => exact ⟨r, wd, x, er, ew, rfl⟩
      | _ => cases k3
    refine ⟨_, rfl, p, C, dx, _, rfl, g3, W.cl, W.nFound, (by show 1 < 1000; decide), ?_⟩
    refine ⟨_, rfl, p, C, dx, _, rfl, upd_same, W.cl, W.nMissed, (by show 2 < 1000; decide), ?_⟩
    refine ⟨_, rfl, p, C, dx, _, rfl, upd_same, W.cl, W.nBack, (by show 3 < 1000; decide), ?_⟩
    refine ⟨_, rfl, _, rfl, p, C, dx, _, rfl, upd_same, W.cl, W.nRoom, (by show 4 < 1000; decide), ?_⟩
    refine ⟨_, rfl, _, rfl, p, C, dx, _, rfl, upd_same, W.cl, W.nWidth, (by show 5 < 1000; decide), ?_⟩
    refine ⟨_, rfl, _, rfl, p, C, dx, _, rfl, upd_same, W.cl, W.nRule, (by show 6 < 1000; decide), ?_⟩
    generalize eH4 : upd (upd (upd (upd (upd (upd H3 p _) p _) p _) p _) p _) p _ = H4
    have g4 : H4 p = some (.ins C dx [(("far" : Str), .ref af), (("found" : Str), .int 0), (("missed" : Str), .int 0), (("back" : Str), .int 0), (("_room" : Str), .int (r : Nat)), (("_width" : Str), .int (wd : Nat)), (("_rule" : Str), .str rule)]) := eH4 ▸ upd_same
    have t4 : Same H0 H4 := eH4 ▸ (((((t03.mut p0).mut p0).mut p0).mut p0).mut p0).mut p0
    have gaf4 : H4 af = some (.lst xs) := by rw [← eH4]; walk_at "hp"
    clear eH4
    refine fun dl ndl => ?_
    have npl : p ≠ dl := ne_of_none g4 ndl
    have nfl : af ≠ dl := ne_of_none gaf4 ndl
    have ndl0 : H0 dl = none := t4.free ndl
    refine ⟨_, rfl, p, C, dx, _, rfl, (by walk_at "hp"), W.cl, W.nLines, (by show 7 < 1000; decide), ?_⟩
    generalize eH5 : upd (upd H4 dl _) p _ = H5
    have g5 : H5 p = some (.ins C dx [(("far" : Str), .ref af), (("found" : Str), .int 0), (("missed" : Str), .int 0), (("back" : Str), .int 0), (("_room" : Str), .int (r : Nat)), (("_width" : Str), .int (wd : Nat)), (("_rule" : Str), .str rule), (("_lines" : Str), .ref dl)]) := eH5 ▸ upd_same
    have t5 : Same H0 H5 := eH5 ▸ (t4.more ndl).mut p0
    have gaf5 : H5 af = some (.lst xs) := by rw [← eH5]; walk_at "hp"
    have gdl5 : H5 dl = some (.dK []) := by rw [← eH5]; exact (upd_ne npl.symm).trans upd_same
    clear eH5
    refine fun dw ndw => ?_
    have npw : p ≠ dw := ne_of_none g5 ndw
    have nfw : af ≠ dw := ne_of_none gaf5 ndw
    have nlw : dl ≠ dw := ne_of_none gdl5 ndw
    have ndw0 : H0 dw = none := t5.free ndw
    refine ⟨_, rfl, p, C, dx, _, rfl, (by walk_at "hp"), W.cl, W.nWritten, (by show 8 < 1000; decide), ?_⟩
    refine hq bs r wd rule hgB hsh ebs rfl rfl rfl _ ⟨p, af, dl, dw⟩ rfl ⟨⟨dx, upd_same⟩, ?_, ?_, ?_, nlw, (fun x hx => by cases hx), List.nodup_nil⟩ ((t5.more ndw).mut p0) fun q' o => ?_
    · rw [ebs] at gaf5
      exact (upd_ne paf.symm).trans ((upd_ne nfw).trans gaf5)
    · exact (upd_ne npl.symm).trans ((upd_ne nlw).trans gdl5)
    · exact (upd_ne npw.symm).trans upd_same
    · rcases o with rfl | rfl | rfl | rfl | ⟨x, hx, _⟩
      · exact p0
      · exact naf0
      · exact ndl0
      · exact ndw0
      · cases hx

-- SPLIT
abbrev s__law_cell_at : Stmt := top 25
abbrev N__law_cell_at : List Str := ["_law_script", "_law_k"]
theorem S__law_cell_at : FnScope N__law_cell_at ["_law_script", "_law_k"] (defScope s__law_cell_at) := ⟨rfl, rfl, rfl, by decide +kernel, rfl, by decide +kernel, by decide +kernel⟩

theorem c_cell_at (T : Txt K w mg) (D : DefAt K "_law_cell_at" s__law_cell_at) : Cal P w K mg base CX0 1 "_law_cell_at" (spCellAt K) := by
  have S := S__law_cell_at
  refine cal_of T.toTop D S (fun _ _ _ _ _ _ us hl => match us, hl with | [_, _], _ => rfl) (fun vs H Q E h => ?_) (fun f cdv A outer s H vs Q E hr h => ?_)
  · obtain ⟨a, ns, k, rfl, _⟩ := h
    rfl
  · obtain ⟨a, ns, k, rfl, hS, hk, q⟩ := h
    refine ⟨_, (pss_cons (ps_if (pt_cmpR op_lt (pv 1) (pe_callB call_len_seq (by rfl) T.len PySem.boot_len (pa_cons (pv 0) pa_nil)) (nomark _)) (pss_one (ps_ret (pe_ix ix_list (pv 0) (pv 1) (fun _ _ => rfl)))) pss_nil)
  (pss_one (ps_ret pe_int))), ?_⟩
    refine ⟨_, rfl, _, rfl, a, _, rfl, .inl hS, _, _, rfl, rfl, _, rfl, ?_⟩
    rw [List.length_map]
    refine ite2 (fun h => ?_) (fun h => ?_)
    · have h := of_decide_eq_true h
      exact ⟨_, rfl, _, rfl, a, _, _, _, rfl, rfl, hS, at_ints hk h, q⟩
    · have h : ¬ k < (ns.length : Int) := fun z => h (decide_eq_true z)
      have e : cellAt ns k = 0 := by
        unfold cellAt
        rw [List.getD_eq_getElem?_getD, List.getElem?_eq_none (by omega)]; rfl
      rw [e] at q
      exact q

abbrev s__law_mixed : Stmt := top 27
abbrev N__law_mixed : List Str := ["_law_cell"]
theorem S__law_mixed : FnScope N__law_mixed ["_law_cell"] (defScope s__law_mixed) := ⟨rfl, rfl, rfl, by decide +kernel, rfl, by decide +kernel, by decide +kernel⟩

theorem c_mixed (T : Txt K w mg) (D : DefAt K "_law_mixed" s__law_mixed) : Cal P w K mg base CX0 1 "_law_mixed" spMixed := by
  have S := S__law_mixed
  refine cal_of T.toTop D S (fun _ _ _ _ _ _ us hl => match us, hl with | [_], _ => rfl) (fun vs H Q E h => ?_) (fun f cdv A outer s H vs Q E hr h => ?_)
  · obtain ⟨c, rfl, _⟩ := h
    rfl
  · obtain ⟨c, rfl, q⟩ := h
    refine ⟨_, (pss_one (ps_ret (pe_op op_mod (pe_op op_mul (pv 0) pe_int) pe_int))), ?_⟩
    repeat walk_at "rd"
    exact q

abbrev s__law_whole : Stmt := top 26
abbrev N__law_whole : List Str := ["_law_found"]
theorem S__law_whole : FnScope N__law_whole ["_law_found"] (defScope s__law_whole) := ⟨rfl, rfl, rfl, by decide +kernel, rfl, by decide +kernel, by decide +kernel⟩

theorem c_whole (T : Txt K w mg) (D : DefAt K "_law_whole" s__law_whole) : Cal P w K mg base CX0 1 "_law_whole" (spWhole K) := by
  have S := S__law_whole
  refine cal_of T.toTop D S (fun _ _ _ _ _ _ us hl => match us, hl with | [_], _ => rfl) (fun vs H Q E h => ?_) (fun f cdv A outer s H vs Q E hr h => ?_)
  · obtain ⟨v, n, rfl, _⟩ := h
    rfl
  · obtain ⟨v, n, rfl, ty, k1, k2, q⟩ := h
    refine ⟨_, (pss_one (ps_ret (pe_and (pe_callB call_isi (by rfl) T.isinstance (by decide +kernel) (pa_cons (pv 0) (pa_cons ((pe_bltn (v := .ty "int") (u := .type "int") rfl T.int (by decide +kernel) rfl)) pa_nil))) (pe_one (pe_not (pe_callB call_isi (by rfl) T.isinstance (by decide +kernel) (pa_cons (pv 0) (pa_cons ((pe_bltn (v := .ty "bool") (u := .type "bool") rfl T.bool (by decide +kernel) rfl)) pa_nil)))))))), ?_⟩
    refine ⟨_, rfl, _, _, _, _, _, rfl, .ty _, ty, kit_ty k1, _, rfl, ?_⟩
    refine ite2 (fun h => ?_) (fun h => ?_)
    · refine ⟨_, rfl, _, _, _, _, _, rfl, .ty _, ty, kit_ty k2, _, rfl, ?_⟩
      have h := of_decide_eq_true h
      have e : (!decide (n = "bool")) = decide (n = "int") := by
        rcases h with h | h <;> subst h <;> rfl
      show Q (V.bl (!decide (n = "bool"))) H
      rw [e]
      exact q
    · have e : decide (n = "int") = false := decide_eq_false fun z => h (decide_eq_true (.inl z))
      rw [e] at q
      exact q

def spSizeBy : Sp := fun vs H Q _ => ∃ c : Int, vs = [.int c] ∧ ∀ z H', 1 ≤ z → z ≤ 200 → Same H H' → Q (.int z) H'
abbrev s__law_size_by : Stmt := top 28
abbrev N__law_size_by : List Str := ["_law_cell"]
theorem S__law_size_by : FnScope N__law_size_by ["_law_cell"] (defScope s__law_size_by) := ⟨rfl, rfl, rfl, by decide +kernel, rfl, by decide +kernel, by decide +kernel⟩

theorem c_size_by (T : Txt K w mg) (D : DefAt K "_law_size_by" s__law_size_by) : Cal P w K mg base CX0 1 "_law_size_by" spSizeBy := by
  have S := S__law_size_by
  refine cal_of T.toTop D S (fun _ _ _ _ _ _ us hl => match us, hl with | [_], _ => rfl) (fun vs H Q E h => ?_) (fun f cdv A outer s H vs Q E hr h => ?_)
  · obtain ⟨c, rfl, _⟩ := h
    rfl
  · obtain ⟨c, rfl, q⟩ := h
    refine ⟨_, (pss_one (ps_ret (pe_ix ix_list (pe_lst (pa_cons (pe_op op_add pe_int (pe_op op_mod (pe_op op_fdiv (pv 0) pe_int) pe_int)) (pa_cons (pe_op op_add pe_int (pe_op op_mod (pe_op op_fdiv (pv 0) pe_int) pe_int)) (pa_cons (pe_op op_add pe_int (pe_op op_mod (pe_op op_fdiv (pv 0) pe_int) pe_int)) (pa_cons pe_int pa_nil))))) (pe_ix ix_list (pe_lst (pa_cons pe_int (pa_cons pe_int (pa_cons pe_int (pa_cons pe_int (pa_cons pe_int (pa_cons pe_int (pa_cons pe_int (pa_cons pe_int pa_nil))))))))) (pe_op op_mod (pv 0) pe_int) (fun _ _ => rfl)) (fun _ _ => rfl)))), ?_⟩
    repeat walk_at "rd"
    refine ⟨sz_ok rfl, fun p1 n1 => ?_⟩
    repeat walk_at "rd"
    refine ⟨sz_ok rfl, fun p2 n2 => ?_⟩
    repeat walk_at "rd"
    refine ⟨p2, _, _, _, rfl, rfl, SqL.of upd_same, at_ints_mod (ns := [0, 0, 0, 0, 1, 2, 2, 3]) c (by decide) rfl, ?_⟩
    have hi : ∀ k, k < 8 → ([0, 0, 0, 0, 1, 2, 2, 3] : List Int).getD k 0 = 0 ∨ ([0, 0, 0, 0, 1, 2, 2, 3] : List Int).getD k 0 = 1 ∨ ([0, 0, 0, 0, 1, 2, 2, 3] : List Int).getD k 0 = 2 ∨ ([0, 0, 0, 0, 1, 2, 2, 3] : List Int).getD k 0 = 3 := by decide
    have hi := hi (c % 8).toNat (by omega)
    generalize ([0, 0, 0, 0, 1, 2, 2, 3] : List Int).getD (c % 8).toNat 0 = i at hi
    refine ⟨p1, _, _, _, rfl, rfl, SqL.of (Same.new n2 _ _ upd_same), at_ints (ns := [_, _, _, _]) (by omega) (by show i < 4; omega), q _ _ ?_ ?_ ((Same.new n1).trans (Same.new n2))⟩
    all_goals
      rcases hi with rfl | rfl | rfl | rfl
      all_goals
        first
        | (show (1 : Int) ≤ 1 + c / 8 % 9; omega)
        | (show (1 : Int) ≤ 1 + c / 8 % 3; omega)
        | (show (1 : Int) ≤ 10 + c / 8 % 190; omega)
        | (show (1 : Int) ≤ 200; omega)
        | (show 1 + c / 8 % 9 ≤ (200 : Int); omega)
        | (show 1 + c / 8 % 3 ≤ (200 : Int); omega)
        | (show 10 + c / 8 % 190 ≤ (200 : Int); omega)
        | (show (200 : Int) ≤ 200; omega)

def nearB (ks : List Int) (L : Int) (room : Nat) (rule : Str) : List Int := if L ∈ ks then (if rule = "first" then ks else ks.filter (fun y => y != L) ++ [L]) else (if ks.length = room then ks.drop 1 else ks) ++ [L]

theorem line_in {par : Np} {s : Ns} (G : GoodS par s) {i : Nat} (hi : i < s.far.length) : 0 ≤ ((i / par.wd : Nat) : Int) ∧ ((i / par.wd : Nat) : Int) * par.wd < s.far.length := by
  have := Nat.div_mul_le_self i par.wd
  have h2 : ((i / par.wd : Nat) : Int) * (par.wd : Nat) = ((i / par.wd * par.wd : Nat) : Int) := (Int.natCast_mul _ _).symm
  exact ⟨Int.natCast_nonneg _, by omega⟩
theorem Rel.near {par : Np} {s : Ns} {plain : List Int} (G : GoodS par s) (R : Rel par s plain) {k : Nat} (hk : k < plain.length) (hne : s.far[k]? ≠ plain[k]?) : ((k / par.wd : Nat) : Int) ∈ s.keys := by
  by_cases h : ((k / par.wd : Nat) : Int) ∈ s.written
  · exact G.wsub _ h
  · exact absurd (R.far k hk h) hne
theorem boxes_goodN {bs : List Int} (h : ∀ b ∈ bs, 0 ≤ b ∧ b < 1000000) (h1 : 1 ≤ bs.length) (h2 : bs.length ≤ 200) : goodB ((bs.map V.int).map dOf) = true := by
  unfold goodB
  rw [List.length_map, List.length_map, decide_eq_true h1, decide_eq_true h2, Bool.true_and, Bool.true_and, List.map_map, List.all_map]
  refine List.all_eq_true.mpr fun b hb => ?_
  show (decide (0 ≤ b) && decide (b ≤ 999999)) = true
  rw [decide_eq_true (h b hb).1, decide_eq_true (by have := (h b hb).2; omega)]
  rfl
theorem shape_good {room wd : Nat} {rule : Str} (r0 : 1 ≤ room) (r1 : room ≤ 200) (w0 : 1 ≤ wd) (w1 : wd ≤ 200) (hr2 : rule = "least" ∨ rule = "first") : shapeOk (.int (room : Nat)) (.int (wd : Nat)) (.str rule) = true := by
  unfold shapeOk
  have h1 : wholeV (.int (room : Nat)) 1 200 = true := by show (decide _ && decide _) = true; rw [decide_eq_true (by omega), decide_eq_true (by omega)]; rfl
  have h2 : wholeV (.int (wd : Nat)) 1 200 = true := by show (decide _ && decide _) = true; rw [decide_eq_true (by omega), decide_eq_true (by omega)]; rfl
  rw [h1, h2]
  rcases hr2 with e | e <;> rw [e] <;> rfl
/-- a new Near: what is asked when all is good -/
theorem init_good {K : PySem.W.Frag} {C CB CS : Addr} {H6 : Hp} {ap dx g : Addr} {bs : List Int} {room wd : Nat} {rule : Str} {Q : VK} {E : XK} (nap : H6 ap = none) (ndx : H6 dx = none) (gg : H6 g = some (.lst (bs.map V.int))) (hbb : ∀ b ∈ bs, 0 ≤ b ∧ b < 1000000) (hb1 : 1 ≤ bs.length) (hb2 : bs.length ≤ 200)
    (r0 : 1 ≤ room) (r1 : room ≤ 200) (w0 : 1 ≤ wd) (w1 : wd ≤ 200) (hr2 : rule = "least" ∨ rule = "first")
    (q : ∀ H' a, a.p = ap → NearAt C H' a ⟨room, wd, rule⟩ (initS bs) → Same H6 H' → (∀ q, Own a (initS bs) q → H6 q = none) → Q .non H') :
    spInitN K C CB CS [.ref ap, .ref g, .int (room : Nat), .int (wd : Nat), .str rule] (upd (upd H6 dx (.own ap)) ap (.ins C dx [])) Q E := by
  have s0 : Same H6 (upd (upd H6 dx (.own ap)) ap (.ins C dx [])) := fun b o e => by
    rw [upd_ne (ne_of_none e nap), upd_ne (ne_of_none e ndx)]
    exact e
  have hg := boxes_goodN hbb hb1 hb2
  have hs := shape_good r0 r1 w0 w1 hr2
  refine ⟨H6, ap, dx, g, _, _, _, _, _, _, rfl, s0, nap, upd_same, SqL.of gg, dpA_int _, by rw [List.length_map]; omega, any_int _, any_int _, fun H' _ => ⟨any_int _, any_int _⟩, .str rule, fun bs' r' wd' rule' _ _ exs er ew eu H7 a ea N7 t7 fresh => ?_, (fun hb => by rw [hg] at hb; cases hb), (fun _ hb => by rw [hs] at hb; cases hb)⟩
  have exs := map_int_inj exs
  have er := V.int.inj er
  have ew := V.int.inj ew
  have eu := V.str.inj eu
  obtain rfl : room = r' := by omega
  obtain rfl : wd = wd' := by omega
  subst eu exs
  exact q H7 a ea N7 t7 fresh
theorem good0 {par : Np} {bs : List Int} (r0 : 1 ≤ par.room) (w0 : 1 ≤ par.wd) : GoodS par (initS bs) := ⟨List.nodup_nil, (fun x hx => by cases hx), (fun l hl => by cases hl), List.nodup_nil, Nat.zero_le _, r0, w0⟩

theorem keys_touch {par : Np} {s : Ns} (G : GoodS par s) (hr : par.rule = "least" ∨ par.rule = "first") (L : Int) (b : Addr) : (touchS par s L b).keys = nearB s.keys L par.room par.rule ∧ (touchS par s L b).found = (if L ∈ s.keys then s.found + 1 else s.found) ∧ (touchS par s L b).missed = (if L ∈ s.keys then s.missed else s.missed + 1) := by
  unfold touchS nearB
  by_cases h : L ∈ s.keys
  · rw [if_pos h, if_pos h, if_pos h, if_pos h]
    have h' : L ∈ ({ s with found := s.found + 1 } : Ns).keys := h
    obtain ⟨b1, ns, hlk, hm⟩ := key_get h'
    unfold findS
    rw [hlk]
    rcases hr with e | e
    · rw [e, if_neg (by decide : ¬ ("least" : Str) = "first")]
      refine ⟨?_, rfl, rfl⟩
      show (dropP s.lines L ++ [(L, (b1, ns))]).map (·.1) = _
      rw [List.map_append, drop_keys]
      rfl
    · rw [e, if_pos rfl]
      exact ⟨rfl, rfl, rfl⟩
  · rw [if_neg h, if_neg h, if_neg h, if_neg h]
    have hlen : s.keys.length = s.lines.length := by unfold Ns.keys; rw [List.length_map]
    by_cases hf : s.lines.length = par.room
    · rw [if_pos (hlen.trans hf)]
      have e : bringS par { s with missed := s.missed + 1 } L b = { goS par.wd { s with missed := s.missed + 1 } (s.keys.headD 0) with lines := (goS par.wd { s with missed := s.missed + 1 } (s.keys.headD 0)).lines ++ [(L, (b, sliceF (goS par.wd { s with missed := s.missed + 1 } (s.keys.headD 0)).far (L * par.wd).toNat par.wd))] } := by
        unfold bringS
        rw [if_pos hf]
        rfl
      have r1 := G.r1
      have hg := go_cases par.wd { s with missed := s.missed + 1 } (s.keys.headD 0)
      rw [e]
      refine ⟨?_, ?_, ?_⟩
      · show ((goS par.wd { s with missed := s.missed + 1 } (s.keys.headD 0)).lines ++ [_]).map (fun x : Int × (Addr × List Int) => x.1) = _
        rw [List.map_append, hg]
        show (dropP s.lines (s.keys.headD 0)).map (·.1) ++ [L] = _
        rw [drop_keys]
        congr 1
        cases hk : s.keys with
        | nil => rw [hk] at hlen; simp at hlen; omega
        | cons k ks =>
          have nd := G.keys
          rw [hk] at nd
          have hk2 : s.lines.map (·.1) = k :: ks := hk
          rw [hk2, List.filter_cons_of_neg (by simp)]
          exact flt_id (List.nodup_cons.mp nd).1
      · show (goS par.wd { s with missed := s.missed + 1 } (s.keys.headD 0)).found = _
        rw [hg]
        dsimp only
        split <;> rfl
      · show (goS par.wd { s with missed := s.missed + 1 } (s.keys.headD 0)).missed = _
        rw [hg]
        dsimp only
        split <;> rfl
    · rw [if_neg (fun z => hf (hlen.symm.trans z))]
      have e : bringS par { s with missed := s.missed + 1 } L b = { s with missed := s.missed + 1, lines := s.lines ++ [(L, (b, sliceF s.far (L * par.wd).toNat par.wd))] } := by
        unfold bringS
        rw [if_neg hf]
      rw [e]
      refine ⟨?_, rfl, rfl⟩
      show (s.lines ++ [_]).map (fun x : Int × (Addr × List Int) => x.1) = _
      rw [List.map_append]
      rfl

def spTouchesBy (K : PySem.W.Frag) : Sp := fun vs H Q _ => ∃ (a : Addr) (cs : List Int) (N : Nat), vs = [.ref a, .int (N : Nat)] ∧ SqL K H a (cs.map V.int) ∧ cs.length ≤ 64 ∧ 1 ≤ N ∧ N ≤ 300 ∧ ∀ H' p us ts, Same H H' → H' p = some (.lst us) → TsAt H' us ts → ts.length = cs.length → (∀ t ∈ ts, RW t ∧ 0 ≤ t.2 ∧ t.2 < (N : Nat)) → Q (.ref p) H'
abbrev s__law_touches_by : Stmt := top 29
abbrev N__law_touches_by : List Str := ["_law_cells", "_law_size", "_law_touches", "_law_cell", "_law_box", "_law_back"]
theorem S__law_touches_by : FnScope N__law_touches_by ["_law_cells", "_law_size"] (defScope s__law_touches_by) := ⟨rfl, rfl, rfl, by decide +kernel, rfl, by decide +kernel, by decide +kernel⟩

theorem c_touches_by (T : Txt K w mg) (D : DefAt K "_law_touches_by" s__law_touches_by) (C__law_mixed : Cal P w K mg base CX0 1 "_law_mixed" spMixed) : Cal P w K mg base CX0 2 "_law_touches_by" (spTouchesBy K) := by
  have S := S__law_touches_by
  refine cal_of T.toTop D S (fun _ _ _ _ _ _ us hl => match us, hl with | [_, _], _ => rfl) (fun vs H Q E h => ?_) (fun f cdv A outer s H vs Q E hr h => ?_)
  · obtain ⟨a, cs, N, rfl, _⟩ := h
    rfl
  · obtain ⟨a, cs, N, rfl, hS, hl, m0, mN, q⟩ := h
    refine ⟨_, (pss_cons (ps_set (i := 2) S.nd rfl (Or.inl rfl) (pe_lst pa_nil))
  (pss_cons (ps_for PassesOwn.never rfl (pi_list (pv 0)) (pg_name (i := 3) S.nd rfl (Or.inl rfl))
  (pss_cons (ps_set (i := 4) S.nd rfl (Or.inl rfl) (pe_op op_mod (pe_c C__law_mixed hr (by decide) rfl (pa_cons (pv 3) pa_nil)) (pv 1)))
  (pss_cons (ps_set (i := 5) S.nd rfl (Or.inl rfl) (pe_op op_mod (pe_op op_fdiv (pv 3) pe_int) pe_int))
  (pss_cons (ps_if (PW.pt (pw_and (pt_chain op_lt op_lt pe_int (pv 5) pe_int) (pw_and1 (pt_cmpR op_le (pv 5) (pe_callB call_len_seq (by rfl) T.len PySem.boot_len (pa_cons (pv 2) pa_nil)) (nomark _))))) (pss_one (ps_set (i := 4) S.nd rfl (Or.inl rfl) (pe_ix ix_tup (pe_ix ix_list (pv 2) (pe_op op_sub (pe_callB call_len_seq (by rfl) T.len PySem.boot_len (pa_cons (pv 2) pa_nil)) (pv 5)) (fun _ _ => rfl)) pe_int (fun _ _ => rfl)))) pss_nil)
  (pss_one (ps_expr (pe_bm PySem.F.plainAttrs_list PySem.F.slot_list_append PySem.F.type_list_append mt_append (pv 2) (pa_cons (pe_tup (pa_cons (pe_ix ix_list (pe_lst (pa_cons pe_str (pa_cons pe_str pa_nil))) (pe_op op_mod (pv 3) pe_int) (fun _ _ => rfl)) (pa_cons (pv 4) pa_nil))) pa_nil))))))))
  (pss_one (ps_ret (pv 2))))), ?_⟩
    refine ⟨sz_ok rfl, fun p np => ?_⟩
    refine ⟨_, rfl, a, rfl, ⟨_, (Same.new np).seq hS⟩, for_list (xs := cs.map V.int) (fun i σ H' => (∃ v2 v3 v4, σ = [some (.ref a), some (.int (N : Nat)), some (.ref p), v2, v3, v4]) ∧ Same H H' ∧ ∃ us ts, H' p = some (.lst us) ∧ TsAt H' us ts ∧ ts.length = i ∧ ∀ t ∈ ts, RW t ∧ 0 ≤ t.2 ∧ t.2 < (N : Nat))
      ⟨⟨_, _, _, rfl⟩, Same.new np, [], [], upd_same, ⟨rfl, fun j t e => by simp at e⟩, rfl, fun t h => by cases h⟩ (fun i σ H' _ h => h.2.1.seq hS) (fun i y σ H' ey h => ?_) (fun σ H' h => ?_)⟩
    · obtain ⟨⟨v2, v3, v4, rfl⟩, t, us, ts, gp, hT, hts, hall⟩ := h
      obtain ⟨c, rfl⟩ : ∃ x, y = V.int x := by
        rw [List.getElem?_map] at ey
        obtain ⟨y, e, e2⟩ := Option.map_eq_some_iff.mp ey
        exact ⟨y, e2.symm⟩
      have hi : i < cs.length := by
        have := (List.getElem?_eq_some_iff.mp ey).1
        rw [List.length_map] at this
        exact this
      clear ey
      have t1 : Same H' H' := Same.refl _
      have m0' : (0 : Int) < (N : Nat) := by omega
      refine ⟨_, rfl, _, rfl, _, rfl, _, _, rfl, rfl, m0', _, rfl, _, _, rfl, rfl, ⟨by decide, by decide⟩, _, _, rfl, rfl, (by show (0 : Int) < 8; decide), ?_⟩
      have b0 := mod_nn (mixed c) m0'
      have b1 : mixed c % ((N : Nat) : Int) < (N : Nat) := mod_lt (mixed c) m0'
      have k0 : 0 ≤ c / 2 % 8 := by omega
      have k1 : c / 2 % 8 < 8 := by omega
      obtain ⟨bx, hbx⟩ : ∃ bx, mixed c % ((N : Nat) : Int) = bx := ⟨_, rfl⟩
      rw [hbx] at b0 b1
      have gp1 := t1 _ _ gp
      have hT1 := hT.same t1
      have hul := hT.1
      by_cases h1 : 0 < (c / 2 % 8)
      case' neg =>
        refine ⟨_, rfl, _, _, rfl, rfl, _, rfl, ?_⟩
        refine (if_neg (fun z => h1 (of_decide_eq_true z))).mpr ?_
        refine ⟨_, rfl, ?_⟩
      case' pos =>
        refine ⟨_, rfl, _, _, rfl, rfl, _, rfl, ?_⟩
        refine (if_pos (decide_eq_true h1)).mpr ?_
        refine ⟨_, _, rfl, rfl, ?_⟩
        by_cases h2 : (c / 2 % 8) < 5
        case' neg => refine ⟨false, bl_of (decide_eq_false h2), ?_⟩
        case' pos =>
          refine ⟨true, bl_of (decide_eq_true h2), _, rfl, _, rfl, p, _, rfl, .inl (SqL.of gp1), _, _, rfl, rfl, ?_⟩
          by_cases h3 : (c / 2 % 8) ≤ (us.length : Nat)
          case' neg => refine ⟨false, bl_of (decide_eq_false h3), ?_⟩
          case' pos =>
            refine ⟨true, bl_of (decide_eq_true h3), ?_⟩
            have hj : us.length - (c / 2 % 8).toNat < ts.length := by omega
            obtain ⟨q1, e1, e2⟩ := hT1.2 _ _ (List.getElem?_eq_getElem hj)
            have hbb := hall _ (List.getElem_mem hj)
            refine ⟨_, rfl, _, rfl, p, _, rfl, .inl (SqL.of gp1), _, rfl, _, _, rfl, rfl, p, us, _, .ref q1, rfl, rfl, SqL.of gp1, at_in (by omega) (by rw [show ((us.length : Nat) - (c / 2 % 8) : Int).toNat = us.length - (c / 2 % 8).toNat by omega]; exact e1), q1, _, _, _, rfl, rfl, SqT.of e2, at_in (by decide) rfl, ?_⟩
            replace b0 := hbb.2.1
            replace b1 := hbb.2.2
            clear hbx
            obtain ⟨bx, hbx⟩ : ∃ bx, ts[us.length - (c / 2 % 8).toNat].2 = bx := ⟨_, rfl⟩
            rw [hbx] at b0 b1
      all_goals
        refine ⟨_, rfl, .inl ⟨rfl, _, SqL.of gp1⟩, sz_ok rfl, fun p2 n2 => ?_⟩
        generalize e3 : upd H' p2 _ = H2
        have t2 : Same H' H2 := e3 ▸ Same.new n2
        have g2 : H2 p2 = some (.lst (([("read" : Str), "write"] : List Str).map V.str)) := e3 ▸ upd_same
        clear e3
        obtain ⟨k, hk, hrw⟩ : ∃ k : Str, ([("read" : Str), "write"] : List Str).getD (c % 2).toNat Str.empty = k ∧ (k = "read" ∨ k = "write") := by
          have h : (c % 2).toNat = 0 ∨ (c % 2).toNat = 1 := by omega
          rcases h with h | h <;> rw [h]
          · exact ⟨_, rfl, .inl rfl⟩
          · exact ⟨_, rfl, .inr rfl⟩
        refine ⟨_, rfl, _, _, rfl, rfl, (by show (0 : Int) < 2; decide), p2, _, _, _, rfl, rfl, SqL.of g2, at_strs_mod (ns := ["read", "write"]) c (by decide) rfl, ?_⟩
        rw [hk]
        refine ⟨_, rfl, sz_ok rfl, fun p3 n3 => ?_⟩
        generalize e4 : upd H2 p3 _ = H3
        have t3 : Same H2 H3 := e4 ▸ Same.new n3
        have g3 : H3 p3 = some (.tup [.str k, .int bx]) := by
          rw [← hbx]
          exact e4 ▸ upd_same
        clear e4
        have t13 := (t1.trans t2).trans t3
        have gp3 := t13 _ _ gp
        refine ⟨p, us, _, rfl, rfl, gp3, small1000 (by omega), ?_⟩
        refine ⟨⟨_, _, _, rfl⟩, (t.trans t13).mut np, us ++ [.ref p3], ts ++ [(k, bx)], upd_same, ?_, by rw [List.length_append, hts]; rfl, fun t ht => ?_⟩
        · exact ((hT.same t13).snoc (t := (k, bx)) g3).mut gp3 fun q o e n => (upd_ne n).trans e
        · rcases List.mem_append.mp ht with h | h
          · exact hall t h
          · cases List.mem_singleton.mp h
            exact ⟨hrw, b0, b1⟩
    · obtain ⟨⟨v2, v3, v4, rfl⟩, t, us, ts, gp, hT, hts, hall⟩ := h
      rw [List.length_map] at hts
      exact ⟨_, rfl, q _ _ us ts t gp hT hts hall⟩

theorem nearB_least (ks : List Int) (L : Int) (room : Nat) : nearB ks L room "least" = nearS room ks L := by
  unfold nearB nearS
  rw [if_neg (by decide : ¬ ("least" : Str) = "first")]
/-- a touch by the rule least: the keys, and what is counted -/
def spStep (K : PySem.W.Frag) (C : Addr) : Sp := fun vs H Q _ => ∃ (a : Na) (par : Np) (s : Ns) (pt : Addr) (t : Str × Int), vs = [.ref a.p, .ref pt] ∧ H pt = some (.tup [.str t.1, .int t.2]) ∧ RW t ∧ 0 ≤ t.2 ∧ t.2 < (s.far.length : Nat) ∧ NearAt C H a par s ∧ GoodS par s ∧ par.rule = "least" ∧ s.far.length ≤ 300 ∧ par.wd ≤ 300 ∧ par.room ≤ 300 ∧ s.found ≤ 1000 ∧ ¬ Own a s pt ∧
  ∀ H' s', NearAt C H' a par s' → GoodS par s' → s'.far.length = s.far.length → s'.keys = nearS par.room s.keys (t.2 / (par.wd : Nat)) → s'.found = (if t.2 / (par.wd : Nat) ∈ s.keys then s.found + 1 else s.found) → s'.missed = (if t.2 / (par.wd : Nat) ∈ s.keys then s.missed else s.missed + 1) → Step H a s H' s' → Q (.int (if t.2 / (par.wd : Nat) ∈ s.keys then 1 else 0)) H'
abbrev s__law_step : Stmt := top 30
abbrev N__law_step : List Str := ["_law_holder", "_law_touch", "_law_ahead"]
theorem S__law_step : FnScope N__law_step ["_law_holder", "_law_touch"] (defScope s__law_step) := ⟨rfl, rfl, rfl, by decide +kernel, rfl, by decide +kernel, by decide +kernel⟩

theorem c_step {C C3 : Addr} (T : Txt K w mg) (W : NCls K C) (D : DefAt K "_law_step" s__law_step) (M_look : MetX P w K mg base 5 C "look" (spLookN K C C3)) (M_put : MetX P w K mg base 5 C "put" (spPutN K C C3)) : Cal P w K mg base CX0 6 "_law_step" (spStep K C) := by
  have S := S__law_step
  refine cal_of T.toTop D S (fun _ _ _ _ _ _ us hl => match us, hl with | [_, _], _ => rfl) (fun vs H Q E h => ?_) (fun f cdv A outer s H vs Q E hr h => ?_)
  · obtain ⟨a, par, s, pt, t, rfl, _⟩ := h
    rfl
  · obtain ⟨a, par, s, pt, ⟨kk, bz⟩, rfl, gt, hrw, b0, b1, N, G, hle, hf, hwd, hro, hfo, npt, q⟩ := h
    dsimp only at gt hrw b0 b1 q
    obtain ⟨b, rfl⟩ : ∃ b : Nat, bz = (b : Nat) := ⟨bz.toNat, (Int.toNat_of_nonneg b0).symm⟩
    have hb : b < s.far.length := by omega
    have ediv : ((b : Nat) : Int) / ((par.wd : Nat) : Int) = ((b / par.wd : Nat) : Int) := (Int.natCast_ediv _ _).symm
    rw [ediv] at q
    have hline := line_in (par := par) (s := s) G (i := b) hb
    have fin : ∀ (H1 : Hp) (s' : Ns), NearAt C H1 a par s' → s'.found = (if ((b / par.wd : Nat) : Int) ∈ s.keys then s.found + 1 else s.found) → (((s'.found : Nat) : Int) - ((s.found : Nat) : Int)) = (if ((b / par.wd : Nat) : Int) ∈ s.keys then 1 else 0) := fun H1 s' _ e => by
      rw [e]
      split <;> omega
    have kt := fun bb => keys_touch G (.inl hle) ((b / par.wd : Nat) : Int) bb
    rw [hle] at kt
    refine ⟨_, (pss_cons (ps_set (i := 2) S.nd rfl (Or.inl rfl) (pe_fld (pv 0) rfl))
  (pss_cons (ps_if (pt_cmpR op_eq (pe_ix ix_tup (pv 1) pe_int (fun _ _ => rfl)) pe_str (nomark _)) (pss_one (ps_expr (pe_mxq M_look hr (by decide) (pv 0) (pa_cons (pe_ix ix_tup (pv 1) pe_int (fun _ _ => rfl)) pa_nil)))) (pss_one (ps_expr (pe_mxq M_put hr (by decide) (pv 0) (pa_cons (pe_ix ix_tup (pv 1) pe_int (fun _ _ => rfl)) (pa_cons pe_int pa_nil))))))
  (pss_one (ps_ret (pe_op op_sub (pe_fld (pv 0) rfl) (pv 2)))))), ?_⟩
    obtain ⟨dx, hi⟩ := N.ins
    refine ⟨_, rfl, a.p, C, dx, _, _, rfl, hi, W.cl, W.nFound, rfl, ?_⟩
    refine ⟨_, rfl, pt, _, _, _, rfl, rfl, SqT.of gt, at_in (by decide) rfl, rfl, ?_⟩
    by_cases hk : kk = "read"
    case' pos =>
      refine ⟨true, bl_of (decide_eq_true (congrArg V.str hk)), ?_⟩
      refine ⟨_, rfl, a.p, dx, _, rfl, hi, rfl, _, rfl, pt, _, _, _, rfl, rfl, SqT.of gt, at_in (by decide) rfl, a, par, s, .int (b : Nat), rfl, any_int _, N, G, by omega, by omega, by omega, by omega, fun k' ev hil H1 bb N1 st1 => ?_, fun hbad => (no_bad (by omega) hbad).elim⟩
      obtain rfl : b = k' := by have := V.int.inj ev; omega
      obtain ⟨e1, e2, e3⟩ := kt bb
      obtain ⟨G1, ef1⟩ := G.touch (b := bb) hline.1 hline.2
      have BB := (⟨N1, G1, ef1, e1.trans (nearB_least _ _ _), e2, e3, st1⟩ : _ ∧ _ ∧ _ ∧ _ ∧ _ ∧ _ ∧ _)
    case' neg =>
      refine ⟨false, bl_of (decide_eq_false fun z => hk (V.str.inj z)), ?_⟩
      refine ⟨_, rfl, a.p, dx, _, rfl, hi, rfl, _, rfl, pt, _, _, _, rfl, rfl, SqT.of gt, at_in (by decide) rfl, a, par, s, .int (b : Nat), 5, rfl, any_int _, N, G, by omega, by omega, by omega, by omega, fun k' ev hil H1 bb N1 st1 => ?_, fun hbad => (no_bad (by omega) hbad).elim⟩
      obtain rfl : b = k' := by have := V.int.inj ev; omega
      obtain ⟨e1, e2, e3⟩ := kt bb
      obtain ⟨G1, ef1⟩ := G.touch (b := bb) hline.1 hline.2
      have BB := (⟨N1, G1.put (i := b % par.wd) (n := 5) (L := ((b / par.wd : Nat) : Int)) touch_key, ef1, (set_keys (touchS par s ((b / par.wd : Nat) : Int) bb).lines ((b / par.wd : Nat) : Int) (b % par.wd) 5).trans (e1.trans (nearB_least _ _ _)), e2, e3, st1⟩ : _ ∧ _ ∧ _ ∧ _ ∧ _ ∧ _ ∧ _)
    all_goals
      obtain ⟨NB, GB, eB, kB, fB, mB, sB⟩ := BB
      obtain ⟨dxB, hiB⟩ := NB.ins
      refine ⟨_, rfl, a.p, C, dxB, _, _, rfl, hiB, W.cl, W.nFound, rfl, _, rfl, _, _, rfl, rfl, ?_⟩
      dsimp only
      rw [fin _ _ NB fB]
      exact q _ _ NB GB eB kB fB mB sB

/-! ### two Nears side by side, none has what is the other's -/
structure Two (C : Addr) (HB H : Hp) (a b : Na) (par par2 : Np) (s1 s2 : Ns) : Prop where
  na : NearAt C H a par s1
  nb : NearAt C H b par2 s2
  dj : ∀ q, Own a s1 q → ¬ Own b s2 q
  hb : ∀ q o, HB q = some o → H q = some o ∧ ¬ Own a s1 q ∧ ¬ Own b s2 q
theorem Two.fst {C : Addr} {HB H H1 : Hp} {a b : Na} {par par2 : Np} {s1 s2 s' : Ns} (t : Two C HB H a b par par2 s1 s2) (N : NearAt C H1 a par s') (st : Step H a s1 H1 s') : Two C HB H1 a b par par2 s' s2 := by
  have nd : ∀ q, Own b s2 q → ¬ Own a s1 q := fun q w w' => t.dj q w' w
  refine ⟨N, t.nb.keep fun q o w e => (st q o e (nd q w)).1, fun q w w2 => ?_, fun q o e => ?_⟩
  · obtain ⟨u, hu⟩ := t.nb.some w2
    exact (st q u hu (nd q w2)).2 w
  · obtain ⟨h1, h2, h3⟩ := t.hb q o e
    exact ⟨(st q o h1 h2).1, (st q o h1 h2).2, h3⟩
theorem Two.snd {C : Addr} {HB H H1 : Hp} {a b : Na} {par par2 : Np} {s1 s2 s' : Ns} (t : Two C HB H a b par par2 s1 s2) (N : NearAt C H1 b par2 s') (st : Step H b s2 H1 s') : Two C HB H1 a b par par2 s1 s' := by
  refine ⟨t.na.keep fun q o w e => (st q o e (t.dj q w)).1, N, fun q w => ?_, fun q o e => ?_⟩
  · obtain ⟨u, hu⟩ := t.na.some w
    exact (st q u hu (t.dj q w)).2
  · obtain ⟨h1, h2, h3⟩ := t.hb q o e
    exact ⟨(st q o h1 h3).1, h2, (st q o h1 h3).2⟩
theorem Two.same {C : Addr} {HB H H1 : Hp} {a b : Na} {par par2 : Np} {s1 s2 : Ns} (t : Two C HB H a b par par2 s1 s2) (k : Same H H1) : Two C HB H1 a b par par2 s1 s2 :=
  ⟨t.na.same k, t.nb.same k, t.dj, fun q o e => ⟨k _ _ (t.hb q o e).1, (t.hb q o e).2⟩⟩
/-- what a step by the rule least counts, told by the depth -/
theorem told_near {R : Nat} {ls : List Int} {k : Nat} : (ls.getD k 0 ∈ lastN R (ordL (ls.take k))) ↔ ∃ d, depO (ordL (ls.take k)) (ls.getD k 0) = some d ∧ d < R := mem_last (nd_ordL _) _
theorem near_next {R : Nat} (hR : 1 ≤ R) {ls : List Int} {k : Nat} (hk : k < ls.length) : nearS R (lastN R (ordL (ls.take k))) (ls.getD k 0) = lastN R (ordL (ls.take (k + 1))) := by
  rw [List.take_add_one, List.getElem?_eq_getElem hk]
  show _ = lastN R (ordL (ls.take k ++ [ls[k]]))
  rw [ordL_snoc, near_last hR (nd_ordL _), List.getD_eq_getElem?_getD, List.getElem?_eq_getElem hk]
  rfl
theorem miss_next {R : Nat} {ls : List Int} {k : Nat} (hk : k < ls.length) : missN ((depsL ls).take (k + 1)) (R : Nat) = if ls.getD k 0 ∈ lastN R (ordL (ls.take k)) then missN ((depsL ls).take k) (R : Nat) else missN ((depsL ls).take k) (R : Nat) + 1 := by
  have hk2 : (depsL ls)[k]? = some (depO (ordL (ls.take k)) (ls.getD k 0)) := by
    unfold depsL
    rw [List.getElem?_map, List.getElem?_range hk]
    rfl
  unfold missN
  rw [List.take_add_one, hk2, List.filter_append, List.length_append]
  by_cases h : ls.getD k 0 ∈ lastN R (ordL (ls.take k))
  · rw [if_pos h]
    obtain ⟨d, e, hd⟩ := told_near.mp h
    rw [e]
    show _ + (List.filter (keepO R) [some d]).length = _
    rw [List.filter_cons_of_neg (by show ¬ decide ((R : Int) ≤ (d : Nat)) = true; rw [decide_eq_true_iff]; omega)]
    rfl
  · rw [if_neg h]
    cases e : depO (ordL (ls.take k)) (ls.getD k 0) with
    | none => rfl
    | some d =>
      have hd : ¬ d < R := fun z => h (told_near.mpr ⟨d, e, z⟩)
      show _ + (List.filter (keepO R) [some d]).length = _
      rw [List.filter_cons_of_pos (by show decide ((R : Int) ≤ (d : Nat)) = true; rw [decide_eq_true_iff]; omega)]
      rfl

-- SPLIT
theorem miss_le {r r2 : Int} (h : r ≤ r2) : ∀ os : List (Option Nat), missN os r2 ≤ missN os r
  | [] => Nat.le_refl _
  | o :: os => by
    have ih := miss_le h os
    unfold missN at ih ⊢
    rw [List.filter_cons, List.filter_cons]
    by_cases h2 : keepO r2 o = true
    · have h1 : keepO r o = true := by
        cases o with
        | none => rfl
        | some d =>
          have ho : decide (r2 ≤ (d : Nat)) = true := h2
          show decide (r ≤ (d : Nat)) = true
          rw [decide_eq_true_iff] at ho ⊢
          omega
      rw [if_pos h2, if_pos h1]
      simp only [List.length_cons]
      omega
    · rw [if_neg h2]
      split
      · simp only [List.length_cons]
        omega
      · exact ih
abbrev s_law : Stmt := top 31
abbrev N_law : List Str := ["_law_script", "_law_size", "_law_first", "_law_room", "_law_width", "_law_touches", "_law_told", "_law_less", "_law_more", "_law_k", "_law_found", "_law_also", "_law_held", "_law_one", "_law_other", "_law_line"]
theorem S_law : FnScope N_law ["_law_script"] (defScope s_law) := ⟨rfl, rfl, rfl, by decide +kernel, rfl, by decide +kernel, by decide +kernel⟩

theorem ok_law {C CB CS : Addr} (T : Txt K w mg) (W : NCls K C) (D : DefAt K "law" s_law)
    (c_cell : ∀ base, Cal P w K mg base CX0 1 "_law_cell_at" (spCellAt K)) (c_mix : ∀ base, Cal P w K mg base CX0 1 "_law_mixed" spMixed) (c_size : ∀ base, Cal P w K mg base CX0 1 "_law_size_by" spSizeBy) (c_wh : ∀ base, Cal P w K mg base CX0 1 "_law_whole" (spWhole K))
    (c_tb : ∀ base, Cal P w K mg base CX0 2 "_law_touches_by" (spTouchesBy K)) (c_st : ∀ base, Cal P w K mg base CX0 6 "_law_step" (spStep K C)) (c_dp : ∀ base, Cal P w K mg base CX0 3 "depths" (spDepths K)) (c_mb : ∀ base, Cal P w K mg base CX0 1 "missed_by" (spMissedBy K))
    (m_near : ∀ base, MakX P w K mg base 4 "Near" C (spInitN K C CB CS)) (m_held_ : ∀ base, C8.Met P w K mg base 1 C "held" (spHeld C) []) : LawOk P w K mg 7 := by
  have S := S_law
  refine law_of T.toTop D S (fun _ _ _ _ _ _ _ => rfl) (fun base f cdv A outer s H a0 ns Q E hr hS hlen q => ?_)
  have C__law_cell_at := c_cell base
  have C__law_mixed := c_mix base
  have C__law_size_by := c_size base
  have C__law_whole := c_wh base
  have C__law_touches_by := c_tb base
  have C__law_step := c_st base
  have C_depths := c_dp base
  have C_missed_by := c_mb base
  have M_Near := m_near base
  have M_held := m_held_ base
  have hu64 := hu64_of hr
  refine ⟨_, (pss_cons (ps_set (i := 1) S.nd rfl (Or.inl rfl) (pe_c C__law_size_by hr (by decide) rfl (pa_cons (pe_c C__law_cell_at hr (by decide) rfl (pa_cons (pv 0) (pa_cons pe_int pa_nil))) pa_nil)))
  (pss_cons (ps_set (i := 2) S.nd rfl (Or.inl rfl) (pe_c C__law_cell_at hr (by decide) rfl (pa_cons (pv 0) (pa_cons pe_int pa_nil))))
  (pss_cons (ps_set (i := 3) S.nd rfl (Or.inl rfl) (pe_ix ix_list (pe_lst (pa_cons (pe_op op_add pe_int (pe_op op_mod (pe_op op_fdiv (pv 2) pe_int) pe_int)) (pa_cons (pe_op op_add pe_int (pe_op op_mod (pe_op op_fdiv (pv 2) pe_int) pe_int)) (pa_cons pe_int (pa_cons (pe_op op_add pe_int (pe_op op_mod (pe_op op_fdiv (pv 2) pe_int) pe_int)) pa_nil))))) (pe_op op_mod (pv 2) pe_int) (fun _ _ => rfl)))
  (pss_cons (ps_set (i := 4) S.nd rfl (Or.inl rfl) (pe_ix ix_list (pe_lst (pa_cons pe_int (pa_cons (pe_op op_add pe_int (pe_op op_mod (pe_c C__law_mixed hr (by decide) rfl (pa_cons (pv 2) pa_nil)) pe_int)) (pa_cons pe_int (pa_cons (pe_op op_add pe_int (pe_op op_mod (pe_c C__law_mixed hr (by decide) rfl (pa_cons (pv 2) pa_nil)) pe_int)) pa_nil))))) (pe_op op_mod (pe_op op_fdiv (pe_c C__law_cell_at hr (by decide) rfl (pa_cons (pv 0) (pa_cons pe_int pa_nil))) pe_int) pe_int) (fun _ _ => rfl)))
  (pss_cons (ps_set (i := 5) S.nd rfl (Or.inl rfl) (pe_c C__law_touches_by hr (by decide) rfl (pa_cons (pe_slice sl_list (pv 0) (po_some pe_int) po_none) (pa_cons (pv 1) pa_nil))))
  (pss_cons (ps_set (i := 6) S.nd rfl (Or.inl rfl) (pe_c C_depths hr (by decide) rfl (pa_cons (pe_callTy call_list_of (by rfl) T.list (by decide +kernel) (pa_cons (pv 5) pa_nil)) (pa_cons (pv 4) pa_nil))))
  (pss_cons (ps_set (i := 7) S.nd rfl (Or.inl rfl) (pe_mkq M_Near hr (by decide) rfl (pa_cons (pe_op op_rep (pe_lst (pa_cons pe_int pa_nil)) (pv 1)) (pa_cons (pv 3) (pa_cons (pv 4) (pa_cons pe_str pa_nil))))))
  (pss_cons (ps_set (i := 8) S.nd rfl (Or.inl rfl) (pe_mkq M_Near hr (by decide) rfl (pa_cons (pe_op op_rep (pe_lst (pa_cons pe_int pa_nil)) (pv 1)) (pa_cons (pe_op op_add (pv 3) pe_int) (pa_cons (pv 4) (pa_cons pe_str pa_nil))))))
  (pss_cons (ps_for PassesOwn.never rfl (pi_range1 rfl T.range (pa_cons (pe_callB call_len_seq (by rfl) T.len PySem.boot_len (pa_cons (pv 5) pa_nil)) pa_nil)) (pg_name (i := 9) S.nd rfl (Or.inl rfl))
  (pss_cons (ps_set (i := 10) S.nd rfl (Or.inl rfl) (pe_c C__law_step hr (by decide) rfl (pa_cons (pv 7) (pa_cons (pe_ix ix_list (pv 5) (pv 9) (fun _ _ => rfl)) pa_nil))))
  (pss_cons (ps_set (i := 11) S.nd rfl (Or.inl rfl) (pe_c C__law_step hr (by decide) rfl (pa_cons (pv 8) (pa_cons (pe_ix ix_list (pv 5) (pv 9) (fun _ _ => rfl)) pa_nil))))
  (pss_cons (ps_if (PW.pt (pw_or (pt_cmpR op_ne (pv 10) (pe_callTy call_int1 (by rfl) T.int (by decide +kernel) (pa_cons (pe_and (pe_cmpR op_notN (pe_ix ix_list (pv 6) (pv 9) (fun _ _ => rfl)) pe_non (nomark _)) (pe_one (pe_cmpR op_lt (pe_ix ix_list (pv 6) (pv 9) (fun _ _ => rfl)) (pv 3) (nomark _)))) pa_nil)) (nomark _)) (pw_or1 (pt_cmpR op_gt (pv 10) (pv 11) (nomark _))))) (pss_one (ps_ret pe_bl)) pss_nil)
  (pss_cons (ps_if (pt_cmpR op_ne (pv 11) (pe_callTy call_int1 (by rfl) T.int (by decide +kernel) (pa_cons (pe_and (pe_cmpR op_notN (pe_ix ix_list (pv 6) (pv 9) (fun _ _ => rfl)) pe_non (nomark _)) (pe_one (pe_cmpR op_lt (pe_ix ix_list (pv 6) (pv 9) (fun _ _ => rfl)) (pe_op op_add (pv 3) pe_int) (nomark _)))) pa_nil)) (nomark _)) (pss_one (ps_ret pe_bl)) pss_nil)
  (pss_cons (ps_set (i := 12) S.nd rfl (Or.inr rfl) (C8.pe_mt0 M_held hr (by decide) (pv 8)))
  (pss_one (ps_if (pt_cmpR (op_neD hu64) (pe_lc (own := [("_law_line", 15)]) (g := gName 15)  rfl S.nd (pi_list (C8.pe_mt0 M_held hr (by decide) (pv 7))) (blkOk_by (own := [("_law_line", 15)]) (N := N_law) (sc := defScope s_law) (by decide +kernel)) (fun _ _ _ _ _ => pg_name (i := 15) S.nd rfl (Or.inl rfl)) (fun _ _ _ _ _ => pts_one (pt_cmpR (r := rIn K true) op_notIn_seq (pv 15) (pv 12) (by with_unfolding_all rfl))) (fun _ _ _ _ _ => (pv 15))) (pe_lst pa_nil) (nomark _)) (pss_one (ps_ret pe_bl)) pss_nil))))))))
  (pss_cons (ps_set (i := 13) S.nd rfl (Or.inl rfl) (pe_c C_missed_by hr (by decide) rfl (pa_cons (pe_callTy call_list_of (by rfl) T.list (by decide +kernel) (pa_cons (pv 6) pa_nil)) (pa_cons (pv 3) pa_nil))))
  (pss_cons (ps_set (i := 14) S.nd rfl (Or.inl rfl) (pe_c C_missed_by hr (by decide) rfl (pa_cons (pe_callTy call_list_of (by rfl) T.list (by decide +kernel) (pa_cons (pv 6) pa_nil)) (pa_cons (pe_op op_add (pv 3) pe_int) pa_nil))))
  (pss_one (ps_ret (pe_and (pe_c C__law_whole hr (by decide) rfl (pa_cons (pv 13) pa_nil)) (pe_and (pe_cmpR op_eq (pv 13) (pe_fld (pv 7) rfl) (nomark _)) (pe_and (pe_c C__law_whole hr (by decide) rfl (pa_cons (pv 14) pa_nil)) (pe_and (pe_cmpR op_eq (pv 14) (pe_fld (pv 8) rfl) (nomark _)) (pe_one (pe_cmpR op_le (pv 14) (pv 13) (nomark _)))))))))))))))))))), ?_⟩
  refine ⟨_, rfl, a0, ns, 0, rfl, hS, by decide, _, rfl, fun sz H1 z1 z2 s1 => ?_⟩
  obtain ⟨N, rfl⟩ : ∃ N : Nat, sz = (N : Nat) := ⟨sz.toNat, by omega⟩
  refine ⟨_, rfl, a0, ns, 1, rfl, s1.seq hS, by decide, ?_⟩
  generalize cellAt ns 1 = c1
  -- the room
  refine ⟨_, rfl, _, _, rfl, rfl, ⟨by decide, by decide⟩, _, _, rfl, rfl, (by show (0 : Int) < 6; decide), _, _, rfl, rfl, ?_⟩
  refine ⟨_, rfl, _, _, rfl, rfl, ⟨by decide, by decide⟩, _, _, rfl, rfl, (by show (0 : Int) < 3; decide), _, _, rfl, rfl, ?_⟩
  refine ⟨_, rfl, _, _, rfl, rfl, ⟨by decide, by decide⟩, _, _, rfl, rfl, (by show (0 : Int) < 199; decide), _, _, rfl, rfl, sz_ok rfl, fun p1 n1 => ?_⟩
  generalize e1 : upd H1 p1 _ = H2
  have t1 : Same H1 H2 := e1 ▸ Same.new n1
  have g1 : H2 p1 = some (.lst (([1 + c1 / 8 % 6, 1 + c1 / 8 % 3, 2, 1 + c1 / 8 % 199] : List Int).map V.int)) := e1 ▸ upd_same
  clear e1
  obtain ⟨room, hroom, r0, r1⟩ : ∃ m : Nat, ([1 + c1 / 8 % 6, 1 + c1 / 8 % 3, 2, 1 + c1 / 8 % 199] : List Int).getD (c1 % 4).toNat 0 = (m : Nat) ∧ 1 ≤ m ∧ m ≤ 199 := by
    have nat_of' : ∀ {z : Int}, 1 ≤ z → z ≤ 199 → ∃ m : Nat, z = (m : Nat) ∧ 1 ≤ m ∧ m ≤ 199 := fun {z} h0 h1 => ⟨z.toNat, (Int.toNat_of_nonneg (by omega)).symm, by omega, by omega⟩
    have h : (c1 % 4).toNat = 0 ∨ (c1 % 4).toNat = 1 ∨ (c1 % 4).toNat = 2 ∨ (c1 % 4).toNat = 3 := by omega
    rcases h with h | h | h | h <;> rw [h]
    · exact nat_of' (z := 1 + c1 / 8 % 6) (by omega) (by omega)
    · exact nat_of' (z := 1 + c1 / 8 % 3) (by omega) (by omega)
    · exact ⟨2, rfl, by decide, by decide⟩
    · exact nat_of' (z := 1 + c1 / 8 % 199) (by omega) (by omega)
  refine ⟨_, rfl, _, _, rfl, rfl, (by show (0 : Int) < 4; decide), p1, _, _, _, rfl, rfl, SqL.of g1, at_ints_mod (ns := [1 + c1 / 8 % 6, 1 + c1 / 8 % 3, 2, 1 + c1 / 8 % 199]) c1 (by decide) rfl, ?_⟩
  rw [hroom]
  -- the width
  refine ⟨_, rfl, _, rfl, _, _, rfl, rfl, (by show (0 : Int) < 4; decide), _, _, rfl, rfl, ?_⟩
  refine ⟨_, rfl, _, rfl, _, _, rfl, rfl, (by show (0 : Int) < 200; decide), _, _, rfl, rfl, sz_ok rfl, fun p2 n2 => ?_⟩
  generalize e2 : upd H2 p2 _ = H3
  have t2 : Same H2 H3 := e2 ▸ Same.new n2
  have g2 : H3 p2 = some (.lst (([1, 1 + mixed c1 % 4, 1, 1 + mixed c1 % 200] : List Int).map V.int)) := e2 ▸ upd_same
  clear e2
  generalize mixed c1 = mc at g2
  have s3 := (s1.trans t1).trans t2
  refine ⟨_, rfl, a0, ns, 0, rfl, s3.seq hS, by decide, ?_⟩
  generalize cellAt ns 0 = c2
  obtain ⟨wd, hwd, w0, w1⟩ : ∃ m : Nat, ([1, 1 + mc % 4, 1, 1 + mc % 200] : List Int).getD (c2 / 3 % 4).toNat 0 = (m : Nat) ∧ 1 ≤ m ∧ m ≤ 200 := by
    have h : (c2 / 3 % 4).toNat = 0 ∨ (c2 / 3 % 4).toNat = 1 ∨ (c2 / 3 % 4).toNat = 2 ∨ (c2 / 3 % 4).toNat = 3 := by omega
    rcases h with h | h | h | h <;> rw [h]
    · exact ⟨1, rfl, by decide, by decide⟩
    · exact nat_of (z := 1 + mc % 4) (by omega) (by omega)
    · exact ⟨1, rfl, by decide, by decide⟩
    · exact nat_of (z := 1 + mc % 200) (by omega) (by omega)
  refine ⟨_, _, rfl, rfl, ⟨by decide, by decide⟩, _, _, rfl, rfl, (by show (0 : Int) < 4; decide), p2, _, _, _, rfl, rfl, SqL.of g2, at_ints_mod (ns := [1, 1 + mc % 4, 1, 1 + mc % 200]) (c2 / 3) (by decide) rfl, ?_⟩
  rw [hwd]
  -- the touches
  obtain ⟨cs, ecs, hcl⟩ := cutV_int ns (some 2) none
  refine ⟨_, rfl, _, rfl, a0, _, rfl, s3.seq hS, fun psl nsl => ?_⟩
  rw [ecs]
  generalize e4 : upd H3 psl _ = H4
  have t4 : Same H3 H4 := e4 ▸ Same.new nsl
  have g4 : H4 psl = some (.lst (cs.map V.int)) := e4 ▸ upd_same
  clear e4
  refine ⟨_, rfl, psl, cs, N, rfl, SqL.of g4, by omega, by omega, by omega, fun H5 pt us ts t5 gt hT htl hall => ?_⟩
  have hul := hT.1
  -- the depths
  refine ⟨_, rfl, pt, _, rfl, .inl (SqL.of gt), fun pc npc => ?_⟩
  generalize e6 : upd H5 pc _ = H6
  have t6 : Same H5 H6 := e6 ▸ Same.new npc
  have g6 : H6 pc = some (.lst us) := e6 ▸ upd_same
  clear e6
  refine ⟨_, rfl, pc, us, ts, wd, rfl, SqL.of g6, hT.same t6, by omega, by omega, by omega, fun H7 pd t7 npd gpd => ?_⟩
  have s7 := s3.trans (t4.trans (t5.trans (t6.trans t7)))
  -- the one with less room
  refine ⟨sz_ok rfl, fun p4 n4 => ?_⟩
  generalize e8 : upd H7 p4 _ = H8
  have t8 : Same H7 H8 := e8 ▸ Same.new n4
  have g8 : H8 p4 = some (.lst [.int 0]) := e8 ▸ upd_same
  clear e8
  refine ⟨_, rfl, p4, _, _, rfl, rfl, g8, by omega, by omega, Nat.le_trans (by show 1 * _ ≤ 1000; omega) (by decide), fun p5 n5 => ?_⟩
  rw [show ((N : Nat) : Int).toNat = N from rfl, zeros]
  generalize e9 : upd H8 p5 _ = H9
  have t9 : Same H8 H9 := e9 ▸ Same.new n5
  have g9 : H9 p5 = some (.lst ((List.replicate N (0 : Int)).map V.int)) := e9 ▸ upd_same
  clear e9
  have hzl : (List.replicate N (0 : Int)).length = N := List.length_replicate
  have hzb : ∀ b ∈ List.replicate N (0 : Int), 0 ≤ b ∧ b < 1000000 := fun b hb => by rw [List.eq_of_mem_replicate hb]; decide
  refine ⟨_, rfl, _, rfl, fun ap dx nap ndx ndp => ?_⟩
  refine init_good (C := C) nap ndx g9 hzb (by omega) (by omega) r0 (by omega) w0 w1 (.inl rfl) fun H10 a ea N10 t10 fresha => ⟨rfl, ?_⟩
  subst ea
  -- the one with more
  refine ⟨sz_ok rfl, fun p6 n6 => ?_⟩
  generalize e11 : upd H10 p6 _ = H11
  have t11 : Same H10 H11 := e11 ▸ Same.new n6
  have g11 : H11 p6 = some (.lst [.int 0]) := e11 ▸ upd_same
  clear e11
  refine ⟨_, rfl, p6, _, _, rfl, rfl, g11, by omega, by omega, Nat.le_trans (by show 1 * _ ≤ 1000; omega) (by decide), fun p7 n7 => ?_⟩
  rw [show ((N : Nat) : Int).toNat = N from rfl, zeros]
  generalize e12 : upd H11 p7 _ = H12
  have t12 : Same H11 H12 := e12 ▸ Same.new n7
  have g12 : H12 p7 = some (.lst ((List.replicate N (0 : Int)).map V.int)) := e12 ▸ upd_same
  clear e12
  refine ⟨_, rfl, _, _, rfl, rfl, _, rfl, fun bp dy nbp ndy ndq => ?_⟩
  show spInitN K C CB CS [.ref bp, .ref p7, .int ((room + 1 : Nat) : Int), .int (wd : Nat), .str "least"] _ _ _
  refine init_good (C := C) nbp ndy g12 hzb (by omega) (by omega) (by omega) (by omega) w0 w1 (.inl rfl) fun H13 b eb N13 t13 freshb => ⟨rfl, ?_⟩
  subst eb
  have hT7 := (hT.same t6).same t7
  have gt7 := (t6.trans t7) _ _ gt
  have t79 := t8.trans t9
  have t1112 := t11.trans t12
  have T0 : Two C H7 H13 a b ⟨room, wd, "least"⟩ ⟨room + 1, wd, "least"⟩ (initS (List.replicate N (0 : Int))) (initS (List.replicate N (0 : Int))) := by
    refine ⟨(N10.same t1112).same t13, N13, fun q w w2 => ?_, fun q o e => ⟨(t79.trans (t10.trans (t1112.trans t13))) _ _ e, fun w => ?_, fun w => ?_⟩⟩
    · obtain ⟨u, hu⟩ := N10.some w
      have := freshb q w2
      rw [t1112 _ _ hu] at this
      cases this
    · have := fresha q w
      rw [t79 _ _ e] at this
      cases this
    · have := freshb q w
      rw [(t79.trans (t10.trans t1112)) _ _ e] at this
      cases this
  have hbase : ∀ q o, H q = some o → H7 q = some o := fun q o e => s7 _ _ e
  have hlsl : (linesOf (wd : Nat) ts).length = us.length := by unfold linesOf; rw [List.length_map]; omega
  have hdpl : (depsL (linesOf (wd : Nat) ts)).length = us.length := by unfold depsL; rw [List.length_map, List.length_range]; exact hlsl
  refine ⟨_, rfl, pt, _, rfl, .inl (SqL.of (T0.hb _ _ gt7).1), _, rfl, by omega, by omega, for_range (n := us.length) (fun k σ H' => ∃ (s1 s2 : Ns) (v9 v10 v11 v12 : Option V), σ = [some (.ref a0), some (.int (N : Nat)), some (.int c1), some (.int (room : Nat)), some (.int (wd : Nat)), some (.ref pt), some (.ref pd), some (.ref a.p), some (.ref b.p), v9, v10, v11, v12, none, none, none] ∧
    Two C H7 H' a b ⟨room, wd, "least"⟩ ⟨room + 1, wd, "least"⟩ s1 s2 ∧ GoodS ⟨room, wd, "least"⟩ s1 ∧ GoodS ⟨room + 1, wd, "least"⟩ s2 ∧ s1.far.length = N ∧ s2.far.length = N ∧ s1.keys = lastN room (ordL ((linesOf (wd : Nat) ts).take k)) ∧ s2.keys = lastN (room + 1) (ordL ((linesOf (wd : Nat) ts).take k)) ∧
    s1.missed = missN ((depsL (linesOf (wd : Nat) ts)).take k) (room : Nat) ∧ s2.missed = missN ((depsL (linesOf (wd : Nat) ts)).take k) ((room + 1 : Nat) : Int) ∧ s1.found ≤ k ∧ s2.found ≤ k) ⟨_, _, _, _, _, _, rfl, T0, good0 r0 w0, good0 (Nat.le_add_left _ _) w0, hzl, hzl, List.drop_nil.symm, List.drop_nil.symm, rfl, rfl, Nat.le_refl _, Nat.le_refl _⟩ (fun k σ H' hk h => ?_) (fun σ H' h => ?_)⟩
  · obtain ⟨s1, s2, v9, v10, v11, v12, rfl, TT, G1, G2, f1, f2, k1, k2, m1, m2, o1, o2⟩ := h
    rw [Int.zero_add]
    obtain ⟨q1, eq1, eq2⟩ := hT7.2 k _ (List.getElem?_eq_getElem (show k < ts.length by omega))
    have hall1 := hall _ (List.getElem_mem (show k < ts.length by omega))
    obtain ⟨htp, htp1, htp2⟩ := TT.hb _ _ gt7
    obtain ⟨hq, hq1, hq2⟩ := TT.hb _ _ eq2
    have hkl : (linesOf (wd : Nat) ts).getD k 0 = ts[k].2 / (wd : Nat) := by
      unfold linesOf
      rw [List.getD_eq_getElem?_getD, List.getElem?_map, List.getElem?_eq_getElem (show k < ts.length by omega)]
      rfl
    generalize ts[k] = t at hq hall1 hkl eq2
    have hatk : atI us ((k : Nat) : Int) = some (.ref q1) := at_in (by omega) (by rw [show ((k : Nat) : Int).toNat = k from rfl]; exact eq1)
    refine ⟨_, rfl, _, rfl, _, rfl, pt, us, _, _, rfl, rfl, SqL.of htp, hatk, a, _, s1, q1, t, rfl, hq, hall1.1, hall1.2.1, by omega, TT.na, G1, rfl, by omega, (by show wd ≤ 300; omega), (by show room ≤ 300; omega), by omega, hq1, fun H14 s1' N14 G14 f14 k14 fo14 m14 st14 => ?_⟩
    have TT2 := TT.fst N14 st14
    obtain ⟨htp', _, _⟩ := TT2.hb _ _ gt7
    obtain ⟨hq', _, hq2'⟩ := TT2.hb _ _ eq2
    refine ⟨_, rfl, _, rfl, _, rfl, pt, us, _, _, rfl, rfl, SqL.of htp', hatk, b, _, s2, q1, t, rfl, hq', hall1.1, hall1.2.1, by omega, TT2.nb, G2, rfl, by omega, (by show wd ≤ 300; omega), (by show room + 1 ≤ 300; omega), by omega, hq2', fun H15 s2' N15 G15 f15 k15 fo15 m15 st15 => ?_⟩
    have TT3 := TT2.snd N15 st15
    dsimp only at k14 fo14 m14 k15 fo15 m15
    rw [← hkl] at k14 fo14 m14 k15 fo15 m15
    rw [k1] at k14 fo14 m14
    rw [k2] at k15 fo15 m15
    dsimp only
    rw [← hkl, k1, k2]
    have hatd : atI ((depsL (linesOf (wd : Nat) ts)).map ovV) ((k : Nat) : Int) = some (ovV (depO (ordL ((linesOf (wd : Nat) ts).take k)) ((linesOf (wd : Nat) ts).getD k 0))) := at_map ovV (by
      unfold depsL
      rw [List.getElem?_map, List.getElem?_range (by omega)]
      rfl)
    obtain ⟨hpd, _, _⟩ := TT3.hb _ _ gpd
    have mem1 := told_near (R := room) (ls := linesOf (wd : Nat) ts) (k := k)
    have mem2 := told_near (R := room + 1) (ls := linesOf (wd : Nat) ts) (k := k)

    refine ⟨_, rfl, _, rfl, _, rfl, pd, _, _, _, rfl, rfl, SqL.of hpd, hatd, ?_⟩
    by_cases h1 : (linesOf (wd : Nat) ts).getD k 0 ∈ lastN room (ordL ((linesOf (wd : Nat) ts).take k))
    case' pos =>
      obtain ⟨d, ed, hd⟩ := mem1.mp h1
      have h2 := mem2.mpr ⟨d, ed, by omega⟩
      rw [ed]
      rw [ed] at hatd
      refine ⟨rfl, true, bl_of rfl, _, rfl, _, rfl, pd, _, _, _, rfl, rfl, SqL.of hpd, hatd, _, rfl, _, _, rfl, rfl, ?_⟩
      refine .inr ⟨true, congrArg (fun z => [V.bl z]) (decide_eq_true (show ((d : Nat) : Int) < (room : Nat) by omega)), ?_⟩
      rw [if_pos h1, if_pos h2]
      refine ⟨rfl, false, bl_of rfl, _, rfl, _, rfl, _, _, rfl, rfl, false, bl_of rfl, ?_⟩
      refine ⟨_, rfl, _, rfl, _, rfl, pd, _, _, _, rfl, rfl, SqL.of hpd, hatd, rfl, true, bl_of rfl, _, rfl, _, rfl, pd, _, _, _, rfl, rfl, SqL.of hpd, hatd, _, rfl, _, _, rfl, rfl, _, _, rfl, rfl, ?_⟩
      refine .inr ⟨true, congrArg (fun z => [V.bl z]) (decide_eq_true (show ((d : Nat) : Int) < (room : Nat) + 1 by omega)), ?_⟩
      refine ⟨rfl, false, bl_of rfl, ?_⟩
    case' neg =>
      by_cases h2 : (linesOf (wd : Nat) ts).getD k 0 ∈ lastN (room + 1) (ordL ((linesOf (wd : Nat) ts).take k))
      case' pos =>
        obtain ⟨d, ed, hd⟩ := mem2.mp h2
        have hd2 : ¬ d < room := fun z => h1 (mem1.mpr ⟨d, ed, z⟩)
        rw [ed]
        rw [ed] at hatd
        refine ⟨rfl, true, bl_of rfl, _, rfl, _, rfl, pd, _, _, _, rfl, rfl, SqL.of hpd, hatd, _, rfl, _, _, rfl, rfl, ?_⟩
        refine .inr ⟨false, congrArg (fun z => [V.bl z]) (decide_eq_false (show ¬ ((d : Nat) : Int) < (room : Nat) by omega)), ?_⟩
        rw [if_neg h1, if_pos h2]
        refine ⟨rfl, false, bl_of rfl, _, rfl, _, rfl, _, _, rfl, rfl, false, bl_of rfl, ?_⟩
        refine ⟨_, rfl, _, rfl, _, rfl, pd, _, _, _, rfl, rfl, SqL.of hpd, hatd, rfl, true, bl_of rfl, _, rfl, _, rfl, pd, _, _, _, rfl, rfl, SqL.of hpd, hatd, _, rfl, _, _, rfl, rfl, _, _, rfl, rfl, ?_⟩
        refine .inr ⟨true, congrArg (fun z => [V.bl z]) (decide_eq_true (show ((d : Nat) : Int) < (room : Nat) + 1 by omega)), ?_⟩
        refine ⟨rfl, false, bl_of rfl, ?_⟩
      case' neg =>
        have hno : ∀ d, depO (ordL ((linesOf (wd : Nat) ts).take k)) ((linesOf (wd : Nat) ts).getD k 0) = some d → ¬ d < room + 1 := fun d e z => h2 (mem2.mpr ⟨d, e, z⟩)
        rw [if_neg h1, if_neg h2]
        generalize depO (ordL ((linesOf (wd : Nat) ts).take k)) ((linesOf (wd : Nat) ts).getD k 0) = od at hatd hno ⊢
        cases od
        case' none =>
          refine ⟨rfl, false, bl_of rfl, .inr ⟨false, rfl, ?_⟩⟩
          refine ⟨rfl, false, bl_of rfl, _, rfl, _, rfl, _, _, rfl, rfl, false, bl_of rfl, ?_⟩
          refine ⟨_, rfl, _, rfl, _, rfl, pd, _, _, _, rfl, rfl, SqL.of hpd, hatd, rfl, false, bl_of rfl, .inr ⟨false, rfl, ?_⟩⟩
          refine ⟨rfl, false, bl_of rfl, ?_⟩
        case' some d =>
          have hd2 := hno d rfl
          refine ⟨rfl, true, bl_of rfl, _, rfl, _, rfl, pd, _, _, _, rfl, rfl, SqL.of hpd, hatd, _, rfl, _, _, rfl, rfl, ?_⟩
          refine .inr ⟨false, congrArg (fun z => [V.bl z]) (decide_eq_false (show ¬ ((d : Nat) : Int) < (room : Nat) by omega)), ?_⟩
          refine ⟨rfl, false, bl_of rfl, _, rfl, _, rfl, _, _, rfl, rfl, false, bl_of rfl, ?_⟩
          refine ⟨_, rfl, _, rfl, _, rfl, pd, _, _, _, rfl, rfl, SqL.of hpd, hatd, rfl, true, bl_of rfl, _, rfl, _, rfl, pd, _, _, _, rfl, rfl, SqL.of hpd, hatd, _, rfl, _, _, rfl, rfl, _, _, rfl, rfl, ?_⟩
          refine .inr ⟨false, congrArg (fun z => [V.bl z]) (decide_eq_false (show ¬ ((d : Nat) : Int) < (room : Nat) + 1 by omega)), ?_⟩
          refine ⟨rfl, false, bl_of rfl, ?_⟩
    all_goals
      obtain ⟨dxb, hib⟩ := TT3.nb.ins
      refine ⟨_, rfl, b.p, dxb, _, rfl, hib, rfl, b, _, s2', rfl, TT3.nb, fun H16 ph t16 nph gph => ?_⟩
      have TT4 := TT3.same t16
      obtain ⟨dxa, hia⟩ := TT4.na.ins
      refine ⟨_, rfl, a.p, dxa, _, rfl, hia, rfl, a, _, s1', rfl, TT4.na, fun H17 pe t17 npe gpe => ?_⟩
      have hk1 : s1'.keys = lastN room (ordL ((linesOf (wd : Nat) ts).take (k + 1))) := k14.trans (near_next r0 (by omega))
      have hk2 : s2'.keys = lastN (room + 1) (ordL ((linesOf (wd : Nat) ts).take (k + 1))) := k15.trans (near_next (Nat.le_add_left _ _) (by omega))
      have gph7 := t17 _ _ gph
      have hfl : (s2'.keys.map V.int).all flatV = true := by
        rw [List.all_map]
        exact List.all_eq_true.mpr fun _ _ => rfl
      have hkl1 : (s1'.keys.map V.int).length ≤ 999 := by
        have e1 : s1'.keys.length = s1'.lines.length := by unfold Ns.keys; rw [List.length_map]
        have e2 : s1'.lines.length ≤ room := G14.room
        rw [List.length_map]
        omega
      refine ⟨pe, rfl, ⟨_, SqL.of gpe⟩, fun pz npz => lc_fl (fun _ => none) npz (SqL.of gpe) (small1000 (by omega)) (fun i x H18 ex s18 k1' k0' g1' g0' => ?_) (fun H18 t18 g18 => ?_)⟩
      case' refine_1 =>
        obtain ⟨y, ey, rfl⟩ : ∃ y, s1'.keys[i]? = some y ∧ x = V.int y := by
          rw [List.getElem?_map] at ex
          obtain ⟨y, e, e2⟩ := Option.map_eq_some_iff.mp ex
          exact ⟨y, e, e2.symm⟩
        have hin : y ∈ s2'.keys := by
          rw [hk2]
          exact last_sub (by rw [← hk1]; exact List.mem_of_getElem? ey)
        refine ⟨rfl, _, rfl, _, rfl, ph, _, rfl, .inl (SqL.of (s18 _ _ gph7)), rfl, hfl, false, ?_, g0' _ rfl (Same.refl _)⟩
        rw [inV_int, decide_eq_true hin]
        rfl
      case' refine_2 =>
        have e0 : (s1'.keys.map V.int).filterMap (fun _ => (none : Option V)) = [] := by
          rw [List.filterMap_eq_nil_iff]
          exact fun _ _ => rfl
        rw [e0] at g18
        refine ⟨sz_ok rfl, fun p3 n3 => ?_⟩
        have t3' : Same H18 (upd H18 p3 (.lst [])) := Same.new n3
        refine ⟨_, _, .lst (SqL.of (t3' _ _ g18)) .nil, .lst (SqL.of upd_same) .nil, rfl, rfl, false, bl_of rfl, ?_⟩
        refine ⟨s1', s2', _, _, _, _, rfl, TT4.same (t17.trans (t18.trans t3')), G14, G15, f14.trans f1, f15.trans f2, hk1, hk2, ?_, ?_, ?_, ?_⟩
        · rw [m14, m1]
          exact (miss_next (by omega)).symm
        · rw [m15, m2]
          exact (miss_next (by omega)).symm
        · rw [fo14]
          split <;> omega
        · rw [fo15]
          split <;> omega
  · obtain ⟨s1, s2, v9, v10, v11, v12, rfl, TT, G1, G2, f1, f2, k1, k2, m1, m2, o1, o2⟩ := h
    rw [List.take_of_length_le (by omega)] at m1 m2
    obtain ⟨hpd, _, _⟩ := TT.hb _ _ gpd
    refine ⟨_, rfl, pd, _, rfl, .inl (SqL.of hpd), fun pe npe => ?_⟩
    have te : Same H' (upd H' pe (.lst ((depsL (linesOf (wd : Nat) ts)).map ovV))) := Same.new npe
    refine ⟨_, rfl, pe, depsL (linesOf (wd : Nat) ts), ((room : Nat) : Int), rfl, SqL.of upd_same, by omega, fun H18 t18 => ?_⟩
    have s18 := te.trans t18
    refine ⟨_, rfl, pd, _, rfl, .inl (SqL.of (s18 _ _ hpd)), fun pf npf => ?_⟩
    have tf : Same H18 (upd H18 pf (.lst ((depsL (linesOf (wd : Nat) ts)).map ovV))) := Same.new npf
    refine ⟨_, rfl, _, _, rfl, rfl, pf, depsL (linesOf (wd : Nat) ts), ((room + 1 : Nat) : Int), rfl, SqL.of upd_same, by omega, fun H19 t19 => ?_⟩
    have TT2 := TT.same (s18.trans (tf.trans t19))
    obtain ⟨dxa, hia⟩ := TT2.na.ins
    obtain ⟨dxb, hib⟩ := TT2.nb.ins
    rw [← m1, ← m2]
    have hle : s2.missed ≤ s1.missed := by
      rw [m1, m2]
      exact miss_le (by omega) _
    refine ⟨_, rfl, _, "int", rfl, .base (.int _), by decide +kernel, by decide +kernel, _, rfl, ?_⟩
    refine (if_pos rfl).mpr ?_
    refine ⟨_, rfl, _, rfl, a.p, C, dxa, _, _, rfl, hia, W.cl, W.nMissed, rfl, rfl, true, bl_of (decide_eq_true rfl), ?_⟩
    refine (if_pos rfl).mpr ?_
    refine ⟨_, rfl, _, "int", rfl, .base (.int _), by decide +kernel, by decide +kernel, _, rfl, ?_⟩
    refine (if_pos rfl).mpr ?_
    refine ⟨_, rfl, _, rfl, b.p, C, dxb, _, _, rfl, hib, W.cl, W.nMissed, rfl, rfl, true, bl_of (decide_eq_true rfl), ?_⟩
    refine (if_pos rfl).mpr ?_
    refine ⟨_, rfl, _, rfl, _, _, rfl, rfl, ?_⟩
    dsimp only
    rw [decide_eq_true (show ((s2.missed : Nat) : Int) ≤ ((s1.missed : Nat) : Int) by omega)]
    exact q _

-- SPLIT
theorem k12_all {C1 C2 C3 CN : Addr} (T : Top K mg)
    (D_line_of : DefAt K "line_of" s_line_of)
    (D_lines_of : DefAt K "lines_of" s_lines_of)
    (D_is_whole : DefAt K "is_whole" s_is_whole)
    (D_is_any_whole : DefAt K "is_any_whole" s_is_any_whole)
    (D_checked_boxes : DefAt K "checked_boxes" s_checked_boxes)
    (D_check_shape : DefAt K "_check_shape" s__check_shape)
    (D_depths : DefAt K "depths" s_depths)
    (D_missed_by : DefAt K "missed_by" s_missed_by)
    (D_law_cell_at : DefAt K "_law_cell_at" s__law_cell_at)
    (D_law_mixed : DefAt K "_law_mixed" s__law_mixed)
    (D_law_whole : DefAt K "_law_whole" s__law_whole)
    (D_law_size_by : DefAt K "_law_size_by" s__law_size_by)
    (D_law_touches_by : DefAt K "_law_touches_by" s__law_touches_by)
    (D_law_step : DefAt K "_law_step" s__law_step)
    (D_law : DefAt K "law" s_law)
    (m_len : PySem.W.nsIn K mainGlobals "len" = some none)
    (m_range : PySem.W.nsIn K mainGlobals "range" = some none)
    (m_isinstance : PySem.W.nsIn K mainGlobals "isinstance" = some none)
    (m_int : PySem.W.nsIn K mainGlobals "int" = some none)
    (m_list : PySem.W.nsIn K mainGlobals "list" = some none)
    (m_str : PySem.W.nsIn K mainGlobals "str" = some none)
    (m_bool : PySem.W.nsIn K mainGlobals "bool" = some none)
    (m_enumerate : PySem.W.nsIn K mainGlobals "enumerate" = some none)
    (m_set : PySem.W.nsIn K mainGlobals "set" = some none)
    (g_ROUND : ∃ u, PySem.W.nsIn K mainGlobals "ROUND" = some (some u) ∧ RelV (.int 1000000) u)
    (g_MOST : ∃ u, PySem.W.nsIn K mainGlobals "MOST" = some (some u) ∧ RelV (.int 200) u)
    (g_LEAST : ∃ u, PySem.W.nsIn K mainGlobals "LEAST" = some (some u) ∧ RelV (.str "least") u)
    (g_FIRST : ∃ u, PySem.W.nsIn K mainGlobals "FIRST" = some (some u) ∧ RelV (.str "first") u)
    (gB_BadBoxes : PySem.W.nsIn K mainGlobals "BadBoxes" = some (some (.ref C1)))
    (xB_BadBoxes : PySem.W.excIn K C1 [.type "ValueError", .type "Exception", .type "BaseException", .type "object"] "ValueError.__new__" = true)
    (kB_BadBoxes : PySem.W.keepIn K (.ref C1) = true)
    (bB_BadBoxes : PySem.W.subIn K (.ref C1) (.type "BaseException") = some true)
    (tB_BadBoxes : PySem.W.typeIn K (.ref C1) = some (.type "type"))
    (gB_BadShape : PySem.W.nsIn K mainGlobals "BadShape" = some (some (.ref C2)))
    (xB_BadShape : PySem.W.excIn K C2 [.type "ValueError", .type "Exception", .type "BaseException", .type "object"] "ValueError.__new__" = true)
    (kB_BadShape : PySem.W.keepIn K (.ref C2) = true)
    (bB_BadShape : PySem.W.subIn K (.ref C2) (.type "BaseException") = some true)
    (tB_BadShape : PySem.W.typeIn K (.ref C2) = some (.type "type"))
    (gB_NoBox : PySem.W.nsIn K mainGlobals "NoBox" = some (some (.ref C3)))
    (xB_NoBox : PySem.W.excIn K C3 [.type "ValueError", .type "Exception", .type "BaseException", .type "object"] "ValueError.__new__" = true)
    (kB_NoBox : PySem.W.keepIn K (.ref C3) = true)
    (bB_NoBox : PySem.W.subIn K (.ref C3) (.type "BaseException") = some true)
    (tB_NoBox : PySem.W.typeIn K (.ref C3) = some (.type "type"))
    (gW_Near : PySem.W.nsIn K mainGlobals "Near" = some (some (.ref CN)))
    (cl_Near : Cls K CN)
    (n_Near_far : PySem.W.findIn K (.ref CN) "far" = some none)
    (n_Near_found : PySem.W.findIn K (.ref CN) "found" = some none)
    (n_Near_missed : PySem.W.findIn K (.ref CN) "missed" = some none)
    (n_Near_back : PySem.W.findIn K (.ref CN) "back" = some none)
    (n_Near_room : PySem.W.findIn K (.ref CN) "_room" = some none)
    (n_Near_width : PySem.W.findIn K (.ref CN) "_width" = some none)
    (n_Near_rule : PySem.W.findIn K (.ref CN) "_rule" = some none)
    (n_Near_lines : PySem.W.findIn K (.ref CN) "_lines" = some none)
    (n_Near_written : PySem.W.findIn K (.ref CN) "_written" = some none)
    (mk_Near : PySem.W.makesIn K CN = true)
    (kc_Near : PySem.W.keepIn K (.ref CN) = true)
    (M_Near_init : MethAt K CN "__init__" "Near.__init__" s_Near___init__)
    (M_Near_look : MethAt K CN "look" "Near.look" s_Near_look)
    (M_Near_put : MethAt K CN "put" "Near.put" s_Near_put)
    (M_Near_held : MethAt K CN "held" "Near.held" s_Near_held)
    (M_Near_touched_line : MethAt K CN "_touched_line" "Near._touched_line" s_Near__touched_line)
    (M_Near_find : MethAt K CN "_find" "Near._find" s_Near__find)
    (M_Near_bring : MethAt K CN "_bring" "Near._bring" s_Near__bring)
    (M_Near_let_go : MethAt K CN "_let_go" "Near._let_go" s_Near__let_go)
    (M_Near_write_back : MethAt K CN "_write_back" "Near._write_back" s_Near__write_back) : LawOk P w K mg 7 := by
  have X : Txt K w mg := ⟨T, T.none m_len, T.none m_range, T.none m_isinstance, T.none m_int, T.none m_list, T.none m_str, T.none m_bool, T.none m_enumerate, T.none m_set⟩
  obtain ⟨_, g_ROUND, t_ROUND, rfl⟩ := g_ROUND
  obtain ⟨_, g_MOST, t_MOST, rfl⟩ := g_MOST
  obtain ⟨_, g_LEAST, t_LEAST, rfl⟩ := g_LEAST
  obtain ⟨_, g_FIRST, t_FIRST, rfl⟩ := g_FIRST
  have W : NCls K CN := ⟨cl_Near, n_Near_far, n_Near_found, n_Near_missed, n_Near_back, n_Near_room, n_Near_width, n_Near_rule, n_Near_lines, n_Near_written⟩
  have gR : ∃ t, mg "ROUND" = some (.int 1000000 t) := ⟨t_ROUND, T.of g_ROUND⟩
  have gM : ∃ t, mg "MOST" = some (.int 200 t) := ⟨t_MOST, T.of g_MOST⟩
  have gL : ∃ t, mg "LEAST" = some (.str "least" t) := ⟨t_LEAST, T.of g_LEAST⟩
  have gF : ∃ t, mg "FIRST" = some (.str "first" t) := ⟨t_FIRST, T.of g_FIRST⟩
  have xB1 : ExcT K mg "BadBoxes" C1 := ⟨T.of gB_BadBoxes, xB_BadBoxes, kB_BadBoxes, bB_BadBoxes, tB_BadBoxes⟩
  have xB2 : ExcT K mg "BadShape" C2 := ⟨T.of gB_BadShape, xB_BadShape, kB_BadShape, bB_BadShape, tB_BadShape⟩
  have xB3 : ExcT K mg "NoBox" C3 := ⟨T.of gB_NoBox, xB_NoBox, kB_NoBox, bB_NoBox, tB_NoBox⟩
  have n1 := fun base => c_line_of (P := P) (base := base) X D_line_of
  have n2 := fun base => c_is_wholeV (P := P) (base := base) X D_is_whole (c_any_whole X D_is_any_whole)
  have n3 := fun base => c_is_whole (P := P) (base := base) X D_is_whole D_is_any_whole
  have n4 := fun base => c_checked_boxes (P := P) (base := base) X xB1 gM gR D_checked_boxes (n3 base)
  have n5 := fun base => c_check_shape (P := P) (base := base) X xB2 gM gL gF D_check_shape (n2 base)
  have m1 := fun base => m_write_back (P := P) (w := w) (mg := mg) (base := base) X W M_Near_write_back
  have m2 := fun base => m_let_go (P := P) (w := w) (mg := mg) (base := base) X W M_Near_let_go (m1 base)
  have m3 := fun base => m_held (P := P) (w := w) (mg := mg) (base := base) X W M_Near_held
  have m4 := fun base => m_find (P := P) (w := w) (mg := mg) (base := base) X W gL M_Near_find
  have m5 := fun base => m_bring (P := P) (w := w) (mg := mg) (base := base) X W M_Near_bring (m2 base) (m3 base)
  have m6 := fun base => m_touched_line (P := P) (w := w) (mg := mg) (base := base) X W xB3 M_Near_touched_line (n2 base) (n1 base) (m4 base) (m5 base)
  have m7 := fun base => m_lookN (P := P) (w := w) (mg := mg) (base := base) X W M_Near_look (m6 base)
  have m8 := fun base => m_putN (P := P) (w := w) (mg := mg) (base := base) X W M_Near_put (m6 base)
  have m9 := fun base => m_initN (P := P) (w := w) (mg := mg) (base := base) X W mk_Near kc_Near (T.of gW_Near) M_Near_init (n4 base) (n5 base)

  have c1 := fun base => c_cell_at (P := P) (base := base) X D_law_cell_at
  have c2 := fun base => c_mixed (P := P) (base := base) X D_law_mixed
  have c3 := fun base => c_size_by (P := P) (base := base) X D_law_size_by
  have c4 := fun base => c_whole (P := P) (base := base) X D_law_whole
  have c5 := fun base => c_touches_by (P := P) (base := base) X D_law_touches_by (c2 base)
  have c6 := fun base => c_step (P := P) (base := base) X W D_law_step (m7 base) (m8 base)
  have c7 := fun base => c_lines_of (P := P) (base := base) X D_lines_of (n1 base)
  have c8 := fun base => c_depths (P := P) (base := base) X D_depths (c7 base)
  have c9 := fun base => c_missed_by (P := P) (base := base) X D_missed_by
  exact ok_law X W D_law c1 c2 c3 c4 c5 c6 c8 c9 m9 m3
end
end Nl
open PySem PySem.W PyProof.Rows in
set_option maxRecDepth 100000 in
set_option maxHeartbeats 0 in
theorem PySem.Challenge.cw_nearlines_k12_whole_more_room_holds : PySem.Challenge.rw_nearlines_k12_whole_more_room.Holds := by
  w_on; o_law; k_head; (case hw => w_witness2)
  k_fill
  refine Nl.walk_end (l := PySem.Challenge.rw_nearlines_k12_whole_more_room) 7 rfl rfl ⟨rfl, by decide, by decide⟩ rfl (fun w h Y => PySem.W.kIn_of Y) fun w mg T => ?F
  case F =>
    refine' Nl.k12_all T ?D_line_of ?D_lines_of ?D_is_whole ?D_is_any_whole ?D_checked_boxes ?D_check_shape ?D_depths ?D_missed_by ?D_law_cell_at ?D_law_mixed ?D_law_whole ?D_law_size_by ?D_law_touches_by ?D_law_step ?D_law ?m_len ?m_range ?m_isinstance ?m_int ?m_list ?m_str ?m_bool ?m_enumerate ?m_set ?g_ROUND ?g_MOST ?g_LEAST ?g_FIRST ?gB_BadBoxes ?xB_BadBoxes ?kB_BadBoxes ?bB_BadBoxes ?tB_BadBoxes ?gB_BadShape ?xB_BadShape ?kB_BadShape ?bB_BadShape ?tB_BadShape ?gB_NoBox ?xB_NoBox ?kB_NoBox ?bB_NoBox ?tB_NoBox ?gW_Near ?cl_Near ?n_Near_far ?n_Near_found ?n_Near_missed ?n_Near_back ?n_Near_room ?n_Near_width ?n_Near_rule ?n_Near_lines ?n_Near_written ?mk_Near ?kc_Near ?M_Near_init ?M_Near_look ?M_Near_put ?M_Near_held ?M_Near_touched_line ?M_Near_find ?M_Near_bring ?M_Near_let_go ?M_Near_write_back
    (case D_line_of => (refine' Nl.def_mk ?a ?l ?c ?k; (case a => k_is); (case l => k_is); (case c => k_is); (case k => k_is)))
    (case D_lines_of => (refine' Nl.def_mk ?a ?l ?c ?k; (case a => k_is); (case l => k_is); (case c => k_is); (case k => k_is)))
    (case D_is_whole => (refine' Nl.def_mk ?a ?l ?c ?k; (case a => k_is); (case l => k_is); (case c => k_is); (case k => k_is)))
    (case D_is_any_whole => (refine' Nl.def_mk ?a ?l ?c ?k; (case a => k_is); (case l => k_is); (case c => k_is); (case k => k_is)))
    (case D_checked_boxes => (refine' Nl.def_mk ?a ?l ?c ?k; (case a => k_is); (case l => k_is); (case c => k_is); (case k => k_is)))
    (case D_check_shape => (refine' Nl.def_mk ?a ?l ?c ?k; (case a => k_is); (case l => k_is); (case c => k_is); (case k => k_is)))
    (case D_depths => (refine' Nl.def_mk ?a ?l ?c ?k; (case a => k_is); (case l => k_is); (case c => k_is); (case k => k_is)))
    (case D_missed_by => (refine' Nl.def_mk ?a ?l ?c ?k; (case a => k_is); (case l => k_is); (case c => k_is); (case k => k_is)))
    (case D_law_cell_at => (refine' Nl.def_mk ?a ?l ?c ?k; (case a => k_is); (case l => k_is); (case c => k_is); (case k => k_is)))
    (case D_law_mixed => (refine' Nl.def_mk ?a ?l ?c ?k; (case a => k_is); (case l => k_is); (case c => k_is); (case k => k_is)))
    (case D_law_whole => (refine' Nl.def_mk ?a ?l ?c ?k; (case a => k_is); (case l => k_is); (case c => k_is); (case k => k_is)))
    (case D_law_size_by => (refine' Nl.def_mk ?a ?l ?c ?k; (case a => k_is); (case l => k_is); (case c => k_is); (case k => k_is)))
    (case D_law_touches_by => (refine' Nl.def_mk ?a ?l ?c ?k; (case a => k_is); (case l => k_is); (case c => k_is); (case k => k_is)))
    (case D_law_step => (refine' Nl.def_mk ?a ?l ?c ?k; (case a => k_is); (case l => k_is); (case c => k_is); (case k => k_is)))
    (case D_law => (refine' Nl.def_mk ?a ?l ?c ?k; (case a => k_is); (case l => k_is); (case c => k_is); (case k => k_is)))
    (case m_len => k_is)
    (case m_range => k_is)
    (case m_isinstance => k_is)
    (case m_int => k_is)
    (case m_list => k_is)
    (case m_str => k_is)
    (case m_bool => k_is)
    (case m_enumerate => k_is)
    (case m_set => k_is)
    (case g_ROUND => (refine' Nl.glob_mk ?h ?r; (case h => k_is); (case r => exact ⟨_, rfl⟩)))
    (case g_MOST => (refine' Nl.glob_mk ?h ?r; (case h => k_is); (case r => exact ⟨_, rfl⟩)))
    (case g_LEAST => (refine' Nl.glob_mk ?h ?r; (case h => k_is); (case r => exact ⟨_, rfl⟩)))
    (case g_FIRST => (refine' Nl.glob_mk ?h ?r; (case h => k_is); (case r => exact ⟨_, rfl⟩)))
    (case gB_BadBoxes => k_is)
    (case xB_BadBoxes => k_exc)
    (case kB_BadBoxes => k_is)
    (case bB_BadBoxes => k_is)
    (case tB_BadBoxes => k_is)
    (case gB_BadShape => k_is)
    (case xB_BadShape => k_exc)
    (case kB_BadShape => k_is)
    (case bB_BadShape => k_is)
    (case tB_BadShape => k_is)
    (case gB_NoBox => k_is)
    (case xB_NoBox => k_exc)
    (case kB_NoBox => k_is)
    (case bB_NoBox => k_is)
    (case tB_NoBox => k_is)
    (case gW_Near => k_is)
    (case cl_Near => (refine' Nl.cls_mk ?pg ?hd ?po ?sa; (case pg => k_is); (case hd => k_is); (case po => k_is); (case sa => k_is)))
    (case n_Near_far => k_is)
    (case n_Near_found => k_is)
    (case n_Near_missed => k_is)
    (case n_Near_back => k_is)
    (case n_Near_room => k_is)
    (case n_Near_width => k_is)
    (case n_Near_rule => k_is)
    (case n_Near_lines => k_is)
    (case n_Near_written => k_is)
    (case mk_Near => k_is)
    (case kc_Near => k_is)
    (case M_Near_init => (refine' Nl.meth_mk ?a ?i ?l ?c ?k; (case a => k_is); (case i => k_is); (case l => k_is); (case c => k_is); (case k => k_is)))
    (case M_Near_look => (refine' Nl.meth_mk ?a ?i ?l ?c ?k; (case a => k_is); (case i => k_is); (case l => k_is); (case c => k_is); (case k => k_is)))
    (case M_Near_put => (refine' Nl.meth_mk ?a ?i ?l ?c ?k; (case a => k_is); (case i => k_is); (case l => k_is); (case c => k_is); (case k => k_is)))
    (case M_Near_held => (refine' Nl.meth_mk ?a ?i ?l ?c ?k; (case a => k_is); (case i => k_is); (case l => k_is); (case c => k_is); (case k => k_is)))
    (case M_Near_touched_line => (refine' Nl.meth_mk ?a ?i ?l ?c ?k; (case a => k_is); (case i => k_is); (case l => k_is); (case c => k_is); (case k => k_is)))
    (case M_Near_find => (refine' Nl.meth_mk ?a ?i ?l ?c ?k; (case a => k_is); (case i => k_is); (case l => k_is); (case c => k_is); (case k => k_is)))
    (case M_Near_bring => (refine' Nl.meth_mk ?a ?i ?l ?c ?k; (case a => k_is); (case i => k_is); (case l => k_is); (case c => k_is); (case k => k_is)))
    (case M_Near_let_go => (refine' Nl.meth_mk ?a ?i ?l ?c ?k; (case a => k_is); (case i => k_is); (case l => k_is); (case c => k_is); (case k => k_is)))
    (case M_Near_write_back => (refine' Nl.meth_mk ?a ?i ?l ?c ?k; (case a => k_is); (case i => k_is); (case l => k_is); (case c => k_is); (case k => k_is)))

